/-
  Arguments of whatever types read again wherever what lay lies on; the last step of a law over them.
-/
import Derived.Test.YtklgggolkclebaaBytesLift
namespace Go.Proofs.Ytklgggolkclebaa
open Go.ChangeShapes Go.WideShapes Go.ChangeAt Go.RowKit

section
variable {H : Type} {enc : TypeId × Value → H}

theorem same_below {B : Nat} {W W' : World} (hb : Below B W W') {q : MemPlace} (hq : q.block < B) : W.sameAt W' q := by
  cases q with
  | cell b off => exact hb.cell (p := ⟨b, off, none⟩) hq
  | map b => exact hb.block b hq

theorem all_carry {W W' : World} {sp : Nat → Bool} : ∀ {ts : List TypeId} {vs : List Value} {ds : List (DataW H)} {ps : List MemPlace}, DataW.TrodAll enc Try.prog W 0 sp true ts vs ds ps → (∀ q ∈ ps, W.sameAt W' q) → DataW.TrodAll enc Try.prog W' 0 sp true ts vs ds ps
  | [], [], [], _, h, _ => h
  | _ :: _, _ :: _, _ :: _, _, ⟨p, q, ⟨n, h⟩, hs, e⟩, hq => by
    subst e
    exact ⟨p, q, ⟨n, DataW.trod_carry n _ _ _ h (fun x hx => hq x (by simp [hx]))⟩, all_carry hs (fun x hx => hq x (by simp [hx])), rfl⟩

theorem kids : Kids Try.prog (· < Try.prog.types.size) := kids_rows (by kernel_rfl) (by kernel_rfl)
theorem full : ∀ t e, t < Try.prog.types.size → Try.prog.underlying t = some (.slice e) → 0 < Try.prog.cellsOf e := slices_full_of _ (by kernel_rfl)

/-- **They read again.** -/
theorem all_again {W W' : World} {ts : List TypeId} {vs : List Value} {ds : List (DataW H)} {ps : List MemPlace} (hT : ∀ t ∈ ts, t < Try.prog.types.size) (h : DataW.TrodAll enc Try.prog W 0 (fun _ => true) true ts vs ds ps)
    (hlt : ∀ q ∈ ps, q.block < W.heap.size) (hb : Below W.heap.size W W') {sp : Nat → Bool} (hsp : ∀ q ∈ ps, sp q.block = true) : DataW.TrodAll enc Try.prog W' 0 sp true ts vs ds ps :=
  all_carry (h.respare kids full hT hsp) (fun q hq => same_below hb (hlt q hq))

/-- The last step: the law returned true, and whatever lay lies as it lay. -/
theorem true_last {f : Func} {s : ChangeSpec} {apart fresh handsOn again : Bool} {W W' : World} {args : Array Value} {ds gs : List (DataW H)} {pa : List MemPlace} {tb : TypeId}
    (hW : DataW.Whole enc Try.prog f.params.toList s.vars apart W args.toList ds gs pa) (hvars : s.vars = []) (hrt : f.resultTypes = #[tb]) (htb : Try.prog.underlying tb = some .bool)
    (hres : (s.fn H (ds ++ gs)).results = [.lit (.bool true)]) (hsv : (s.fn H (ds ++ gs)).vars = []) (hsa : (s.fn H (ds ++ gs)).args = ds) (hT : ∀ t ∈ f.params.toList, t < Try.prog.types.size)
    (hb : Below W.heap.size W W') : s.post enc Try.prog f apart fresh handsOn again W args (.bool true) W' := by
  have hlt : ∀ q ∈ pa, q.block < W.heap.size := fun q hq => hW.lt q hq
  refine true_post hW hvars hrt htb hres hsv (fun sp hsp => ?_) hb
  obtain ⟨p, q, hA, hV, rfl, _, _⟩ := hW
  rw [hvars] at hV
  obtain ⟨rfl, rfl⟩ := trodVars_none hV
  rw [hsa]
  have e : p ++ ([] : List MemPlace) = p := by simp
  rw [e] at hlt hsp ⊢
  exact all_again hT hA hlt hb hsp
end

end Go.Proofs.Ytklgggolkclebaa
