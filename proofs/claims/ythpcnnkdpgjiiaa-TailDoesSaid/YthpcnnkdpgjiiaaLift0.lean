/-
  From a walk to a statement, for any layer: bounds of numbers that came in; arguments of whatever types read again wherever what lay lies on; the last step of a law that returns true and leaves all that lay as it lay.
-/
import Derived.Test.YthpcnnkdpgjiiaaRows
import Derived.WalkKit
import Derived.ProofKit
import Derived.OpenShut
import Derived.ChangeSlices
import Derived.ChangeMaps5
import Derived.ReadAgain
import Derived.SizedLaws
import Derived.Lib.Hide
namespace Go.Proofs.Ythpcnnkdpgjiiaa
open Go.ChangeShapes Go.WideShapes Go.ChangeAt Go.RowKit

theorem ret_b {a b : Bool} (h : a = b) : Ending.returned (.bool a) = .returned (.bool b) := by rw [h]
theorem ret_i {k : IntKind} {a b : Int} (h : a = b) : Ending.returned (.int k a) = .returned (.int k b) := by rw [h]
theorem own : ownKnob Try.prog.godebug = none := by kernel_rfl
theorem wf_u8 {n : Int} (h : (Lit.int .u8 n).wf = true) : 0 ≤ n ∧ n ≤ 255 := by
  have h1 : IntKind.u8.min = 0 := rfl
  have h2 : IntKind.u8.max = 255 := rfl
  simp only [Lit.wf, Bool.and_eq_true, decide_eq_true_eq] at h
  omega
theorem wf_u32 {n : Int} (h : (Lit.int .u32 n).wf = true) : 0 ≤ n ∧ n ≤ 4294967295 := by
  have h1 : IntKind.u32.min = 0 := rfl
  have h2 : IntKind.u32.max = 4294967295 := rfl
  simp only [Lit.wf, Bool.and_eq_true, decide_eq_true_eq] at h
  omega
theorem wf_u16 {n : Int} (h : (Lit.int .u16 n).wf = true) : 0 ≤ n ∧ n ≤ 65535 := by
  have h1 : IntKind.u16.min = 0 := rfl
  have h2 : IntKind.u16.max = 65535 := rfl
  simp only [Lit.wf, Bool.and_eq_true, decide_eq_true_eq] at h
  omega
theorem wf_i8 {n : Int} (h : (Lit.int .i8 n).wf = true) : -128 ≤ n ∧ n ≤ 127 := by
  have h1 : IntKind.i8.min = -128 := rfl
  have h2 : IntKind.i8.max = 127 := rfl
  simp only [Lit.wf, Bool.and_eq_true, decide_eq_true_eq] at h
  omega
theorem wf_i64 {n : Int} (h : (Lit.int .i64 n).wf = true) : -9223372036854775808 ≤ n ∧ n ≤ 9223372036854775807 := by
  have h1 : IntKind.i64.min = -9223372036854775808 := rfl
  have h2 : IntKind.i64.max = 9223372036854775807 := rfl
  simp only [Lit.wf, Bool.and_eq_true, decide_eq_true_eq] at h
  omega
theorem wf_u64 {n : Int} (h : (Lit.int .u64 n).wf = true) : 0 ≤ n ∧ n < 18446744073709551616 := by
  have h1 : IntKind.u64.min = 0 := rfl
  have h2 : IntKind.u64.max = 18446744073709551615 := rfl
  simp only [Lit.wf, Bool.and_eq_true, decide_eq_true_eq] at h
  omega


section
variable {H : Type} {enc : TypeId × Value → H}

set_option maxRecDepth 100000 in
/-- The last step: the law returned true, and whatever lay lies as it lay. -/
theorem true_post {f : Func} {s : ChangeSpec} {apart fresh handsOn again : Bool} {W W' : World} {args : Array Value} {ds gs : List (DataW H)} {pa : List MemPlace} {tb : TypeId}
    (hW : DataW.Whole enc Try.prog f.params.toList s.vars apart W args.toList ds gs pa) (hvars : s.vars = []) (hrt : f.resultTypes = #[tb]) (htb : Try.prog.underlying tb = some .bool)
    (hres : (s.fn H (ds ++ gs)).results = [.lit (.bool true)]) (hsv : (s.fn H (ds ++ gs)).vars = [])
    (hargs : ∀ sp : Nat → Bool, (∀ q ∈ pa, sp q.block = true) → DataW.TrodAll enc Try.prog W' 0 sp true f.params.toList args.toList (s.fn H (ds ++ gs)).args pa)
    (hb : Below W.heap.size W W') : s.post enc Try.prog f apart fresh handsOn again W args (.bool true) W' := by
  have lt : ∀ q ∈ pa, q.block < W.heap.size := fun q hq => hW.lt q hq
  have noVars : ∀ sp : Nat → Bool, DataW.TrodVars enc Try.prog W' sp s.vars (s.fn H (ds ++ gs)).vars [] := fun sp => by rw [hvars, hsv]; rfl
  have one : ∀ (b : Nat) (sp : Nat → Bool) (hd : Bool), DataW.TrodAll enc Try.prog W' b sp hd f.resultTypes.toList ((Value.bool true).resultList f.resultTypes.size) (s.fn H (ds ++ gs)).results [] := fun b sp hd => by
    rw [hrt, hres]
    exact trodAll_cons_mk (shut_bool htb true) trodAll_mk0
  have early : ∀ q ∈ pa, (fun b => decide (b < W.heap.size)) q.block = true := fun q hq => decide_eq_true (lt q hq)
  have whole := hW
  obtain ⟨_, _, _, _, _, frozen, apartness⟩ := hW
  refine ⟨ds, gs, pa, [], pa, [], whole, one _ _ _, hargs _ early, noVars _, World.keptBut_mono (fun q hq => ⟨hq, Or.inr (by simpa using hq)⟩) (hb.frame (· ∈ pa)), fun _ => ⟨?_, _, _, ([] ++ pa) ++ [], ⟨[] ++ pa, [], trodAll_append (hargs _ fun _ _ => rfl) (one _ _ _), noVars _, rfl, ?_, ?_⟩, ?_⟩⟩
  · exact ok_one hrt rfl (okWide_bool_mk htb _)
  · intro b off hq
    have hq' : MemPlace.cell b off ∈ pa := by simpa using hq
    rw [hb.frozen (lt _ hq')]
    exact frozen b off hq'
  · intro ha
    simpa using apartness ha
  · intro q hq _
    simpa using hq
theorem same_below {B : Nat} {W W' : World} (hb : Below B W W') {q : MemPlace} (hq : q.block < B) : W.sameAt W' q := by
  cases q with
  | cell b off => exact hb.cell (p := ⟨b, off, none⟩) hq
  | map b => exact hb.block b hq

theorem all_carry {W W' : World} {sp : Nat → Bool} : ∀ {ts : List TypeId} {vs : List Value} {ds : List (DataW H)} {ps : List MemPlace}, DataW.TrodAll enc Try.prog W 0 sp true ts vs ds ps → (∀ q ∈ ps, W.sameAt W' q) → DataW.TrodAll enc Try.prog W' 0 sp true ts vs ds ps
  | [], [], [], _, h, _ => h
  | _ :: _, _ :: _, _ :: _, _, ⟨p, q, ⟨n, h⟩, hs, e⟩, hq => by
    subst e
    exact ⟨p, q, ⟨n, DataW.trod_carry n _ _ _ h (fun x hx => hq x (by simp [hx]))⟩, all_carry hs (fun x hx => hq x (by simp [hx])), rfl⟩

theorem kids : Kids Try.prog (· < Try.prog.types.size) := kids_rows (by kernel_rfl) (by kernel_rfl)
theorem full : ∀ t e, t < Try.prog.types.size → Try.prog.underlying t = some (.slice e) → 0 < Try.prog.cellsOf e := slices_full_of _ (by kernel_rfl)

/-- **They read again.** -/
theorem all_again {W W' : World} {ts : List TypeId} {vs : List Value} {ds : List (DataW H)} {ps : List MemPlace} (hT : ∀ t ∈ ts, t < Try.prog.types.size) (h : DataW.TrodAll enc Try.prog W 0 (fun _ => true) true ts vs ds ps)
    (hlt : ∀ q ∈ ps, q.block < W.heap.size) (hb : Below W.heap.size W W') {sp : Nat → Bool} (hsp : ∀ q ∈ ps, sp q.block = true) : DataW.TrodAll enc Try.prog W' 0 sp true ts vs ds ps :=
  all_carry (h.respare kids full hT hsp) (fun q hq => same_below hb (hlt q hq))

/-- The last step: the law returned true, and whatever lay lies as it lay. -/
theorem true_last {f : Func} {s : ChangeSpec} {apart fresh handsOn again : Bool} {W W' : World} {args : Array Value} {ds gs : List (DataW H)} {pa : List MemPlace} {tb : TypeId}
    (hW : DataW.Whole enc Try.prog f.params.toList s.vars apart W args.toList ds gs pa) (hvars : s.vars = []) (hrt : f.resultTypes = #[tb]) (htb : Try.prog.underlying tb = some .bool)
    (hres : (s.fn H (ds ++ gs)).results = [.lit (.bool true)]) (hsv : (s.fn H (ds ++ gs)).vars = []) (hsa : (s.fn H (ds ++ gs)).args = ds) (hT : ∀ t ∈ f.params.toList, t < Try.prog.types.size)
    (hb : Below W.heap.size W W') : s.post enc Try.prog f apart fresh handsOn again W args (.bool true) W' := by
  have hlt : ∀ q ∈ pa, q.block < W.heap.size := fun q hq => hW.lt q hq
  refine true_post hW hvars hrt htb hres hsv (fun sp hsp => ?_) hb
  obtain ⟨p, q, hA, hV, rfl, _, _⟩ := hW
  rw [hvars] at hV
  obtain ⟨rfl, rfl⟩ := trodVars_none hV
  rw [hsa]
  have e : p ++ ([] : List MemPlace) = p := by simp
  rw [e] at hlt hsp ⊢
  exact all_again hT hA hlt hb hsp
end

end Go.Proofs.Ythpcnnkdpgjiiaa
