/-
  From a walk to a statement: an argument that is a slice of bytes, opened and read again; the last step for a law that returns true and leaves all that lay as it lay.
-/
import Derived.Test.YtklgggolkclebaaRows
import Derived.WalkKit
import Derived.ProofKit
import Derived.OpenShut
import Derived.ChangeSlices
import Derived.ChangeMaps5
import Derived.ReadAgain
import Derived.SizedLaws
import Derived.Test.YtklgggolkclebaaNumBytes
namespace Go.Proofs.Ytklgggolkclebaa
open Go.ChangeShapes Go.WideShapes Go.ChangeAt Go.RowKit Go.Proofs.NumMath

theorem own : ownKnob Try.prog.godebug = none := by kernel_rfl
theorem cells_u8 : Try.prog.cellsOf 5 = 1 := by kernel_rfl

theorem wf_u8 {n : Int} (h : (Lit.int .u8 n).wf = true) : 0 ≤ n ∧ n ≤ 255 := by
  have h1 : IntKind.u8.min = 0 := rfl
  have h2 : IntKind.u8.max = 255 := rfl
  simp only [Lit.wf, Bool.and_eq_true, decide_eq_true_eq] at h
  omega
theorem wf_u16 {n : Int} (h : (Lit.int .u16 n).wf = true) : 0 ≤ n ∧ n ≤ 65535 := by
  have h1 : IntKind.u16.min = 0 := rfl
  have h2 : IntKind.u16.max = 65535 := rfl
  simp only [Lit.wf, Bool.and_eq_true, decide_eq_true_eq] at h
  omega
theorem wf_i8 {n : Int} (h : (Lit.int .i8 n).wf = true) : -128 ≤ n ∧ n ≤ 127 := by
  have h1 : IntKind.i8.min = -128 := rfl
  have h2 : IntKind.i8.max = 127 := rfl
  simp only [Lit.wf, Bool.and_eq_true, decide_eq_true_eq] at h
  omega
theorem wf_i64 {n : Int} (h : (Lit.int .i64 n).wf = true) : -9223372036854775808 ≤ n ∧ n ≤ 9223372036854775807 := by
  have h1 : IntKind.i64.min = -9223372036854775808 := rfl
  have h2 : IntKind.i64.max = 9223372036854775807 := rfl
  simp only [Lit.wf, Bool.and_eq_true, decide_eq_true_eq] at h
  omega
theorem wf_u64 {n : Int} (h : (Lit.int .u64 n).wf = true) : 0 ≤ n ∧ n < 18446744073709551616 := by
  have h1 : IntKind.u64.min = 0 := rfl
  have h2 : IntKind.u64.max = 18446744073709551615 := rfl
  simp only [Lit.wf, Bool.and_eq_true, decide_eq_true_eq] at h
  omega

section
variable {H : Type} {enc : TypeId × Value → H}

set_option maxRecDepth 100000 in
/-- An argument that is a slice of bytes: what it holds; it reads again wherever what lay lies on. -/
theorem arg_bytes {W : World} {base : Nat} {v : Value} {d : DataW H} {p : List MemPlace} (hval : Value.okWide Try.prog W .any base 22 v) (h : DataW.Trod enc Try.prog W 0 (fun _ => true) true 22 v d p) :
    ∃ (A : Option Addr) (cs : List UInt8) (cap : Nat), v = .slice A cs.length cap ∧ cs.length ≤ cap ∧ cap ≤ 9223372036854775807 ∧ Holds8 W.heap.size W A cs ∧
      ∀ (W' : World) (sp : Nat → Bool), Below W.heap.size W W' → (∀ q ∈ p, sp q.block = true) → DataW.Trod enc Try.prog W' 0 sp true 22 v d p := by
  obtain ⟨a0, len, cap, rfl⟩ := okWide_slice Try.underlying22 hval
  obtain ⟨fuel, hf⟩ := h
  rcases open_ints Try.underlying22 Try.underlying5 cells_u8 hf with ⟨hcs, hx⟩ | ⟨a, len', cap', zs, hcs, _, hl, hm, hz, hx, hcell, hwz⟩
  · simp [Value.cells] at hcs
    obtain ⟨rfl, rfl, rfl⟩ := hcs
    simp only [Prod.mk.injEq] at hx
    obtain ⟨rfl, rfl⟩ := hx
    exact ⟨none, [], 0, rfl, by simp, by omega, fun h => absurd h (by simp), fun W' sp _ _ => shut_slice_nil Try.underlying22⟩
  · simp [Value.cells] at hcs
    obtain ⟨rfl, rfl, rfl⟩ := hcs
    simp only [Prod.mk.injEq] at hx
    obtain ⟨rfl, rfl⟩ := hx
    simp only [if_true] at hz
    have hlen : ((zs.take len).map fun n => UInt8.ofNat n.toNat).length = len := by simp; omega
    unfold maxLen at hm
    have hlt : ∀ i, i < zs.length → a.block < W.heap.size := fun i hi => by
      have h1 := hcell i hi
      have h2 : (a.add i).block = a.block := by unfold Addr.add; split <;> rfl
      rcases Nat.lt_or_ge a.block W.heap.size with h3 | h3
      · exact h3
      · simp [World.cell?, h2, Array.getElem?_eq_none h3] at h1
    refine ⟨some a, (zs.take len).map fun n => UInt8.ofNat n.toNat, cap, by rw [hlen], by rw [hlen]; exact hl, hm, fun h0 => ?_, fun W' sp hb hsp => ⟨2, ?_⟩⟩
    · rw [hlen] at h0
      obtain ⟨b, off, spot⟩ := a
      have hspot : spot = none := by simpa [Addr.add] using World.cell?_spot (hcell 0 (by omega))
      subst hspot
      refine ⟨b, off, rfl, hlt 0 (by omega), fun j hj => ?_⟩
      rw [hlen] at hj
      rw [← add_plain, hcell j (by omega)]
      have hjz : j < zs.length := by omega
      have hw := wf_u8 (hwz (zs[j]) (List.getElem_mem hjz))
      have e1 : zs.getD j 0 = zs[j] := by simp [List.getD, hjz]
      have e2 : ((zs.take len).map fun n => UInt8.ofNat n.toNat).getD j 0 = UInt8.ofNat (zs[j]).toNat := by
        simp [List.getD, hj, hjz]
      rw [e1, e2, b8]
      have e3 : ((UInt8.ofNat (zs[j]).toNat).toNat : Int) = zs[j] := by simp; omega
      rw [e3]
    · refine shut_ints 0 Try.underlying22 Try.underlying5 cells_u8 (Nat.zero_le _) hl (by unfold maxLen; exact hm) ?_ (fun i hi => ?_) hwz
      · by_cases h0 : zs.length = 0
        · rw [h0]; split <;> omega
        · have : sp a.block = true := hsp (.cell a.block a.off) (MemPlace.mem_row.2 ⟨0, by omega, rfl⟩)
          rw [if_pos this]; exact hz
      · have h2 : (a.add i).block < W.heap.size := by
          have : (a.add i).block = a.block := by unfold Addr.add; split <;> rfl
          rw [this]; exact hlt i hi
        exact (hb.cell h2).trans (hcell i hi)

set_option maxRecDepth 100000 in
/-- The last step: the law returned true, and whatever lay lies as it lay. -/
theorem true_post {f : Func} {s : ChangeSpec} {apart fresh handsOn again : Bool} {W W' : World} {args : Array Value} {ds gs : List (DataW H)} {pa : List MemPlace} {tb : TypeId}
    (hW : DataW.Whole enc Try.prog f.params.toList s.vars apart W args.toList ds gs pa) (hvars : s.vars = []) (hrt : f.resultTypes = #[tb]) (htb : Try.prog.underlying tb = some .bool)
    (hres : (s.fn H (ds ++ gs)).results = [.lit (.bool true)]) (hsv : (s.fn H (ds ++ gs)).vars = [])
    (hargs : ∀ sp : Nat → Bool, (∀ q ∈ pa, sp q.block = true) → DataW.TrodAll enc Try.prog W' 0 sp true f.params.toList args.toList (s.fn H (ds ++ gs)).args pa)
    (hb : Below W.heap.size W W') : s.post enc Try.prog f apart fresh handsOn again W args (.bool true) W' := by
  have lt : ∀ q ∈ pa, q.block < W.heap.size := fun q hq => hW.lt q hq
  have noVars : ∀ sp : Nat → Bool, DataW.TrodVars enc Try.prog W' sp s.vars (s.fn H (ds ++ gs)).vars [] := fun sp => by rw [hvars, hsv]; rfl
  have one : ∀ (b : Nat) (sp : Nat → Bool) (hd : Bool), DataW.TrodAll enc Try.prog W' b sp hd f.resultTypes.toList ((Value.bool true).resultList f.resultTypes.size) (s.fn H (ds ++ gs)).results [] := fun b sp hd => by
    rw [hrt, hres]
    exact trodAll_cons_mk (shut_bool htb true) trodAll_mk0
  have early : ∀ q ∈ pa, (fun b => decide (b < W.heap.size)) q.block = true := fun q hq => decide_eq_true (lt q hq)
  have whole := hW
  obtain ⟨_, _, _, _, _, frozen, apartness⟩ := hW
  refine ⟨ds, gs, pa, [], pa, [], whole, one _ _ _, hargs _ early, noVars _, World.keptBut_mono (fun q hq => ⟨hq, Or.inr (by simpa using hq)⟩) (hb.frame (· ∈ pa)), fun _ => ⟨?_, _, _, ([] ++ pa) ++ [], ⟨[] ++ pa, [], trodAll_append (hargs _ fun _ _ => rfl) (one _ _ _), noVars _, rfl, ?_, ?_⟩, ?_⟩⟩
  · exact ok_one hrt rfl (okWide_bool_mk htb _)
  · intro b off hq
    have hq' : MemPlace.cell b off ∈ pa := by simpa using hq
    rw [hb.frozen (lt _ hq')]
    exact frozen b off hq'
  · intro ha
    simpa using apartness ha
  · intro q hq _
    simpa using hq
theorem arg_extra {W : World} {A : Option Addr} {len cap : Nat} {d : DataW H} {p : List MemPlace} (h : DataW.Trod enc Try.prog W 0 (fun _ => true) true 22 (.slice A len cap) d p) :
    (A = none → cap = 0) ∧ (len = 0 ∨ ∃ el sp, d = .slice el sp ∧ el.length = len) := by
  obtain ⟨fuel, hf⟩ := h
  rcases open_ints Try.underlying22 Try.underlying5 cells_u8 hf with ⟨hcs, hx⟩ | ⟨a, len', cap', zs, hcs, _, hl, hm, hz, hx, hcell, hwz⟩
  · simp [Value.cells] at hcs
    obtain ⟨rfl, rfl, rfl⟩ := hcs
    exact ⟨fun _ => rfl, .inl rfl⟩
  · simp [Value.cells] at hcs
    obtain ⟨rfl, rfl, rfl⟩ := hcs
    simp only [Prod.mk.injEq] at hx
    simp only [if_true] at hz
    refine ⟨fun h => (by cases h), .inr ⟨_, _, hx.1, ?_⟩⟩
    simp [lits]; omega
theorem bytes_u8 : Try.prog.bytesOf 5 = 1 := by kernel_rfl
theorem arg_reach {ts : List TypeId} {ds : List (DataW H)} (hsz : (DataW.weightsEach Try.prog ts ds).all (· ≤ reachBytes) = true) {j len : Nat} {d : DataW H} (hx : len = 0 ∨ ∃ el sp, d = .slice el sp ∧ el.length = len) (ht : ts[j]? = some 22) (hd : ds[j]? = some d) : len ≤ 140737488351232 := by
  rcases hx with h | ⟨el, sp, rfl, hel⟩
  · omega
  · have h := sized_slice hsz ht hd Try.underlying22
    rw [bytes_u8] at h
    have : reachBytes = 140737488351232 := by decide
    omega
end

end Go.Proofs.Ytklgggolkclebaa
