/-
  Bytes of which one is another one: the mathematics of a bent frame.
-/
import Derived.Laws.OwnMore
import Derived.Test.YtdjejkjkcahdgaaFrameKnown
namespace Go.Proofs.Ytdjejkjkcahdgaa
open Go.RowKit Go.Proofs.NumMath Go.Proofs.FrameMath

theorem set_split {cs : List UInt8} {k : Nat} (h : k < cs.length) (y : UInt8) : cs = cs.take k ++ cs.getD k 0 :: cs.drop (k + 1) ∧ cs.set k y = cs.take k ++ y :: cs.drop (k + 1) := by
  refine ⟨?_, List.set_eq_take_append_cons_drop ▸ by rw [if_pos h]⟩
  have e : cs.getD k 0 = cs[k] := by simp [h]
  rw [e, ← List.drop_eq_getElem_cons h, List.take_append_drop]
theorem sum_set {cs : List UInt8} {k : Nat} (h : k < cs.length) {y : UInt8} (hy : y ≠ cs.getD k 0) : sum (cs.set k y) ≠ sum cs := by
  obtain ⟨h1, h2⟩ := set_split h y
  intro he
  rw [h2] at he
  have e : sum cs = sum (cs.take k ++ cs.getD k 0 :: cs.drop (k + 1)) := by rw [← h1]
  rw [e] at he
  exact hy (sum_bent _ _ _ _ he)
theorem set_ne {cs : List UInt8} {k : Nat} (h : k < cs.length) {y : UInt8} (hy : y ≠ cs.getD k 0) : cs.set k y ≠ cs := fun he => by
  have : (cs.set k y).getD k 0 = cs.getD k 0 := by rw [he]
  simp [h] at this
  simp [h] at hy
  exact hy this
/-- **A frame of which a byte behind its length is another one is told to be wrong.** -/
theorem take_bent {cs : List UInt8} {p : Nat} (hp : p < 4 + cs.length) (hl : cs.length ≤ 4096) {y : UInt8} (hy : y ≠ (frame cs).getD ((put cs.length).length + p) 0) :
    take ((frame cs).set ((put cs.length).length + p) y) 0 = ([], 0, 30) := by
  have hf : frame cs = put cs.length ++ (four (sum cs) ++ cs) := rfl
  have e0 : (frame cs).set ((put cs.length).length + p) y = put cs.length ++ ((four (sum cs) ++ cs).set p y) := by
    rw [hf, List.set_append_right _ _ (by omega), Nat.add_sub_cancel_left]
  have e1 : (frame cs).getD ((put cs.length).length + p) 0 = (four (sum cs) ++ cs).getD p 0 := by
    rw [hf]; simp [List.getElem?_append_right]
  rw [e1] at hy
  rw [e0]
  by_cases h4 : p < 4
  · have e2 : (four (sum cs) ++ cs).set p y = (four (sum cs)).set p y ++ cs := List.set_append_left _ _ (by rw [four_length]; exact h4)
    have e3 : (four (sum cs) ++ cs).getD p 0 = (four (sum cs)).getD p 0 := by simp [List.getElem?_append_left (show p < (four (sum cs)).length by rw [four_length]; exact h4)]
    rw [e3] at hy
    rw [e2]
    have h := take_at [] ((four (sum cs)).set p y) cs [] (by simp [four_length]) hl
    rw [if_neg (set_ne (by rw [four_length]; exact h4) hy)] at h
    simpa using h
  · have e2 : (four (sum cs) ++ cs).set p y = four (sum cs) ++ cs.set (p - 4) y := List.set_append_right _ _ (by rw [four_length]; omega)
    have e3 : (four (sum cs) ++ cs).getD p 0 = cs.getD (p - 4) 0 := by simp [List.getElem?_append_right (show (four (sum cs)).length ≤ p by rw [four_length]; omega), four_length]
    rw [e3] at hy
    rw [e2]
    have h := take_at [] (four (sum cs)) (cs.set (p - 4) y) [] (four_length _) (by simpa using hl)
    rw [if_neg (fun he => sum_set (by omega) hy (four_inj (sum_lt _) (sum_lt _) he).symm)] at h
    simpa using h

/-- Another byte. -/
theorem bend (x v : UInt8) (hv : v.toNat ≠ 0) : ∃ y : UInt8, bits .xor .u8 (x.toNat : Int) (v.toNat : Int) = (y.toNat : Int) ∧ y ≠ x := by
  refine ⟨x ^^^ v, by rw [u8_xor_nat _ _ x.toNat_lt v.toNat_lt]; simp, fun h => hv ?_⟩
  have h1 := congrArg UInt8.toNat h
  rw [UInt8.toNat_xor] at h1
  have h2 : v.toNat = 0 := xor_cancel_left (c := x.toNat) (by simpa using h1)
  exact h2

end Go.Proofs.Ytdjejkjkcahdgaa
