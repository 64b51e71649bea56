/-
  Contracts of package rate's By, Clamp, Toward, and of the document's own, at every number.
-/
import Derived.Test.YtkhbodlffhfmnaaDoorProbRefThr
import Derived.Test.YtkhbodlffhfmnaaDoorRtMath
namespace Go.Proofs.YtkhbodlffhfmnaaDoor
open Go.RowKit Go.Proofs.ProbMath Go.Proofs.RtMath

theorem rateBy_any (t c : Nat) (w : World) (hc : c < 18446744073709551616) : Calls Tryd.prog 12 #[.int .u64 (t : Int), .int .u64 (c : Int)] w fun e w' => e = .returned (.int .u64 (byN t c : Int)) ∧ Below w.heap.size w w' := by
  by_cases h : c ≤ t
  · have d : decide ((c : Int) ≤ (t : Int)) = true := by simp; omega
    have d' : decide (c ≤ t) = true := by simp; omega
    rw [byN_0 h]
    clear h
    go_enter Tryd.func12, Tryd.ntmps12
    go_wp2_with fail
    go_ret
    exact ⟨rfl, Below.refl _ _⟩
  · have d : decide ((c : Int) ≤ (t : Int)) = false := by simp; omega
    have d' : decide (c ≤ t) = false := by simp; omega
    have hT := fun W => threshold_any t c W hc (by omega) (by omega)
    have e : byN t c = 72057594037927936 - share t c := if_neg h
    rw [e]
    obtain ⟨x, hx⟩ : ∃ x, 72057594037927936 - share t c = x := ⟨_, rfl⟩
    rw [hx] at hT ⊢
    have HT := Lib.hid hT
    clear hT e hx h
    go_enter Tryd.func12, Tryd.ntmps12
    go_wp2_with fail
    refine (HT.out _).mono ?_
    rintro e w1 ⟨rfl, hb⟩
    go_wp2_with fail
    go_ret
    exact ⟨rfl, hb⟩
theorem refBy_any (t c : Nat) (w : World) (hc : c < 18446744073709551616) : Calls Tryd.prog 13 #[.int .u64 (t : Int), .int .u64 (c : Int)] w fun e w' => e = .returned (.int .u64 (byN t c : Int)) ∧ w = w' := by
  by_cases h : c ≤ t
  · have d : decide ((c : Int) ≤ (t : Int)) = true := by simp; omega
    have d' : decide (c ≤ t) = true := by simp; omega
    rw [byN_0 h]
    clear h
    go_enter Tryd.func13, Tryd.ntmps13
    go_wp2_with fail
    go_ret
    exact ⟨rfl, rfl⟩
  · have d : decide ((c : Int) ≤ (t : Int)) = false := by simp; omega
    have d' : decide (c ≤ t) = false := by simp; omega
    have hT := fun W => refThreshold_any t c W hc (by omega) (by omega)
    have e : byN t c = 72057594037927936 - share t c := if_neg h
    rw [e]
    obtain ⟨x, hx⟩ : ∃ x, 72057594037927936 - share t c = x := ⟨_, rfl⟩
    rw [hx] at hT ⊢
    have HT := Lib.hid hT
    clear hT e hx h
    go_enter Tryd.func13, Tryd.ntmps13
    go_wp2_with fail
    refine (HT.out _).mono ?_
    rintro e w1 ⟨rfl, rfl⟩
    go_wp2_with fail
    go_ret
    exact ⟨rfl, rfl⟩

theorem clamp_any (t lo hi : Nat) (w : World) : Calls Tryd.prog 14 #[.int .u64 (t : Int), .int .u64 (lo : Int), .int .u64 (hi : Int)] w fun e w' => e = .returned (.int .u64 (mid t lo hi : Int)) ∧ w = w' := by
  go_enter Tryd.func14, Tryd.ntmps14
  go_wp2_with fail
  go_ret
  exact ⟨ret_i' (by unfold mid; omega), rfl⟩
theorem refClamp_any (t lo hi : Nat) (w : World) : Calls Tryd.prog 15 #[.int .u64 (t : Int), .int .u64 (lo : Int), .int .u64 (hi : Int)] w fun e w' => e = .returned (.int .u64 (mid t lo hi : Int)) ∧ w = w' := by
  by_cases h : t < lo
  · have d : decide ((t : Int) < (lo : Int)) = true := by simp; omega
    have d' : decide (t < lo) = true := by simp; omega
    by_cases h2 : hi < lo
    · have e : decide ((hi : Int) < (lo : Int)) = true := by simp; omega
      have e' : decide (hi < lo) = true := by simp; omega
      have hm : mid t lo hi = hi := by unfold mid; omega
      rw [hm]
      clear h h2 hm
      go_enter Tryd.func15, Tryd.ntmps15
      go_wp2_with fail
      go_ret
      exact ⟨rfl, rfl⟩
    · have e : decide ((hi : Int) < (lo : Int)) = false := by simp; omega
      have e' : decide (hi < lo) = false := by simp; omega
      have hm : mid t lo hi = lo := by unfold mid; omega
      rw [hm]
      clear h h2 hm
      go_enter Tryd.func15, Tryd.ntmps15
      go_wp2_with fail
      go_ret
      exact ⟨rfl, rfl⟩
  · have d : decide ((t : Int) < (lo : Int)) = false := by simp; omega
    have d' : decide (t < lo) = false := by simp; omega
    by_cases h2 : hi < t
    · have e : decide ((hi : Int) < (t : Int)) = true := by simp; omega
      have e' : decide (hi < t) = true := by simp; omega
      have hm : mid t lo hi = hi := by unfold mid; omega
      rw [hm]
      clear h h2 hm
      go_enter Tryd.func15, Tryd.ntmps15
      go_wp2_with fail
      go_ret
      exact ⟨rfl, rfl⟩
    · have e : decide ((hi : Int) < (t : Int)) = false := by simp; omega
      have e' : decide (hi < t) = false := by simp; omega
      have hm : mid t lo hi = t := by unfold mid; omega
      rw [hm]
      clear h h2 hm
      go_enter Tryd.func15, Tryd.ntmps15
      go_wp2_with fail
      go_ret
      exact ⟨rfl, rfl⟩
end Go.Proofs.YtkhbodlffhfmnaaDoor
