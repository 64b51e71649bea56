/-
  The document's own answers of layer 5 (telemeterref05): Kept, Threshold, at every number.
-/
import Derived.Test.YtkhbodlffhfmnaaDoorProbThr
namespace Go.Proofs.YtkhbodlffhfmnaaDoor
open Go.RowKit Go.Proofs.ProbMath

theorem refKept_any (t : Nat) (w : World) : Calls Tryd.prog 21 #[.int .u64 (t : Int)] w fun e w' => e = .returned (.int .u64 (kept t : Int)) ∧ w = w' := by
  by_cases h : 72057594037927936 ≤ t
  · have d : decide ((72057594037927936 : Int) ≤ (t : Int)) = true := by simp; omega
    go_enter Tryd.func21, Tryd.ntmps21
    go_wp2_with fail
    go_ret
    exact ⟨ret_i' (by unfold kept; omega), rfl⟩
  · have d : decide ((72057594037927936 : Int) ≤ (t : Int)) = false := by simp; omega
    go_enter Tryd.func21, Tryd.ntmps21
    go_wp2_with fail
    go_ret
    exact ⟨ret_i' (by unfold kept; omega), rfl⟩

set_option maxRecDepth 100000 in
set_option maxHeartbeats 1000000 in
theorem refShare_any (k n : Nat) (w : World) (hn : n < 18446744073709551616) (h0 : 0 < n) (h : k ≤ n) : Calls Tryd.prog 34 #[.int .u64 (k : Int), .int .u64 (n : Int)] w fun e w' => e = .returned (.int .u64 (share k n : Int)) ∧ w = w' := by
  by_cases hkn : k = n
  · subst hkn
    rw [share_all h0]
    have d : ((k : Int) == (k : Int)) = true := by simp
    go_enter Tryd.func34, Tryd.ntmps34
    go_wp2_with fail
    go_ret
    exact ⟨rfl, rfl⟩
  have d : ((k : Int) == (n : Int)) = false := by simp; omega
  go_enter Tryd.func34, Tryd.ntmps34
  go_wp2_with fail
  go_loop [5, 6, 7] (fun a b c => ∃ N R i : Nat, i ≤ 56 ∧ a = .int .u64 (N : Int) ∧ b = .int .u64 (R : Int) ∧ c = .int .i64 (i : Int) ∧ R < n ∧ N < 2 ^ i ∧ Hid (N * n + R = 2 ^ i * k)) (fun _ _ c => 56 - (intOf c).toNat)
  case atStart => exact ⟨0, k, 0, by omega, rfl, rfl, rfl, by omega, by simp, by simp [Hid]⟩
  case round =>
    obtain ⟨N, R, i, hi, rfl, rfl, rfl, hR, hN, hI⟩ := hrel
    by_cases hlt : i < 56
    · have dl : decide ((i : Int) < 56) = true := by simp; omega
      have hp : (2 : Nat) ^ i ≤ 2 ^ 55 := Nat.pow_le_pow_right (by omega) (by omega)
      have hNb : N < 36028797018963968 := by omega
      have hs : (2 : Nat) ^ (i + 1) = 2 ^ i * 2 := Nat.pow_succ 2 i
      have hJ : 2 * (N * n) + 2 * R = 2 ^ (i + 1) * k := by rw [hs, Nat.mul_right_comm, ← hI.out]; omega
      obtain ⟨N2, e1, hN2⟩ : ∃ N2 : Nat, (2 : Int) * (N : Int) = (N2 : Int) ∧ N2 = 2 * N := ⟨2 * N, by omega, rfl⟩
      obtain ⟨D, e2, hD⟩ : ∃ D : Nat, (n : Int) - (R : Int) = (D : Int) ∧ D + R = n := ⟨n - R, by omega, by omega⟩
      have hN3 : N2 < 72057594037927936 := by omega
      have hnew : N2 + 1 < 2 ^ (i + 1) := by omega
      have m2 : N2 * n = 2 * (N * n) := by rw [hN2, Nat.mul_assoc]
      by_cases hc : D ≤ R
      · have dc : decide ((D : Int) ≤ (R : Int)) = true := by simp; omega
        have dc' : decide (D ≤ R) = true := by simp; omega
        obtain ⟨Q, e3, hQ⟩ : ∃ Q : Nat, (R : Int) - (D : Int) = (Q : Int) ∧ Q + D = R := ⟨R - D, by omega, by omega⟩
        have hK : (N2 + 1) * n + Q = 2 ^ (i + 1) * k := by rw [← hJ, Nat.add_mul, m2, Nat.one_mul]; omega
        have HK := Lib.hid hK
        have HW := Lib.hid hnew
        have hQn : Q < n := by omega
        clear hK hJ hI hp hs hN hnew m2 hN2
        go_wp2_with fail
        go_round
        case rel => exact ⟨N2 + 1, Q, i + 1, by omega, by go_num, rfl, by go_num, hQn, HW.out, HK⟩
        case measure => simp [intOf]; omega
      · have dc : decide ((D : Int) ≤ (R : Int)) = false := by simp; omega
        have dc' : decide (D ≤ R) = false := by simp; omega
        obtain ⟨Q, e3, hQ⟩ : ∃ Q : Nat, (2 : Int) * (R : Int) = (Q : Int) ∧ Q = 2 * R := ⟨2 * R, by omega, rfl⟩
        have hK : N2 * n + Q = 2 ^ (i + 1) * k := by rw [← hJ, m2]; omega
        have HK := Lib.hid hK
        have hnew' : N2 < 2 ^ (i + 1) := by omega
        have HW := Lib.hid hnew'
        have hQn : Q < n := by omega
        clear hK hJ hI hp hs hN hnew hnew' m2 hN2 hQ hD
        go_wp2_with fail
        go_round
        case rel => exact ⟨N2, Q, i + 1, by omega, rfl, rfl, by go_num, hQn, HW.out, HK⟩
        case measure => simp [intOf]; omega
    · have dl : decide ((i : Int) < 56) = false := by simp; omega
      obtain rfl : i = 56 := by omega
      have hfin : N = share k n := by
        have := div_of (72057594037927936 * k) n N R (by have := hI.out; omega) hR
        exact this.1.symm
      have HF := Lib.hid hfin
      clear hfin hI hN
      go_wp2_with fail
      go_ret
      exact ⟨by rw [← HF.out]; rfl, rfl⟩

theorem refThreshold_bad (k n : Nat) (w : World) (h : n = 0 ∨ n < k) : Calls Tryd.prog 24 #[.int .u64 (k : Int), .int .u64 (n : Int)] w fun e w' => e = .returned (.tuple #[.int .u64 0, .int .i64 1]) ∧ w = w' := by
  by_cases h0 : n = 0
  · subst h0
    go_enter Tryd.func24, Tryd.ntmps24
    go_wp2_with fail
    go_ret2
    exact ⟨rfl, rfl⟩
  · have d0 : ((n : Int) == 0) = false := by simp; omega
    have d1 : decide ((n : Int) < (k : Int)) = true := by simp; omega
    have d2 : decide (n < k) = true := by simp; omega
    go_enter Tryd.func24, Tryd.ntmps24
    go_wp2_with fail
    go_ret2
    exact ⟨rfl, rfl⟩

theorem refThreshold_any (k n : Nat) (w : World) (hn : n < 18446744073709551616) (h0 : 0 < n) (h : k ≤ n) : Calls Tryd.prog 24 #[.int .u64 (k : Int), .int .u64 (n : Int)] w fun e w' => e = .returned (.tuple #[.int .u64 ((72057594037927936 - share k n : Nat) : Int), .int .i64 0]) ∧ w = w' := by
  have d0 : ((n : Int) == 0) = false := by simp; omega
  have d1 : decide ((n : Int) < (k : Int)) = false := by simp; omega
  have d2 : decide (n < k) = false := by simp; omega
  have hp := fun W => refShare_any k n W hn h0 h
  have hle := share_le h
  obtain ⟨s, hs2⟩ : ∃ s, s = share k n := ⟨_, rfl⟩
  rw [← hs2] at hp hle ⊢
  have HP := Lib.hid hp
  clear hp hs2
  go_enter Tryd.func24, Tryd.ntmps24
  go_wp2_with fail
  refine (HP.out _).mono ?_
  rintro e w1 ⟨rfl, rfl⟩
  go_wp2_with fail
  go_ret2
  refine ⟨?_, rfl⟩
  rw [show ((72057594037927936 - s : Nat) : Int) = 72057594037927936 - (s : Int) by omega]
  rfl

end Go.Proofs.YtkhbodlffhfmnaaDoor
