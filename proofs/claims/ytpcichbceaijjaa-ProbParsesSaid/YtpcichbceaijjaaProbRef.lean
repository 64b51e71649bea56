/-
  The document's own answers of layer 5 (telemeterref05): Keep, Kept, Threshold, Weight, at every number.
-/
import Derived.Test.YtpcichbceaijjaaProbKnown
import Derived.Test.YtpcichbceaijjaaProbBackMath
namespace Go.Proofs.Ytpcichbceaijjaa
open Go.RowKit Go.Proofs.ProbMath

theorem refKeep_any (r t : Nat) (w : World) : Calls Try.prog 21 #[.int .u64 (r : Int), .int .u64 (t : Int)] w fun e w' => e = .returned (.bool (keep r t)) ∧ w = w' := by
  by_cases h1 : r < 72057594037927936
  · have d : decide ((r : Int) < 72057594037927936) = true := by simp; omega
    have hres : decide (t ≤ r) = keep r t := by unfold keep; simp [h1]
    have H := Lib.hid hres
    clear hres
    go_enter Try.func21, Try.ntmps21
    go_wp2_with fail
    all_goals
      go_ret
      exact ⟨ret_b' (by rw [← H.out]), rfl⟩
  · have d : decide ((r : Int) < 72057594037927936) = false := by simp; omega
    have hres : false = keep r t := by unfold keep; simp [h1]
    have H := Lib.hid hres
    clear hres
    go_enter Try.func21, Try.ntmps21
    go_wp2_with fail
    all_goals
      go_ret
      exact ⟨ret_b' H.out, rfl⟩

theorem refKept_any (t : Nat) (w : World) : Calls Try.prog 23 #[.int .u64 (t : Int)] w fun e w' => e = .returned (.int .u64 (kept t : Int)) ∧ w = w' := by
  by_cases h : 72057594037927936 ≤ t
  · have d : decide ((72057594037927936 : Int) ≤ (t : Int)) = true := by simp; omega
    go_enter Try.func23, Try.ntmps23
    go_wp2_with fail
    go_ret
    exact ⟨ret_i' (by unfold kept; omega), rfl⟩
  · have d : decide ((72057594037927936 : Int) ≤ (t : Int)) = false := by simp; omega
    go_enter Try.func23, Try.ntmps23
    go_wp2_with fail
    go_ret
    exact ⟨ret_i' (by unfold kept; omega), rfl⟩

set_option maxHeartbeats 1000000 in
theorem divisor_any (a b : Nat) (w : World) (ha : a < 18446744073709551616) (hb : b < 18446744073709551616) :
    Calls Try.prog 33 #[.int .u64 (a : Int), .int .u64 (b : Int)] w fun e w' => e = .returned (.int .u64 ((Nat.gcd a b : Nat) : Int)) ∧ w = w' := by
  go_enter Try.func33, Try.ntmps33
  go_wp2_with fail
  go_loop [0, 1] (fun p q => ∃ x y : Nat, p = .int .u64 (x : Int) ∧ q = .int .u64 (y : Int) ∧ x < 18446744073709551616 ∧ y < 18446744073709551616 ∧ Hid (Nat.gcd x y = Nat.gcd a b)) (fun _ q => (intOf q).toNat)
  case atStart => exact ⟨a, b, rfl, rfl, ha, hb, rfl⟩
  case round =>
    obtain ⟨x, y, rfl, rfl, hx, hy, hg⟩ := hrel
    rcases Nat.eq_zero_or_pos y with rfl | h0
    · have d : decide ((0 : Int) < ((0 : Nat) : Int)) = false := by simp
      rw [Nat.gcd_zero_right] at hg
      go_wp2_with fail
      go_ret
      exact ⟨by rw [← hg.out]; rfl, rfl⟩
    · have d : decide ((0 : Int) < (y : Int)) = true := by simp; omega
      have d' : ((y : Int) == 0) = false := by simp; omega
      obtain ⟨r, hr⟩ : ∃ r, r = x % y := ⟨_, rfl⟩
      have hrl : r < y := by rw [hr]; exact Nat.mod_lt _ h0
      have e2 : (x : Int) % (y : Int) = (r : Int) := by rw [hr]; simp
      have hg2 : Nat.gcd y r = Nat.gcd a b := by rw [hr, ← hg.out, Nat.gcd_comm x y, Nat.gcd_rec y x, Nat.gcd_comm]
      have HG := Lib.hid hg2
      clear hg hg2 hr
      go_wp2_with fail
      go_round
      case rel => exact ⟨y, r, rfl, by rw [e2], by omega, by omega, HG⟩
      case measure => simp [intOf]; omega

set_option maxRecDepth 100000 in
theorem refWeight_bad (t : Nat) (w : World) (h : 72057594037927936 ≤ t) : Calls Try.prog 17 #[.int .u64 (t : Int)] w fun e w' => e = .returned (.tuple #[.int .u64 0, .int .u64 0, .int .i64 1]) ∧ Below w.heap.size w w' := by
  have d : decide (72057594037927936 ≤ (t : Int)) = true := by simp; omega
  go_enter Try.func17, Try.ntmps17
  go_wp2_with fail
  go_ret3
  exact ⟨rfl, Below.refl _ _⟩

set_option maxRecDepth 100000 in
set_option maxHeartbeats 1000000 in
theorem refWeight_any (t : Nat) (w : World) (h : t < 72057594037927936) : Calls Try.prog 17 #[.int .u64 (t : Int)] w fun e w' => e = .returned (.tuple #[.int .u64 ((72057594037927936 / both t : Nat) : Int), .int .u64 ((kept t / both t : Nat) : Int), .int .i64 0]) ∧ Below w.heap.size w w' := by
  have d : decide (72057594037927936 ≤ (t : Int)) = false := by simp; omega
  have hgp := gcd_pos t
  have hgl := both_le t
  obtain ⟨k, hk⟩ : ∃ k, k = kept t := ⟨_, rfl⟩
  have hkl : k ≤ 72057594037927936 := by rw [hk]; unfold kept; omega
  have ek : (72057594037927936 : Int) - (t : Int) = (k : Int) := by rw [hk]; unfold kept; omega
  have hg0 : Nat.gcd 72057594037927936 k = both t := by rw [hk]; rfl
  obtain ⟨g, hg⟩ : ∃ g, g = both t := ⟨_, rfl⟩
  rw [← hg] at hgp hgl hg0 ⊢
  rw [← hk]
  have e1 : (72057594037927936 : Int) / (g : Int) = ((72057594037927936 / g : Nat) : Int) := by rw [show (72057594037927936 : Int) = ((72057594037927936 : Nat) : Int) from rfl]; exact (Int.natCast_ediv _ _).symm
  have e2 : (k : Int) / (g : Int) = ((k / g : Nat) : Int) := by simp
  obtain ⟨a, ha⟩ : ∃ a, a = 72057594037927936 / g := ⟨_, rfl⟩
  obtain ⟨b, hb⟩ : ∃ b, b = k / g := ⟨_, rfl⟩
  have hal : a ≤ 72057594037927936 := by rw [ha]; exact Nat.div_le_self _ _
  have hbl : b ≤ k := by rw [hb]; exact Nat.div_le_self _ _
  rw [← ha] at e1 ⊢
  rw [← hb] at e2 ⊢
  have e3 : IntKind.u64.wrap (a : Int) = (a : Int) := by rw [IntKind.wrap_u64]; omega
  have e4 : IntKind.u64.wrap (b : Int) = (b : Int) := by rw [IntKind.wrap_u64]; omega
  have e5 : ((g : Int) == 0) = false := by simp; omega
  have HG := Lib.hid hg0
  clear hk hg0 hg ha hb
  go_enter Try.func17, Try.ntmps17
  go_wp2_with fail
  refine (divisor_any 72057594037927936 k _ (by omega) (by omega)).mono ?_
  rintro e w1 ⟨rfl, rfl⟩
  rw [HG.out]
  go_wp2_with fail
  go_quiet (fail)
  go_wp2_with fail
  go_ret3
  exact ⟨by rw [← e1, ← e2]; rfl, draws (Below.refl _ _) _⟩

set_option maxRecDepth 100000 in
set_option maxHeartbeats 1000000 in
theorem refShare_any (k n : Nat) (w : World) (hn : n < 18446744073709551616) (h0 : 0 < n) (h : k ≤ n) : Calls Try.prog 38 #[.int .u64 (k : Int), .int .u64 (n : Int)] w fun e w' => e = .returned (.int .u64 (share k n : Int)) ∧ w = w' := by
  by_cases hkn : k = n
  · subst hkn
    rw [share_all h0]
    have d : ((k : Int) == (k : Int)) = true := by simp
    go_enter Try.func38, Try.ntmps38
    go_wp2_with fail
    go_ret
    exact ⟨rfl, rfl⟩
  have d : ((k : Int) == (n : Int)) = false := by simp; omega
  go_enter Try.func38, Try.ntmps38
  go_wp2_with fail
  go_loop [5, 6, 7] (fun a b c => ∃ N R i : Nat, i ≤ 56 ∧ a = .int .u64 (N : Int) ∧ b = .int .u64 (R : Int) ∧ c = .int .i64 (i : Int) ∧ R < n ∧ N < 2 ^ i ∧ Hid (N * n + R = 2 ^ i * k)) (fun _ _ c => 56 - (intOf c).toNat)
  case atStart => exact ⟨0, k, 0, by omega, rfl, rfl, rfl, by omega, by simp, by simp [Hid]⟩
  case round =>
    obtain ⟨N, R, i, hi, rfl, rfl, rfl, hR, hN, hI⟩ := hrel
    by_cases hlt : i < 56
    · have dl : decide ((i : Int) < 56) = true := by simp; omega
      have hp : (2 : Nat) ^ i ≤ 2 ^ 55 := Nat.pow_le_pow_right (by omega) (by omega)
      have hNb : N < 36028797018963968 := by omega
      have hs : (2 : Nat) ^ (i + 1) = 2 ^ i * 2 := Nat.pow_succ 2 i
      have hJ : 2 * (N * n) + 2 * R = 2 ^ (i + 1) * k := by rw [hs, Nat.mul_right_comm, ← hI.out]; omega
      obtain ⟨N2, e1, hN2⟩ : ∃ N2 : Nat, (2 : Int) * (N : Int) = (N2 : Int) ∧ N2 = 2 * N := ⟨2 * N, by omega, rfl⟩
      obtain ⟨D, e2, hD⟩ : ∃ D : Nat, (n : Int) - (R : Int) = (D : Int) ∧ D + R = n := ⟨n - R, by omega, by omega⟩
      have hN3 : N2 < 72057594037927936 := by omega
      have hnew : N2 + 1 < 2 ^ (i + 1) := by omega
      have m2 : N2 * n = 2 * (N * n) := by rw [hN2, Nat.mul_assoc]
      by_cases hc : D ≤ R
      · have dc : decide ((D : Int) ≤ (R : Int)) = true := by simp; omega
        have dc' : decide (D ≤ R) = true := by simp; omega
        obtain ⟨Q, e3, hQ⟩ : ∃ Q : Nat, (R : Int) - (D : Int) = (Q : Int) ∧ Q + D = R := ⟨R - D, by omega, by omega⟩
        have hK : (N2 + 1) * n + Q = 2 ^ (i + 1) * k := by rw [← hJ, Nat.add_mul, m2, Nat.one_mul]; omega
        have HK := Lib.hid hK
        have HW := Lib.hid hnew
        have hQn : Q < n := by omega
        clear hK hJ hI hp hs hN hnew m2 hN2
        go_wp2_with fail
        go_round
        case rel => exact ⟨N2 + 1, Q, i + 1, by omega, by go_num, rfl, by go_num, hQn, HW.out, HK⟩
        case measure => simp [intOf]; omega
      · have dc : decide ((D : Int) ≤ (R : Int)) = false := by simp; omega
        have dc' : decide (D ≤ R) = false := by simp; omega
        obtain ⟨Q, e3, hQ⟩ : ∃ Q : Nat, (2 : Int) * (R : Int) = (Q : Int) ∧ Q = 2 * R := ⟨2 * R, by omega, rfl⟩
        have hK : N2 * n + Q = 2 ^ (i + 1) * k := by rw [← hJ, m2]; omega
        have HK := Lib.hid hK
        have hnew' : N2 < 2 ^ (i + 1) := by omega
        have HW := Lib.hid hnew'
        have hQn : Q < n := by omega
        clear hK hJ hI hp hs hN hnew hnew' m2 hN2 hQ hD
        go_wp2_with fail
        go_round
        case rel => exact ⟨N2, Q, i + 1, by omega, rfl, rfl, by go_num, hQn, HW.out, HK⟩
        case measure => simp [intOf]; omega
    · have dl : decide ((i : Int) < 56) = false := by simp; omega
      obtain rfl : i = 56 := by omega
      have hfin : N = share k n := by
        have := div_of (72057594037927936 * k) n N R (by have := hI.out; omega) hR
        exact this.1.symm
      have HF := Lib.hid hfin
      clear hfin hI hN
      go_wp2_with fail
      go_ret
      exact ⟨by rw [← HF.out]; rfl, rfl⟩

theorem refThreshold_bad (k n : Nat) (w : World) (h : n = 0 ∨ n < k) : Calls Try.prog 34 #[.int .u64 (k : Int), .int .u64 (n : Int)] w fun e w' => e = .returned (.tuple #[.int .u64 0, .int .i64 1]) ∧ w = w' := by
  by_cases h0 : n = 0
  · subst h0
    go_enter Try.func34, Try.ntmps34
    go_wp2_with fail
    go_ret2
    exact ⟨rfl, rfl⟩
  · have d0 : ((n : Int) == 0) = false := by simp; omega
    have d1 : decide ((n : Int) < (k : Int)) = true := by simp; omega
    have d2 : decide (n < k) = true := by simp; omega
    go_enter Try.func34, Try.ntmps34
    go_wp2_with fail
    go_ret2
    exact ⟨rfl, rfl⟩

theorem refThreshold_any (k n : Nat) (w : World) (hn : n < 18446744073709551616) (h0 : 0 < n) (h : k ≤ n) : Calls Try.prog 34 #[.int .u64 (k : Int), .int .u64 (n : Int)] w fun e w' => e = .returned (.tuple #[.int .u64 ((72057594037927936 - share k n : Nat) : Int), .int .i64 0]) ∧ w = w' := by
  have d0 : ((n : Int) == 0) = false := by simp; omega
  have d1 : decide ((n : Int) < (k : Int)) = false := by simp; omega
  have d2 : decide (n < k) = false := by simp; omega
  have hp := fun W => refShare_any k n W hn h0 h
  have hle := share_le h
  obtain ⟨s, hs2⟩ : ∃ s, s = share k n := ⟨_, rfl⟩
  rw [← hs2] at hp hle ⊢
  have HP := Lib.hid hp
  clear hp hs2
  go_enter Try.func34, Try.ntmps34
  go_wp2_with fail
  refine (HP.out _).mono ?_
  rintro e w1 ⟨rfl, rfl⟩
  go_wp2_with fail
  go_ret2
  refine ⟨?_, rfl⟩
  rw [show ((72057594037927936 - s : Nat) : Int) = 72057594037927936 - (s : Int) by omega]
  rfl

set_option maxRecDepth 100000 in
theorem tells_any (k n : Nat) (w : World) (_hk : k < 18446744073709551616) (hn : n < 18446744073709551616) : Calls Try.prog 24 #[.int .u64 (k : Int), .int .u64 (n : Int)] w fun e w' => e = .returned (.bool true) ∧ Below w.heap.size w w' := by
  by_cases h : n = 0 ∨ n < k
  · have t1 := fun W => threshold_bad k n W h
    have t2 := fun W => refThreshold_bad k n W h
    have T1 := Lib.hid t1
    have T2 := Lib.hid t2
    clear t1 t2
    go_enter Try.func24, Try.ntmps24
    go_wp2_with fail
    refine (T1.out _).mono ?_
    rintro e w1 ⟨rfl, rfl⟩
    go_wp2_with fail
    refine (T2.out _).mono ?_
    rintro e w1 ⟨rfl, rfl⟩
    go_wp2_with fail
    go_ret
    exact ⟨rfl, Below.refl _ _⟩
  · have t1 := fun W => threshold_any k n W hn (by omega) (by omega)
    have t2 := fun W => refThreshold_any k n W hn (by omega) (by omega)
    obtain ⟨T, hT⟩ : ∃ T, T = 72057594037927936 - share k n := ⟨_, rfl⟩
    rw [← hT] at t1 t2
    have T1 := Lib.hid t1
    have T2 := Lib.hid t2
    clear t1 t2 hT
    go_enter Try.func24, Try.ntmps24
    go_wp2_with fail
    refine (T1.out _).mono ?_
    rintro e w1 ⟨rfl, hb1⟩
    go_wp2_with fail
    refine (T2.out _).mono ?_
    rintro e w2 ⟨rfl, rfl⟩
    go_wp2_with fail
    go_ret
    exact ⟨rfl, hb1⟩

end Go.Proofs.Ytpcichbceaijjaa
