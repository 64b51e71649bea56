/-
  The document's own answers of layer 11, the second part: rest, over, gcd, counts.
-/
import Derived.Test.YtmjbdjcpjaeemaaPrCnt
import Derived.Test.YtmjbdjcpjaeemaaPrRef
namespace Go.Proofs.Ytmjbdjcpjaeemaa
open Go.RowKit Go.Proofs.PrioMath

theorem and_one {a : Nat} (ha : a < 18446744073709551616) : bits BinOp.and IntKind.u64 (a : Int) 1 = (a : Int) % 2 := by
  have h := bits_and_u64_nat a 1 ha (by omega)
  rw [Nat.and_one_is_mod] at h
  exact h.trans (by simp)
theorem bit_lo {hi lo i : Nat} (h : i < 64) : (hi * 18446744073709551616 + lo) / 2 ^ i % 2 = lo / 2 ^ i % 2 := by
  obtain ⟨e, he⟩ : ∃ e, 63 = i + e := ⟨63 - i, by omega⟩
  have hp : (18446744073709551616 : Nat) = 2 ^ i * (2 ^ e * 2) := by
    rw [← Nat.mul_assoc, ← Nat.pow_add, ← he]
  have e1 : hi * 18446744073709551616 + lo = lo + 2 ^ i * (hi * 2 ^ e * 2) := by
    rw [hp, Nat.add_comm, Nat.mul_left_comm, Nat.mul_assoc]
  rw [e1, Nat.add_mul_div_left _ _ (Nat.two_pow_pos i), Nat.add_mul_mod_self_right]
theorem bit_hi {hi lo i : Nat} (h : 64 ≤ i) (hl : lo < 18446744073709551616) : (hi * 18446744073709551616 + lo) / 2 ^ i = hi / 2 ^ (i - 64) := by
  obtain ⟨e, he⟩ : ∃ e, i = 64 + e := ⟨i - 64, by omega⟩
  subst he
  rw [Nat.pow_add, ← Nat.div_div_eq_div_mul, show 64 + e - 64 = e by omega]
  have : (hi * 18446744073709551616 + lo) / 2 ^ 64 = hi := by
    rw [show (2 : Nat) ^ 64 = 18446744073709551616 by decide]
    omega
  rw [this]
theorem half_step (N i : Nat) : N / 2 ^ i = 2 * (N / 2 ^ (i + 1)) + N / 2 ^ i % 2 := by
  have e : N / 2 ^ (i + 1) = N / 2 ^ i / 2 := by rw [Nat.pow_succ, Nat.div_div_eq_div_mul]
  rw [e]
  omega
/-- What is left, a digit on. -/
theorem left_step {Q by_ r B : Nat} (hr : Q % by_ = r) : (2 * Q + B) % by_ = (2 * r + B) % by_ := by
  have e : Q = by_ * (Q / by_) + r := by rw [← hr]; exact (Nat.div_add_mod Q by_).symm
  have e2 : 2 * Q + B = 2 * r + B + by_ * (2 * (Q / by_)) := by
    have : 2 * (by_ * (Q / by_)) = by_ * (2 * (Q / by_)) := Nat.mul_left_comm _ _ _
    omega
  rw [e2, Nat.add_mul_mod_self_left]
theorem div_step {Q by_ n r B : Nat} (hr : Q % by_ = r) (hn : Q / by_ = n) (h0 : 0 < by_) : (2 * Q + B) / by_ = 2 * n + (2 * r + B) / by_ := by
  have e : Q = by_ * n + r := by rw [← hr, ← hn]; exact (Nat.div_add_mod Q by_).symm
  have e2 : 2 * Q + B = 2 * r + B + by_ * (2 * n) := by
    have : 2 * (by_ * n) = by_ * (2 * n) := Nat.mul_left_comm _ _ _
    omega
  rw [e2, Nat.add_mul_div_left _ _ h0]
  omega
theorem small_mod {x by_ : Nat} (h : x < 2 * by_) : (x < by_ → x % by_ = x ∧ x / by_ = 0) ∧ (by_ ≤ x → x % by_ = x - by_ ∧ x / by_ = 1) := by
  refine ⟨fun h1 => ⟨Nat.mod_eq_of_lt h1, Nat.div_eq_of_lt h1⟩, fun h1 => ?_⟩
  have e : x = (x - by_) + by_ * 1 := by omega
  have h2 : x - by_ < by_ := by omega
  constructor
  · rw [e, Nat.add_mul_mod_self_left, Nat.mod_eq_of_lt h2]
    omega
  · rw [e, Nat.add_mul_div_left _ _ (by omega), Nat.div_eq_of_lt h2]

set_option maxRecDepth 100000 in
set_option maxHeartbeats 4000000 in
theorem refRest_any (hi lo y : Nat) (w : World) (hhi : hi < 18446744073709551616) (hlo : lo < 18446744073709551616) (hy : y < 18446744073709551616) (h0 : 0 < y) :
    Calls Try.prog 37 #[.int .u64 (hi : Int), .int .u64 (lo : Int), .int .u64 (y : Int)] w fun e w' => e = .returned (.int .u64 (((hi * 18446744073709551616 + lo) % y : Nat) : Int)) ∧ w = w' := by
  obtain ⟨N, hN⟩ : ∃ N, hi * 18446744073709551616 + lo = N := ⟨_, rfl⟩
  have hNb : N < 2 ^ 128 := by
    rw [← hN, show (2 : Nat) ^ 128 = 340282366920938463463374607431768211456 by decide]
    omega
  have hst : N / 2 ^ 128 % y = 0 := by rw [Nat.div_eq_of_lt hNb, Nat.zero_mod]
  have HN := Lib.hid hN
  have HS : Hid (N / 2 ^ 128 % y = 0) := Lib.hid hst
  rw [hN]
  clear hN hNb hst
  go_enter Try.func37, Try.ntmps37
  go_wp2_with fail
  go_loopw [7, 8] (fun rv iv wr => ∃ (r j : Nat) (z : Int), rv = .int .u64 (r : Int) ∧ iv = .int .i64 z ∧ z = (j : Int) - 1 ∧ j ≤ 128 ∧ r < y ∧ Hid (N / 2 ^ j % y = r) ∧ w = wr) (fun _ iv _ => (intOf iv + 1).toNat)
  case atStart => exact ⟨0, 128, 127, rfl, rfl, by omega, by omega, h0, HS, rfl⟩
  case round =>
    obtain ⟨r, j, z, rfl, rfl, hz, hj, hr, HR, rfl⟩ := hrel
    by_cases hj0 : j = 0
    · subst hj0
      obtain rfl : z = -1 := by omega
      have hend : N % y = r := by have := HR.out; rwa [Nat.pow_zero, Nat.div_one] at this
      subst hend
      clear HR hz
      go_wp2_with fail
      go_ret
      exact ⟨rfl, rfl⟩
    · obtain ⟨i, rfl⟩ : ∃ i, j = i + 1 := ⟨j - 1, by omega⟩
      obtain rfl : z = (i : Int) := by omega
      have hi127 : i ≤ 127 := by omega
      obtain ⟨s, hs1, hs2, hs3⟩ : ∃ s : Nat, (i : Int).tmod 64 = (s : Int) ∧ s ≤ 63 ∧ s = i % 64 := ⟨i % 64, by rw [Int.tmod_eq_emod_of_nonneg (by omega)]; omega, by omega, rfl⟩
      have hs1' : (i : Int) % 64 = (s : Int) := by omega
      obtain ⟨a, ha⟩ : ∃ a, lo / 2 ^ s = a := ⟨_, rfl⟩
      have ea : (lo : Int) / 2 ^ s = (a : Int) := by rw [← ha]; simp
      have hal : a < 18446744073709551616 := by rw [← ha]; exact Nat.lt_of_le_of_lt (Nat.div_le_self _ _) hlo
      obtain ⟨B, hB⟩ : ∃ B, N / 2 ^ i % 2 = B := ⟨_, rfl⟩
      have hB2 : B < 2 := by rw [← hB]; exact Nat.mod_lt _ (by omega)
      obtain ⟨B0, hB0, hB02⟩ : ∃ B0 : Nat, (a : Int) % 2 = (B0 : Int) ∧ (B0 < 2 ∧ B0 = a % 2) := ⟨a % 2, by omega, by omega, rfl⟩
      have hlow : i < 64 → B0 = B := fun h => by
        rw [hB02.2, ← ha, hs3, Nat.mod_eq_of_lt h, ← bit_lo (hi := hi) h, HN.out, hB]
      have hB0l := hB02.1
      have eb : bits BinOp.and IntKind.u64 (a : Int) 1 = (B0 : Int) := by rw [and_one hal, hB0]
      clear hs3 hB02
      have hnext : (2 * r + B) % y = N / 2 ^ i % y := by
        rw [← left_step HR.out, ← hB, ← half_step]
      obtain ⟨e, he, he2⟩ : ∃ e : Nat, (y : Int) - (r : Int) = (e : Int) ∧ e = y - r := ⟨y - r, by omega, rfl⟩
      have hsm := small_mod (x := 2 * r + B) (by_ := y) (by omega)
      have HNX := Lib.hid hnext
      have HSM := Lib.hid hsm
      have t0 : decide ((0 : Int) ≤ (i : Int)) = true := by simp
      have hB' := hB
      clear hnext hsm ha HR hB hz hj0
      by_cases h64 : i < 64
      · have hBB := hlow h64
        subst hBB
        have t1 : decide ((64 : Int) ≤ (i : Int)) = false := by simp; omega
        by_cases hbig : e ≤ r
        · have t2 : decide ((e : Int) ≤ (r : Int)) = true := by simp; omega
          have t2' : decide (e ≤ r) = true := by simp; omega
          obtain ⟨r1, hr1, hr12⟩ : ∃ r1 : Nat, (r : Int) - (e : Int) = (r1 : Int) ∧ r1 = r - e := ⟨r - e, by omega, rfl⟩
          have hr1b : r1 < 18446744073709551616 := by omega
          by_cases hbit : B0 = 1
          · have t3 : ((B0 : Int) == 1) = true := by simp; omega
            have t3' : decide (B0 = 1) = true := by simp [hbit]
            obtain ⟨r2, hr2, hr22⟩ : ∃ r2 : Nat, (r1 : Int) + 1 = (r2 : Int) ∧ r2 = r1 + 1 := ⟨r1 + 1, by omega, rfl⟩
            have hr2b : r2 < 18446744073709551616 := by omega
            by_cases hful : r2 = y
            · have hfin : N / 2 ^ i % y = 0 := by rw [← HNX.out]; have := HSM.out; omega
              have HFI := Lib.hid hfin
              have t4 : ((r2 : Int) == (y : Int)) = true := by rw [hful]; simp
              have t4' : decide (r2 = y) = true := by simp [hful]
              clear hfin HNX HSM he2 hr12 hr22 hbit hbig hful hlow hB'
              go_wp2_with fail
              go_roundw
              case rel => exact ⟨0, i, (i : Int) - 1, rfl, rfl, rfl, by omega, h0, HFI, by first | rfl | trivial⟩
              case measure => simp [intOf] <;> omega
            · have hfin : N / 2 ^ i % y = r2 := by rw [← HNX.out]; have := HSM.out; omega
              have HFI := Lib.hid hfin
              have t4 : ((r2 : Int) == (y : Int)) = false := by simp; omega
              have t4' : decide (r2 = y) = false := by simp [hful]
              have hr2y : r2 < y := by omega
              clear hfin HNX HSM he2 hr12 hr22 hbit hbig hful hlow hB'
              go_wp2_with fail
              go_roundw
              case rel => exact ⟨r2, i, (i : Int) - 1, rfl, rfl, rfl, by omega, hr2y, HFI, by first | rfl | trivial⟩
              case measure => simp [intOf] <;> omega
          · have hbz : B0 = 0 := by omega
            have t3 : ((B0 : Int) == 1) = false := by simp; omega
            have t3' : decide (B0 = 1) = false := by simp [hbit]
            have hfin : N / 2 ^ i % y = r1 := by rw [← HNX.out]; have := HSM.out; omega
            have HFI := Lib.hid hfin
            have hr1y : r1 < y := by omega
            clear hfin HNX HSM he2 hr12 hbit hbz hbig hlow hB'
            go_wp2_with fail
            go_roundw
            case rel => exact ⟨r1, i, (i : Int) - 1, rfl, rfl, rfl, by omega, hr1y, HFI, by first | rfl | trivial⟩
            case measure => simp [intOf] <;> omega
        · have t2 : decide ((e : Int) ≤ (r : Int)) = false := by simp; omega
          have t2' : decide (e ≤ r) = false := by simp; omega
          obtain ⟨r1, hr1, hr12⟩ : ∃ r1 : Nat, 2 * (r : Int) = (r1 : Int) ∧ r1 = 2 * r := ⟨2 * r, by omega, rfl⟩
          have hr1b : r1 < 18446744073709551616 := by omega
          by_cases hbit : B0 = 1
          · have t3 : ((B0 : Int) == 1) = true := by simp; omega
            have t3' : decide (B0 = 1) = true := by simp [hbit]
            obtain ⟨r2, hr2, hr22⟩ : ∃ r2 : Nat, (r1 : Int) + 1 = (r2 : Int) ∧ r2 = r1 + 1 := ⟨r1 + 1, by omega, rfl⟩
            have hr2b : r2 < 18446744073709551616 := by omega
            by_cases hful : r2 = y
            · have hfin : N / 2 ^ i % y = 0 := by rw [← HNX.out]; have := HSM.out; omega
              have HFI := Lib.hid hfin
              have t4 : ((r2 : Int) == (y : Int)) = true := by rw [hful]; simp
              have t4' : decide (r2 = y) = true := by simp [hful]
              clear hfin HNX HSM he2 hr12 hr22 hbit hbig hful hlow hB'
              go_wp2_with fail
              go_roundw
              case rel => exact ⟨0, i, (i : Int) - 1, rfl, rfl, rfl, by omega, h0, HFI, by first | rfl | trivial⟩
              case measure => simp [intOf] <;> omega
            · have hfin : N / 2 ^ i % y = r2 := by rw [← HNX.out]; have := HSM.out; omega
              have HFI := Lib.hid hfin
              have t4 : ((r2 : Int) == (y : Int)) = false := by simp; omega
              have t4' : decide (r2 = y) = false := by simp [hful]
              have hr2y : r2 < y := by omega
              clear hfin HNX HSM he2 hr12 hr22 hbit hbig hful hlow hB'
              go_wp2_with fail
              go_roundw
              case rel => exact ⟨r2, i, (i : Int) - 1, rfl, rfl, rfl, by omega, hr2y, HFI, by first | rfl | trivial⟩
              case measure => simp [intOf] <;> omega
          · have hbz : B0 = 0 := by omega
            have t3 : ((B0 : Int) == 1) = false := by simp; omega
            have t3' : decide (B0 = 1) = false := by simp [hbit]
            have hfin : N / 2 ^ i % y = r1 := by rw [← HNX.out]; have := HSM.out; omega
            have HFI := Lib.hid hfin
            have hr1y : r1 < y := by omega
            clear hfin HNX HSM he2 hr12 hbit hbz hbig hlow hB'
            go_wp2_with fail
            go_roundw
            case rel => exact ⟨r1, i, (i : Int) - 1, rfl, rfl, rfl, by omega, hr1y, HFI, by first | rfl | trivial⟩
            case measure => simp [intOf] <;> omega
      · obtain ⟨s2, hs21, hs22⟩ : ∃ s2 : Nat, (i : Int) - 64 = (s2 : Int) ∧ s2 ≤ 63 := ⟨i - 64, by omega, by omega⟩
        obtain ⟨a2, ha2⟩ : ∃ a2, hi / 2 ^ s2 = a2 := ⟨_, rfl⟩
        have ea2 : (hi : Int) / 2 ^ s2 = (a2 : Int) := by rw [← ha2]; simp
        have hal2 : a2 < 18446744073709551616 := by rw [← ha2]; exact Nat.lt_of_le_of_lt (Nat.div_le_self _ _) hhi
        have hBB : (a2 : Int) % 2 = (B : Int) := by
          have h5 := bit_hi (hi := hi) (lo := lo) (i := i) (by omega) hlo
          rw [HN.out, show i - 64 = s2 by omega, ha2] at h5
          rw [h5] at hB'
          omega
        have t1 : decide ((64 : Int) ≤ (i : Int)) = true := by simp; omega
        have eb2 : bits BinOp.and IntKind.u64 (a2 : Int) 1 = (B : Int) := by rw [and_one hal2, hBB]
        clear ha2
        by_cases hbig : e ≤ r
        · have t2 : decide ((e : Int) ≤ (r : Int)) = true := by simp; omega
          have t2' : decide (e ≤ r) = true := by simp; omega
          obtain ⟨r1, hr1, hr12⟩ : ∃ r1 : Nat, (r : Int) - (e : Int) = (r1 : Int) ∧ r1 = r - e := ⟨r - e, by omega, rfl⟩
          have hr1b : r1 < 18446744073709551616 := by omega
          by_cases hbit : B = 1
          · have t3 : ((B : Int) == 1) = true := by simp; omega
            have t3' : decide (B = 1) = true := by simp [hbit]
            obtain ⟨r2, hr2, hr22⟩ : ∃ r2 : Nat, (r1 : Int) + 1 = (r2 : Int) ∧ r2 = r1 + 1 := ⟨r1 + 1, by omega, rfl⟩
            have hr2b : r2 < 18446744073709551616 := by omega
            by_cases hful : r2 = y
            · have hfin : N / 2 ^ i % y = 0 := by rw [← HNX.out]; have := HSM.out; omega
              have HFI := Lib.hid hfin
              have t4 : ((r2 : Int) == (y : Int)) = true := by rw [hful]; simp
              have t4' : decide (r2 = y) = true := by simp [hful]
              clear hfin HNX HSM he2 hr12 hr22 hbit hbig hful hlow hB'
              go_wp2_with fail
              go_roundw
              case rel => exact ⟨0, i, (i : Int) - 1, rfl, rfl, rfl, by omega, h0, HFI, by first | rfl | trivial⟩
              case measure => simp [intOf] <;> omega
            · have hfin : N / 2 ^ i % y = r2 := by rw [← HNX.out]; have := HSM.out; omega
              have HFI := Lib.hid hfin
              have t4 : ((r2 : Int) == (y : Int)) = false := by simp; omega
              have t4' : decide (r2 = y) = false := by simp [hful]
              have hr2y : r2 < y := by omega
              clear hfin HNX HSM he2 hr12 hr22 hbit hbig hful hlow hB'
              go_wp2_with fail
              go_roundw
              case rel => exact ⟨r2, i, (i : Int) - 1, rfl, rfl, rfl, by omega, hr2y, HFI, by first | rfl | trivial⟩
              case measure => simp [intOf] <;> omega
          · have hbz : B = 0 := by omega
            have t3 : ((B : Int) == 1) = false := by simp; omega
            have t3' : decide (B = 1) = false := by simp [hbit]
            have hfin : N / 2 ^ i % y = r1 := by rw [← HNX.out]; have := HSM.out; omega
            have HFI := Lib.hid hfin
            have hr1y : r1 < y := by omega
            clear hfin HNX HSM he2 hr12 hbit hbz hbig hlow hB'
            go_wp2_with fail
            go_roundw
            case rel => exact ⟨r1, i, (i : Int) - 1, rfl, rfl, rfl, by omega, hr1y, HFI, by first | rfl | trivial⟩
            case measure => simp [intOf] <;> omega
        · have t2 : decide ((e : Int) ≤ (r : Int)) = false := by simp; omega
          have t2' : decide (e ≤ r) = false := by simp; omega
          obtain ⟨r1, hr1, hr12⟩ : ∃ r1 : Nat, 2 * (r : Int) = (r1 : Int) ∧ r1 = 2 * r := ⟨2 * r, by omega, rfl⟩
          have hr1b : r1 < 18446744073709551616 := by omega
          by_cases hbit : B = 1
          · have t3 : ((B : Int) == 1) = true := by simp; omega
            have t3' : decide (B = 1) = true := by simp [hbit]
            obtain ⟨r2, hr2, hr22⟩ : ∃ r2 : Nat, (r1 : Int) + 1 = (r2 : Int) ∧ r2 = r1 + 1 := ⟨r1 + 1, by omega, rfl⟩
            have hr2b : r2 < 18446744073709551616 := by omega
            by_cases hful : r2 = y
            · have hfin : N / 2 ^ i % y = 0 := by rw [← HNX.out]; have := HSM.out; omega
              have HFI := Lib.hid hfin
              have t4 : ((r2 : Int) == (y : Int)) = true := by rw [hful]; simp
              have t4' : decide (r2 = y) = true := by simp [hful]
              clear hfin HNX HSM he2 hr12 hr22 hbit hbig hful hlow hB'
              go_wp2_with fail
              go_roundw
              case rel => exact ⟨0, i, (i : Int) - 1, rfl, rfl, rfl, by omega, h0, HFI, by first | rfl | trivial⟩
              case measure => simp [intOf] <;> omega
            · have hfin : N / 2 ^ i % y = r2 := by rw [← HNX.out]; have := HSM.out; omega
              have HFI := Lib.hid hfin
              have t4 : ((r2 : Int) == (y : Int)) = false := by simp; omega
              have t4' : decide (r2 = y) = false := by simp [hful]
              have hr2y : r2 < y := by omega
              clear hfin HNX HSM he2 hr12 hr22 hbit hbig hful hlow hB'
              go_wp2_with fail
              go_roundw
              case rel => exact ⟨r2, i, (i : Int) - 1, rfl, rfl, rfl, by omega, hr2y, HFI, by first | rfl | trivial⟩
              case measure => simp [intOf] <;> omega
          · have hbz : B = 0 := by omega
            have t3 : ((B : Int) == 1) = false := by simp; omega
            have t3' : decide (B = 1) = false := by simp [hbit]
            have hfin : N / 2 ^ i % y = r1 := by rw [← HNX.out]; have := HSM.out; omega
            have HFI := Lib.hid hfin
            have hr1y : r1 < y := by omega
            clear hfin HNX HSM he2 hr12 hbit hbz hbig hlow hB'
            go_wp2_with fail
            go_roundw
            case rel => exact ⟨r1, i, (i : Int) - 1, rfl, rfl, rfl, by omega, hr1y, HFI, by first | rfl | trivial⟩
            case measure => simp [intOf] <;> omega

set_option maxRecDepth 100000 in
set_option maxHeartbeats 4000000 in
theorem refOver_any (hi lo y : Nat) (w : World) (_hhi : hi < 18446744073709551616) (hlo : lo < 18446744073709551616) (hy : y < 18446744073709551616) (h0 : 0 < y) :
    Calls Try.prog 38 #[.int .u64 (hi : Int), .int .u64 (lo : Int), .int .u64 (y : Int)] w fun e w' => e = .returned (.int .u64 ((min ((hi * 18446744073709551616 + lo) / y) 18446744073709551615 : Nat) : Int)) ∧ w = w' := by
  obtain ⟨N, hN⟩ : ∃ N, hi * 18446744073709551616 + lo = N := ⟨_, rfl⟩
  by_cases hb : y ≤ hi
  · have t1 : decide ((y : Int) ≤ (hi : Int)) = true := by simp; omega
    have t1' : decide (y ≤ hi) = true := by simp; omega
    have hm : min (N / y) 18446744073709551615 = 18446744073709551615 := by
      have : 18446744073709551616 ≤ N / y := by
        rw [Nat.le_div_iff_mul_le h0, ← hN]
        exact big_le hb
      omega
    rw [hN, hm]
    clear hm hN hb
    go_enter Try.func38, Try.ntmps38
    go_wp2_with fail
    go_ret
    exact ⟨rfl, rfl⟩
  have t1 : decide ((y : Int) ≤ (hi : Int)) = false := by simp; omega
  have t1' : decide (y ≤ hi) = false := by simp; omega
  have hNy : N / y < 18446744073709551616 := by
    rw [Nat.div_lt_iff_lt_mul h0, ← hN]
    exact big_lt (by omega) hlo
  have hm : min (N / y) 18446744073709551615 = N / y := by omega
  have h64 : N / 2 ^ 64 = hi := by
    rw [show (2 : Nat) ^ 64 = 18446744073709551616 by decide, ← hN]
    omega
  have HR0 : Hid (N / 2 ^ 64 % y = hi) := Lib.hid (by rw [h64]; exact Nat.mod_eq_of_lt (by omega))
  have HN0 : Hid (N / 2 ^ 64 / y = 0) := Lib.hid (by rw [h64]; exact Nat.div_eq_of_lt (by omega))
  have HNY : Hid (∀ i, N / 2 ^ i / y < 18446744073709551616) := Lib.hid fun i => Nat.lt_of_le_of_lt (Nat.div_le_div_right (Nat.div_le_self _ _)) hNy
  have hrh : hi < y := by omega
  have HN := Lib.hid hN
  rw [hN, hm]
  clear hm h64 hN hNy hb
  go_enter Try.func38, Try.ntmps38
  go_wp2_with fail
  go_loopw [7, 8, 9] (fun nv rv iv wr => ∃ (n r j : Nat) (z : Int), nv = .int .u64 (n : Int) ∧ rv = .int .u64 (r : Int) ∧ iv = .int .i64 z ∧ z = (j : Int) - 1 ∧ j ≤ 64 ∧ r < y ∧ Hid (N / 2 ^ j % y = r) ∧ Hid (N / 2 ^ j / y = n) ∧ w = wr) (fun _ _ iv _ => (intOf iv + 1).toNat)
  case atStart => exact ⟨0, hi, 64, 63, rfl, rfl, rfl, by omega, by omega, hrh, HR0, HN0, by first | rfl | trivial⟩
  case round =>
    obtain ⟨n, r, j, z, rfl, rfl, rfl, hz, hj, hr, HR, HNN, rfl⟩ := hrel
    by_cases hj0 : j = 0
    · subst hj0
      obtain rfl : z = -1 := by omega
      have hend : N / y = n := by have := HNN.out; rwa [Nat.pow_zero, Nat.div_one] at this
      subst hend
      clear HR HNN hz
      go_wp2_with fail
      go_ret
      exact ⟨rfl, rfl⟩
    · obtain ⟨i, rfl⟩ : ∃ i, j = i + 1 := ⟨j - 1, by omega⟩
      obtain rfl : z = (i : Int) := by omega
      have hi63 : i ≤ 63 := by omega
      obtain ⟨a, ha⟩ : ∃ a, lo / 2 ^ i = a := ⟨_, rfl⟩
      have ea : (lo : Int) / 2 ^ i = (a : Int) := by rw [← ha]; simp
      have hal : a < 18446744073709551616 := by rw [← ha]; exact Nat.lt_of_le_of_lt (Nat.div_le_self _ _) hlo
      obtain ⟨B, hB⟩ : ∃ B, N / 2 ^ i % 2 = B := ⟨_, rfl⟩
      have hB2 : B < 2 := by rw [← hB]; exact Nat.mod_lt _ (by omega)
      have hBa : a % 2 = B := by rw [← ha, ← bit_lo (hi := hi) (by omega), HN.out, hB]
      have hB0 : (a : Int) % 2 = (B : Int) := by omega
      have eb : bits BinOp.and IntKind.u64 (a : Int) 1 = (B : Int) := by rw [and_one hal, hB0]
      have hnext : (2 * r + B) % y = N / 2 ^ i % y := by
        rw [← left_step HR.out, ← hB, ← half_step]
      have hnext2 : N / 2 ^ i / y = 2 * n + (2 * r + B) / y := by
        rw [half_step, hB]
        exact div_step HR.out HNN.out h0
      obtain ⟨e, he, he2⟩ : ∃ e : Nat, (y : Int) - (r : Int) = (e : Int) ∧ e = y - r := ⟨y - r, by omega, rfl⟩
      have hsm := small_mod (x := 2 * r + B) (by_ := y) (by omega)
      have hny := HNY.out i
      obtain ⟨qq, hqq⟩ : ∃ q, (2 * r + B) / y = q := ⟨_, rfl⟩
      rw [hqq] at hnext2 hsm
      clear hqq
      have HNX := Lib.hid hnext
      have HNX2 := Lib.hid hnext2
      have HSM := Lib.hid hsm
      have t0 : decide ((0 : Int) ≤ (i : Int)) = true := by simp
      clear hnext hnext2 hsm ha HR HNN hB hBa hz hj0
      by_cases hbig : e ≤ r
      · have t2 : decide ((e : Int) ≤ (r : Int)) = true := by simp; omega
        have t2' : decide (e ≤ r) = true := by simp; omega
        obtain ⟨r1, hr1, hr12⟩ : ∃ r1 : Nat, (r : Int) - (e : Int) = (r1 : Int) ∧ r1 = r - e := ⟨r - e, by omega, rfl⟩
        have hr1b : r1 < 18446744073709551616 := by omega
        obtain ⟨n0, hn0, hn02⟩ : ∃ n0 : Nat, 2 * (n : Int) = (n0 : Int) ∧ n0 = 2 * n := ⟨2 * n, by omega, rfl⟩
        have hn0b : n0 < 18446744073709551616 := by rw [hn02]; have := HNX2.out; omega
        obtain ⟨n1, hn1, hn12⟩ : ∃ n1 : Nat, (n0 : Int) + 1 = (n1 : Int) ∧ n1 = 2 * n + 1 := ⟨n0 + 1, by omega, by omega⟩
        have hn1b : n1 < 18446744073709551616 := by have := HNX2.out; have := (HSM.out.2 (by omega)).2; omega
        by_cases hbit : B = 1
        · have t3 : ((B : Int) == 1) = true := by simp; omega
          have t3' : decide (B = 1) = true := by simp [hbit]
          obtain ⟨r2, hr2, hr22⟩ : ∃ r2 : Nat, (r1 : Int) + 1 = (r2 : Int) ∧ r2 = r1 + 1 := ⟨r1 + 1, by omega, rfl⟩
          have hr2b : r2 < 18446744073709551616 := by omega
          by_cases hful : r2 = y
          · have hfin : N / 2 ^ i % y = 0 := by rw [← HNX.out]; have := HSM.out; omega
            obtain ⟨n2, hn2, hn22⟩ : ∃ n2 : Nat, (n1 : Int) + 1 = (n2 : Int) ∧ n2 = n1 + 1 := ⟨n1 + 1, by omega, rfl⟩
            have hfn : N / 2 ^ i / y = n2 := by have := HNX2.out; have := HSM.out; omega
            have hn2b : n2 < 18446744073709551616 := by omega
            have HFI := Lib.hid hfin
            have HFN := Lib.hid hfn
            have t4 : ((r2 : Int) == (y : Int)) = true := by rw [hful]; simp
            have t4' : decide (r2 = y) = true := by simp [hful]
            clear hfin hfn HNX HNX2 HSM he2 hr12 hr22 hn02 hn12 hn22 hbit hbig hful hny
            go_wp2_with fail
            go_roundw
            case rel => exact ⟨n2, 0, i, (i : Int) - 1, rfl, rfl, rfl, rfl, by omega, h0, HFI, HFN, by first | rfl | trivial⟩
            case measure => simp [intOf] <;> omega
          · have hfin : N / 2 ^ i % y = r2 := by rw [← HNX.out]; have := HSM.out; omega
            have hfn : N / 2 ^ i / y = n1 := by have := HNX2.out; have := HSM.out; omega
            have HFI := Lib.hid hfin
            have HFN := Lib.hid hfn
            have t4 : ((r2 : Int) == (y : Int)) = false := by simp; omega
            have t4' : decide (r2 = y) = false := by simp [hful]
            have hr2y : r2 < y := by omega
            clear hfin hfn HNX HNX2 HSM he2 hr12 hr22 hn02 hn12 hbit hbig hful hny
            go_wp2_with fail
            go_roundw
            case rel => exact ⟨n1, r2, i, (i : Int) - 1, rfl, rfl, rfl, rfl, by omega, hr2y, HFI, HFN, by first | rfl | trivial⟩
            case measure => simp [intOf] <;> omega
        · have hbz : B = 0 := by omega
          have t3 : ((B : Int) == 1) = false := by simp; omega
          have t3' : decide (B = 1) = false := by simp [hbit]
          have hfin : N / 2 ^ i % y = r1 := by rw [← HNX.out]; have := HSM.out; omega
          have hfn : N / 2 ^ i / y = n1 := by have := HNX2.out; have := HSM.out; omega
          have HFI := Lib.hid hfin
          have HFN := Lib.hid hfn
          have hr1y : r1 < y := by omega
          clear hfin hfn HNX HNX2 HSM he2 hr12 hn02 hn12 hbit hbz hbig hny
          go_wp2_with fail
          go_roundw
          case rel => exact ⟨n1, r1, i, (i : Int) - 1, rfl, rfl, rfl, rfl, by omega, hr1y, HFI, HFN, by first | rfl | trivial⟩
          case measure => simp [intOf] <;> omega
      · have t2 : decide ((e : Int) ≤ (r : Int)) = false := by simp; omega
        have t2' : decide (e ≤ r) = false := by simp; omega
        obtain ⟨r1, hr1, hr12⟩ : ∃ r1 : Nat, 2 * (r : Int) = (r1 : Int) ∧ r1 = 2 * r := ⟨2 * r, by omega, rfl⟩
        have hr1b : r1 < 18446744073709551616 := by omega
        obtain ⟨n0, hn0, hn02⟩ : ∃ n0 : Nat, 2 * (n : Int) = (n0 : Int) ∧ n0 = 2 * n := ⟨2 * n, by omega, rfl⟩
        have hn0b : n0 < 18446744073709551616 := by rw [hn02]; have := HNX2.out; omega
        by_cases hbit : B = 1
        · have t3 : ((B : Int) == 1) = true := by simp; omega
          have t3' : decide (B = 1) = true := by simp [hbit]
          obtain ⟨r2, hr2, hr22⟩ : ∃ r2 : Nat, (r1 : Int) + 1 = (r2 : Int) ∧ r2 = r1 + 1 := ⟨r1 + 1, by omega, rfl⟩
          have hr2b : r2 < 18446744073709551616 := by omega
          by_cases hful : r2 = y
          · have hfin : N / 2 ^ i % y = 0 := by rw [← HNX.out]; have := HSM.out; omega
            obtain ⟨n2, hn2, hn22⟩ : ∃ n2 : Nat, (n0 : Int) + 1 = (n2 : Int) ∧ n2 = n0 + 1 := ⟨n0 + 1, by omega, rfl⟩
            have hfn : N / 2 ^ i / y = n2 := by have := HNX2.out; have := HSM.out; omega
            have hn2b : n2 < 18446744073709551616 := by omega
            have HFI := Lib.hid hfin
            have HFN := Lib.hid hfn
            have t4 : ((r2 : Int) == (y : Int)) = true := by rw [hful]; simp
            have t4' : decide (r2 = y) = true := by simp [hful]
            clear hfin hfn HNX HNX2 HSM he2 hr12 hr22 hn02 hn22 hbit hbig hful hny
            go_wp2_with fail
            go_roundw
            case rel => exact ⟨n2, 0, i, (i : Int) - 1, rfl, rfl, rfl, rfl, by omega, h0, HFI, HFN, by first | rfl | trivial⟩
            case measure => simp [intOf] <;> omega
          · have hfin : N / 2 ^ i % y = r2 := by rw [← HNX.out]; have := HSM.out; omega
            have hfn : N / 2 ^ i / y = n0 := by have := HNX2.out; have := HSM.out; omega
            have HFI := Lib.hid hfin
            have HFN := Lib.hid hfn
            have t4 : ((r2 : Int) == (y : Int)) = false := by simp; omega
            have t4' : decide (r2 = y) = false := by simp [hful]
            have hr2y : r2 < y := by omega
            clear hfin hfn HNX HNX2 HSM he2 hr12 hr22 hn02 hbit hbig hful hny
            go_wp2_with fail
            go_roundw
            case rel => exact ⟨n0, r2, i, (i : Int) - 1, rfl, rfl, rfl, rfl, by omega, hr2y, HFI, HFN, by first | rfl | trivial⟩
            case measure => simp [intOf] <;> omega
        · have hbz : B = 0 := by omega
          have t3 : ((B : Int) == 1) = false := by simp; omega
          have t3' : decide (B = 1) = false := by simp [hbit]
          have hfin : N / 2 ^ i % y = r1 := by rw [← HNX.out]; have := HSM.out; omega
          have hfn : N / 2 ^ i / y = n0 := by have := HNX2.out; have := HSM.out; omega
          have HFI := Lib.hid hfin
          have HFN := Lib.hid hfn
          have hr1y : r1 < y := by omega
          clear hfin hfn HNX HNX2 HSM he2 hr12 hn02 hbit hbz hbig hny
          go_wp2_with fail
          go_roundw
          case rel => exact ⟨n0, r1, i, (i : Int) - 1, rfl, rfl, rfl, rfl, by omega, hr1y, HFI, HFN, by first | rfl | trivial⟩
          case measure => simp [intOf] <;> omega

set_option maxRecDepth 100000 in
set_option maxHeartbeats 1000000 in
theorem refGcd_any (a b : Nat) (w : World) (ha : a < 18446744073709551616) (hb : b < 18446744073709551616) :
    Calls Try.prog 36 #[.int .u64 (a : Int), .int .u64 (b : Int)] w fun e w' => e = .returned (.int .u64 (Nat.gcd a b : Int)) ∧ w = w' := by
  obtain ⟨g, hg⟩ : ∃ g, Nat.gcd a b = g := ⟨_, rfl⟩
  rw [hg]
  have HG := Lib.hid hg
  clear hg
  go_enter Try.func36, Try.ntmps36
  go_wp2_with fail
  go_loopw [0, 1] (fun av bv wr => ∃ x y : Nat, av = .int .u64 (x : Int) ∧ bv = .int .u64 (y : Int) ∧ x < 18446744073709551616 ∧ y < 18446744073709551616 ∧ Hid (Nat.gcd x y = g) ∧ w = wr) (fun _ bv _ => (intOf bv).toNat)
  case atStart => exact ⟨a, b, rfl, rfl, ha, hb, HG, by first | rfl | trivial⟩
  case round =>
    obtain ⟨x, y, rfl, rfl, hx1, hy1, HG1, rfl⟩ := hrel
    by_cases h0 : y = 0
    · subst h0
      have hend : x = g := by rw [← HG1.out]; simp
      subst hend
      clear HG HG1
      go_wp2_with fail
      go_ret
      exact ⟨rfl, rfl⟩
    · have t1 : decide ((0 : Int) < (y : Int)) = true := by simp; omega
      have t1' : decide (0 < y) = true := by simp; omega
      have a0 : ((y : Int) == 0) = false := by simp [h0]
      obtain ⟨r, hr⟩ : ∃ r, x % y = r := ⟨_, rfl⟩
      have hry : r < y := by rw [← hr]; exact Nat.mod_lt _ (by omega)
      have e2 : (x : Int) % (y : Int) = (r : Int) := by rw [← hr]; simp
      have hg2 : Nat.gcd y r = g := by
        rw [← HG1.out, ← hr, Nat.gcd_comm x y, Nat.gcd_rec y x, Nat.gcd_comm]
      have HG2 := Lib.hid hg2
      clear hg2 hr HG1
      go_wp2_with fail
      go_roundw
      case rel => exact ⟨y, r, rfl, by rw [← e2], hy1, by omega, HG2, by first | rfl | trivial⟩
      case measure => simp [intOf]; omega

end Go.Proofs.Ytmjbdjcpjaeemaa
