/-
  What product and Above do: a by d + 1 in two halves; is the priority of a by c above that of b by d?
-/
import Derived.Laws.Externs
import Derived.Handy
import Derived.Test.YtmjbdjcpjaeemaaProbBits
import Derived.Test.YtmjbdjcpjaeemaaBlk0
import Derived.Test.YtmjbdjcpjaeemaaPrMath
namespace Go.Proofs.Ytmjbdjcpjaeemaa
open Go.RowKit Go.Proofs.PrioMath

theorem add64_run (x y : Nat) (w : World) :
    (callFunc 32 #[.int .u64 (x : Int), .int .u64 (y : Int), .int .u64 0]).run Try.prog w =
      .ok (.value (.tuple #[.int .u64 (((x + y) % 18446744073709551616 : Nat) : Int), .int .u64 (((x + y) / 18446744073709551616 : Nat) : Int)])) w := by
  rw [run_callFunc_extern Try.func32 (by kernel_rfl) (by kernel_rfl) (by kernel_rfl) (e := add64Entry) (by kernel_rfl), run_add64 (x : Int) (y : Int) 0 (by omega) (by omega) (by omega) (by omega)]
  simp only [Result.andThen]
  congr 5 <;> omega
/-- The halves of a by d + 1. -/
theorem halves (a d : Nat) (ha : a < 18446744073709551616) (hd : d < 18446744073709551616) :
    (a * d % 18446744073709551616 + a) % 18446744073709551616 = a * (d + 1) % 18446744073709551616 ∧ a * d / 18446744073709551616 + (a * d % 18446744073709551616 + a) / 18446744073709551616 = a * (d + 1) / 18446744073709551616 ∧ a * (d + 1) / 18446744073709551616 < 18446744073709551616 := by
  have e : a * (d + 1) = a * d + a := by rw [Nat.mul_add, Nat.mul_one]
  have hm : a * (d + 1) < 18446744073709551616 * 18446744073709551616 := Nat.lt_of_le_of_lt (Nat.mul_le_mul_left a (show d + 1 ≤ 18446744073709551616 by omega)) (Nat.mul_lt_mul_of_pos_right ha (by omega))
  have hdv := Nat.div_lt_of_lt_mul hm
  rw [e] at hdv ⊢
  obtain ⟨x, hx⟩ : ∃ x, a * d = x := ⟨_, rfl⟩
  rw [hx] at hdv ⊢
  omega
/-- Which of two numbers of two halves is the greater. -/
theorem by_halves (x y : Nat) : decide (y < x) = (decide (y / 18446744073709551616 < x / 18446744073709551616) || (x / 18446744073709551616 == y / 18446744073709551616 && decide (y % 18446744073709551616 < x % 18446744073709551616))) := by
  by_cases h1 : y / 18446744073709551616 < x / 18446744073709551616
  · have : y < x := by omega
    simp [h1, this]
  · by_cases h2 : x / 18446744073709551616 = y / 18446744073709551616
    · by_cases h3 : y % 18446744073709551616 < x % 18446744073709551616
      · have : y < x := by omega
        simp [h2, h3, this]
      · have : ¬ y < x := by omega
        simp [h2, h3, this]
    · have : ¬ y < x := by omega
      simp [h1, h2, this]

set_option maxRecDepth 100000 in
set_option maxHeartbeats 1000000 in
theorem product_any (a d : Nat) (w : World) (ha : a < 18446744073709551616) (hd : d < 18446744073709551616) :
    Calls Try.prog 22 #[.int .u64 (a : Int), .int .u64 (d : Int)] w fun e w' => e = .returned (.tuple #[.int .u64 ((a * (d + 1) / 18446744073709551616 : Nat) : Int), .int .u64 ((a * (d + 1) % 18446744073709551616 : Nat) : Int)]) ∧ w = w' := by
  obtain ⟨e1, e2, e3⟩ := halves a d ha hd
  have hm := Try.bits_Mul64 a d ha hd w
  obtain ⟨H, hH⟩ : ∃ H, a * d / 18446744073709551616 = H := ⟨_, rfl⟩
  obtain ⟨L, hL⟩ : ∃ L, a * d % 18446744073709551616 = L := ⟨_, rfl⟩
  have hs := add64_run L a w
  rw [hH, hL] at hm
  rw [hL] at e1 e2
  rw [hH] at e2
  rw [e1] at hs
  obtain ⟨C, hC⟩ : ∃ C, (L + a) / 18446744073709551616 = C := ⟨_, rfl⟩
  rw [hC] at hs e2
  obtain ⟨R, hR⟩ : ∃ R, a * (d + 1) / 18446744073709551616 = R := ⟨_, rfl⟩
  obtain ⟨S, hS⟩ : ∃ S, a * (d + 1) % 18446744073709551616 = S := ⟨_, rfl⟩
  rw [hR] at e2 e3 ⊢
  rw [hS] at hs ⊢
  have hsum : (H : Int) + (C : Int) = (R : Int) := by omega
  have HMM := Lib.hid hm
  have HSS := hs
  clear hm hs hH hL hC hR hS e1 e2 ha hd
  go_enter Try.func22, Try.ntmps22
  go_wp2_with fail
  refine HMM.out.mono ?_
  rintro e w' ⟨rfl, rfl⟩
  go_wp2_with fail
  go_ret2
  exact ⟨rfl, rfl⟩

set_option maxRecDepth 100000 in
set_option maxHeartbeats 1000000 in
theorem above_any (a c b d : Nat) (w : World) (ha : a < 18446744073709551616) (hc : c < 18446744073709551616) (hb : b < 18446744073709551616) (hd : d < 18446744073709551616) :
    Calls Try.prog 10 #[.int .u64 (a : Int), .int .u64 (c : Int), .int .u64 (b : Int), .int .u64 (d : Int)] w fun e w' => e = .returned (.bool (abv a c b d)) ∧ w = w' := by
  have h1 := product_any a d w ha hd
  have h2 := product_any b c w hb hc
  have hv := by_halves (a * (d + 1)) (b * (c + 1))
  unfold abv
  rw [hv]
  clear hv
  obtain ⟨x1, hx1⟩ : ∃ x, a * (d + 1) / 18446744073709551616 = x := ⟨_, rfl⟩
  obtain ⟨x0, hx0⟩ : ∃ x, a * (d + 1) % 18446744073709551616 = x := ⟨_, rfl⟩
  obtain ⟨y1, hy1⟩ : ∃ x, b * (c + 1) / 18446744073709551616 = x := ⟨_, rfl⟩
  obtain ⟨y0, hy0⟩ : ∃ x, b * (c + 1) % 18446744073709551616 = x := ⟨_, rfl⟩
  rw [hx1, hx0] at h1
  rw [hy1, hy0] at h2
  rw [hx1, hx0, hy1, hy0]
  have H1 := Lib.hid h1
  have H2 := Lib.hid h2
  clear h1 h2 hx1 hx0 hy1 hy0 ha hb hc hd
  by_cases k1 : y1 < x1
  · have t1 : decide ((y1 : Int) < (x1 : Int)) = true := by simp; omega
    have t1' : decide (y1 < x1) = true := by simp; omega
    rw [t1']
    simp only [Bool.true_or]
    clear k1
    go_enter Try.func10, Try.ntmps10
    go_wp2_with fail
    refine H1.out.mono ?_
    rintro e w' ⟨rfl, rfl⟩
    go_wp2_with fail
    refine H2.out.mono ?_
    rintro e w' ⟨rfl, rfl⟩
    go_wp2_with fail
    go_ret
    exact ⟨rfl, rfl⟩
  · have t1 : decide ((y1 : Int) < (x1 : Int)) = false := by simp; omega
    have t1' : decide (y1 < x1) = false := by simp; omega
    rw [t1']
    simp only [Bool.false_or]
    obtain ⟨b1, t2⟩ : ∃ b1, (x1 == y1) = b1 := ⟨_, rfl⟩
    have t2' : ((x1 : Int) == (y1 : Int)) = b1 := by
      rw [← t2]
      by_cases h : x1 = y1
      · simp [h]
      · have h' : ¬ (x1 : Int) = (y1 : Int) := by omega
        rw [beq_eq_false_iff_ne.2 h, beq_eq_false_iff_ne.2 h']
    obtain ⟨b2, t3⟩ : ∃ b2, decide (y0 < x0) = b2 := ⟨_, rfl⟩
    have t3' : decide ((y0 : Int) < (x0 : Int)) = b2 := by
      rw [← t3]
      simp
    have t2d : decide (x1 = y1) = b1 := by rw [← t2]; by_cases h : x1 = y1 <;> simp [h]
    rw [t2, t3]
    clear k1
    go_enter Try.func10, Try.ntmps10
    go_wp2_with fail
    refine H1.out.mono ?_
    rintro e w' ⟨rfl, rfl⟩
    go_wp2_with fail
    refine H2.out.mono ?_
    rintro e w' ⟨rfl, rfl⟩
    cases b1 with
    | true =>
      go_wp2_with fail
      go_ret
      exact ⟨rfl, rfl⟩
    | false =>
      go_wp2_with fail
      go_ret
      exact ⟨rfl, rfl⟩
end Go.Proofs.Ytmjbdjcpjaeemaa
