/-
  Contracts of package prob: Kept, Threshold, at every number.
-/
import Derived.Test.YtkhbodlffhfmnaaDoorProbDiv
namespace Go.Proofs.YtkhbodlffhfmnaaDoor
open Go.RowKit Go.Proofs.ProbMath

theorem ret_b' {a b : Bool} (h : a = b) : Ending.returned (.bool a) = .returned (.bool b) := by rw [h]
theorem draws {B : Nat} {a w : World} (h : Below B a w) (n : Nat) : Below B a (w.drewN n) := ⟨h.os, h.tape, h.output, h.size, h.block⟩

set_option maxRecDepth 100000 in
set_option maxHeartbeats 1000000 in
theorem div_small (lo y : Nat) (w : World) (hlo : lo < 18446744073709551616) (h : 0 < y) :
    Calls Tryd.prog 45 #[.int .u64 ((0 : Nat) : Int), .int .u64 (lo : Int), .int .u64 (y : Int)] w fun e w' => e = .returned (.tuple #[.int .u64 ((lo / y : Nat) : Int), .int .u64 ((lo % y : Nat) : Int)]) ∧ Below w.heap.size w w' := by
  have a0 : ((y : Int) == 0) = false := by simp; omega
  have a1 : decide ((y : Int) ≤ 0) = false := by simp; omega
  obtain ⟨q, hq⟩ : ∃ q, q = lo / y := ⟨_, rfl⟩
  obtain ⟨r, hr⟩ : ∃ r, r = lo % y := ⟨_, rfl⟩
  have hql : q ≤ lo := by rw [hq]; exact Nat.div_le_self _ _
  have hrl : r ≤ lo := by rw [hr]; exact Nat.mod_le _ _
  have e1 : (lo : Int) / (y : Int) = (q : Int) := by rw [hq]; simp
  have e2 : (lo : Int) % (y : Int) = (r : Int) := by rw [hr]; simp
  have e3 : IntKind.u64.wrap (q : Int) = (q : Int) := by rw [IntKind.wrap_u64]; omega
  rw [← hq, ← hr]
  clear hq hr
  go_enter Tryd.func45, Tryd.ntmps45
  go_wp2_with fail
  go_quiet (fail)
  go_wp2_with fail
  go_ret2
  exact ⟨by rw [← e2]; rfl, draws (Below.refl _ _) _⟩

/-- **math/bits.Div64 where the quotient fits.** -/
theorem div64 (hi lo y : Nat) (w : World) (hy : y < 18446744073709551616) (hlo : lo < 18446744073709551616) (h : hi < y) :
    Calls Tryd.prog 45 #[.int .u64 (hi : Int), .int .u64 (lo : Int), .int .u64 (y : Int)] w fun e w' => e = .returned (.tuple #[.int .u64 (((hi * 18446744073709551616 + lo) / y : Nat) : Int), .int .u64 (((hi * 18446744073709551616 + lo) % y : Nat) : Int)]) ∧ Below w.heap.size w w' := by
  rcases Nat.eq_zero_or_pos hi with rfl | h0
  · refine (div_small lo y w hlo h).mono fun e w' ⟨he, hb⟩ => ⟨?_, hb⟩
    rw [he]; simp
  · exact (div_any hi lo y w hy hlo h h0).mono fun e w' ⟨he, hw⟩ => ⟨he, by rw [← hw]; exact Below.refl _ _⟩

theorem ret_i' {k : IntKind} {a b : Int} (h : a = b) : Ending.returned (.int k a) = .returned (.int k b) := by rw [h]
theorem kept_any (t : Nat) (w : World) : Calls Tryd.prog 22 #[.int .u64 (t : Int)] w fun e w' => e = .returned (.int .u64 (kept t : Int)) ∧ w = w' := by
  go_enter Tryd.func22, Tryd.ntmps22
  go_wp2_with fail
  go_ret
  exact ⟨ret_i' (by unfold kept; omega), rfl⟩

theorem bits_mul (a b : Nat) (w : World) (ha : a < 18446744073709551616) (hb : b < 18446744073709551616) :
    Calls Tryd.prog 44 #[.int .u64 (a : Int), .int .u64 (b : Int)] w fun e w' => e = .returned (.tuple #[.int .u64 ((a * b / 18446744073709551616 : Nat) : Int), .int .u64 ((a * b % 18446744073709551616 : Nat) : Int)]) ∧ w = w' :=
  (Tryd.bits_Mul64 a b ha hb w).mono fun _ _ ⟨he, hw⟩ => ⟨he, hw.symm⟩

theorem product_any (a b : Nat) (w : World) (ha : a < 18446744073709551616) (hb : b < 18446744073709551616) :
    Calls Tryd.prog 32 #[.int .u64 (a : Int), .int .u64 (b : Int)] w fun e w' => e = .returned (.agg #[.int .u64 ((a * b / 18446744073709551616 : Nat) : Int), .int .u64 ((a * b % 18446744073709551616 : Nat) : Int)]) ∧ Below w.heap.size w w' := by
  obtain ⟨p, hp⟩ : ∃ p, p = a * b / 18446744073709551616 := ⟨_, rfl⟩
  obtain ⟨q, hq⟩ : ∃ q, q = a * b % 18446744073709551616 := ⟨_, rfl⟩
  have hm := fun W => bits_mul a b W ha hb
  rw [← hp, ← hq] at hm ⊢
  have HM := Lib.hid hm
  clear hm hp hq
  go_enter Tryd.func32, Tryd.ntmps32
  go_wp2_with fail
  refine (HM.out _).mono ?_
  rintro e w' ⟨rfl, rfl⟩
  go_wp2_with fail
  exact bodyPost_ret (v := .agg #[.int .u64 (p : Int), .int .u64 (q : Int)]) (by simp [results, Tryd.results32, go_sem]) rfl ⟨rfl, (Below.refl _ _).alloc (Nat.le_refl _) _⟩

theorem by_any (a b n : Nat) (w : World) (hb : b < 18446744073709551616) (hn : n < 18446744073709551616) (h : a < n) :
    Calls Tryd.prog 33 #[.agg #[.int .u64 (a : Int), .int .u64 (b : Int)], .int .u64 (n : Int)] w fun e w' => e = .returned (.int .u64 (((a * 18446744073709551616 + b) / n : Nat) : Int)) ∧ Below w.heap.size w w' := by
  have hd := fun W => div64 a b n W hn hb h
  have HD := Lib.hid hd
  clear hd
  go_enter Tryd.func33, Tryd.ntmps33
  go_wp2_with fail
  refine (HD.out _).mono ?_
  rintro e w' ⟨rfl, hb⟩
  go_wp2_with fail
  go_ret
  exact ⟨rfl, ((Below.refl _ _).alloc (Nat.le_refl _) _).trans (hb.mono (by simp))⟩

theorem threshold_bad (k n : Nat) (w : World) (h : n = 0 ∨ n < k) : Calls Tryd.prog 23 #[.int .u64 (k : Int), .int .u64 (n : Int)] w fun e w' => e = .returned (.tuple #[.int .u64 0, .int .u16 1]) ∧ w = w' := by
  by_cases h0 : n = 0
  · subst h0
    go_enter Tryd.func23, Tryd.ntmps23
    go_wp2_with fail
    go_ret2
    exact ⟨rfl, rfl⟩
  · have d0 : ((n : Int) == 0) = false := by simp; omega
    have d1 : decide ((n : Int) < (k : Int)) = true := by simp; omega
    have d2 : decide (n < k) = true := by simp; omega
    go_enter Tryd.func23, Tryd.ntmps23
    go_wp2_with fail
    go_ret2
    exact ⟨rfl, rfl⟩

theorem threshold_any (k n : Nat) (w : World) (hn : n < 18446744073709551616) (h0 : 0 < n) (h : k ≤ n) : Calls Tryd.prog 23 #[.int .u64 (k : Int), .int .u64 (n : Int)] w fun e w' => e = .returned (.tuple #[.int .u64 ((72057594037927936 - share k n : Nat) : Int), .int .u16 0]) ∧ Below w.heap.size w w' := by
  have d0 : ((n : Int) == 0) = false := by simp; omega
  have d1 : decide ((n : Int) < (k : Int)) = false := by simp; omega
  have d2 : decide (n < k) = false := by simp; omega
  have hp := fun W => product_any 72057594037927936 k W (by omega) (by omega)
  have hb := fun W => by_any (72057594037927936 * k / 18446744073709551616) (72057594037927936 * k % 18446744073709551616) n W (Nat.mod_lt _ (by omega)) hn (by omega)
  have hs : (72057594037927936 * k / 18446744073709551616 * 18446744073709551616 + 72057594037927936 * k % 18446744073709551616) / n = share k n := by
    unfold share
    have := Nat.div_add_mod (72057594037927936 * k) 18446744073709551616
    rw [Nat.mul_comm 18446744073709551616] at this
    rw [this]
  rw [hs] at hb
  have hle := share_le h
  obtain ⟨s, hs2⟩ : ∃ s, s = share k n := ⟨_, rfl⟩
  rw [← hs2] at hb hle ⊢
  obtain ⟨a, ha⟩ : ∃ a, a = 72057594037927936 * k / 18446744073709551616 := ⟨_, rfl⟩
  obtain ⟨b, hb2⟩ : ∃ b, b = 72057594037927936 * k % 18446744073709551616 := ⟨_, rfl⟩
  rw [← ha, ← hb2] at hb hp
  have HP := Lib.hid hp
  have HB := Lib.hid hb
  clear hp hb hs ha hb2 hs2
  go_enter Tryd.func23, Tryd.ntmps23
  go_wp2_with fail
  refine (HP.out _).mono ?_
  rintro e w1 ⟨rfl, hb1⟩
  go_wp2_with fail
  refine (HB.out _).mono ?_
  rintro e w2 ⟨rfl, hb2⟩
  go_wp2_with fail
  go_ret2
  refine ⟨?_, hb1.trans (hb2.mono hb1.size)⟩
  rw [show ((72057594037927936 - s : Nat) : Int) = 72057594037927936 - (s : Int) by omega]
  rfl

end Go.Proofs.YtkhbodlffhfmnaaDoor
