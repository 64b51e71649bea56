/-
  Contracts of package prob: Keep, Kept, Threshold, Weight, at every number.
-/
import Derived.Test.YtpcichbceaijjaaProbDiv
namespace Go.Proofs.Ytpcichbceaijjaa
open Go.RowKit Go.Proofs.ProbMath

theorem ret_b' {a b : Bool} (h : a = b) : Ending.returned (.bool a) = .returned (.bool b) := by rw [h]
theorem draws {B : Nat} {a w : World} (h : Below B a w) (n : Nat) : Below B a (w.drewN n) := ⟨h.os, h.tape, h.output, h.size, h.block⟩

set_option maxRecDepth 100000 in
set_option maxHeartbeats 1000000 in
theorem div_small (lo y : Nat) (w : World) (hlo : lo < 18446744073709551616) (h : 0 < y) :
    Calls Try.prog 37 #[.int .u64 ((0 : Nat) : Int), .int .u64 (lo : Int), .int .u64 (y : Int)] w fun e w' => e = .returned (.tuple #[.int .u64 ((lo / y : Nat) : Int), .int .u64 ((lo % y : Nat) : Int)]) ∧ Below w.heap.size w w' := by
  have a0 : ((y : Int) == 0) = false := by simp; omega
  have a1 : decide ((y : Int) ≤ 0) = false := by simp; omega
  obtain ⟨q, hq⟩ : ∃ q, q = lo / y := ⟨_, rfl⟩
  obtain ⟨r, hr⟩ : ∃ r, r = lo % y := ⟨_, rfl⟩
  have hql : q ≤ lo := by rw [hq]; exact Nat.div_le_self _ _
  have hrl : r ≤ lo := by rw [hr]; exact Nat.mod_le _ _
  have e1 : (lo : Int) / (y : Int) = (q : Int) := by rw [hq]; simp
  have e2 : (lo : Int) % (y : Int) = (r : Int) := by rw [hr]; simp
  have e3 : IntKind.u64.wrap (q : Int) = (q : Int) := by rw [IntKind.wrap_u64]; omega
  rw [← hq, ← hr]
  clear hq hr
  go_enter Try.func37, Try.ntmps37
  go_wp2_with fail
  go_quiet (fail)
  go_wp2_with fail
  go_ret2
  exact ⟨by rw [← e2]; rfl, draws (Below.refl _ _) _⟩

/-- **math/bits.Div64 where the quotient fits.** -/
theorem div64 (hi lo y : Nat) (w : World) (hy : y < 18446744073709551616) (hlo : lo < 18446744073709551616) (h : hi < y) :
    Calls Try.prog 37 #[.int .u64 (hi : Int), .int .u64 (lo : Int), .int .u64 (y : Int)] w fun e w' => e = .returned (.tuple #[.int .u64 (((hi * 18446744073709551616 + lo) / y : Nat) : Int), .int .u64 (((hi * 18446744073709551616 + lo) % y : Nat) : Int)]) ∧ Below w.heap.size w w' := by
  rcases Nat.eq_zero_or_pos hi with rfl | h0
  · refine (div_small lo y w hlo h).mono fun e w' ⟨he, hb⟩ => ⟨?_, hb⟩
    rw [he]; simp
  · exact (div_any hi lo y w hy hlo h h0).mono fun e w' ⟨he, hw⟩ => ⟨he, by rw [← hw]; exact Below.refl _ _⟩

set_option maxHeartbeats 1000000 in
theorem common_any (a b : Nat) (w : World) (ha : a < 18446744073709551616) (hb : b < 18446744073709551616) :
    Calls Try.prog 32 #[.int .u64 (a : Int), .int .u64 (b : Int)] w fun e w' => e = .returned (.int .u64 ((Nat.gcd a b : Nat) : Int)) ∧ Below w.heap.size w w' := by
  go_enter Try.func32, Try.ntmps32
  go_wp2_with fail
  go_loopw [0, 1] (fun p q wr => ∃ x y : Nat, p = .int .u64 (x : Int) ∧ q = .int .u64 (y : Int) ∧ x < 18446744073709551616 ∧ y < 18446744073709551616 ∧ Hid (Nat.gcd x y = Nat.gcd a b) ∧ Below w.heap.size w wr) (fun _ q _ => (intOf q).toNat)
  case atStart => exact ⟨a, b, rfl, rfl, ha, hb, rfl, Below.refl _ _⟩
  case round =>
    obtain ⟨x, y, rfl, rfl, hx, hy, hg, hB⟩ := hrel
    rcases Nat.eq_zero_or_pos y with rfl | h0
    · have d : ((((0 : Nat) : Int)) != 0) = false := by simp
      rw [Nat.gcd_zero_right] at hg
      go_wp2_with fail
      go_ret
      exact ⟨by rw [← hg.out]; rfl, hB⟩
    · have d : ((y : Int) != 0) = true := by simp; omega
      have d' : ((y : Int) == 0) = false := by simp; omega
      obtain ⟨r, hr⟩ : ∃ r, r = x % y := ⟨_, rfl⟩
      have hrl : r < y := by rw [hr]; exact Nat.mod_lt _ h0
      have e2 : (x : Int) % (y : Int) = (r : Int) := by rw [hr]; simp
      have hg2 : Nat.gcd y r = Nat.gcd a b := by rw [hr, ← hg.out, Nat.gcd_comm x y, Nat.gcd_rec y x, Nat.gcd_comm]
      have HG := Lib.hid hg2
      clear hg hg2 hr
      go_wp2_with fail
      go_quiet (fail)
      go_wp2_with fail
      go_roundw
      case rel => exact ⟨y, r, rfl, by rw [e2], by omega, by omega, HG, draws hB _⟩
      case measure => simp [intOf]; omega

theorem keep_any (r t : Nat) (w : World) : Calls Try.prog 20 #[.int .u64 (r : Int), .int .u64 (t : Int)] w fun e w' => e = .returned (.bool (keep r t)) ∧ w = w' := by
  by_cases h1 : r < 72057594037927936
  · have d : decide ((r : Int) < 72057594037927936) = true := by simp; omega
    have hres : decide (t ≤ r) = keep r t := by unfold keep; simp [h1]
    have H := Lib.hid hres
    clear hres
    go_enter Try.func20, Try.ntmps20
    go_wp2_with fail
    all_goals
      go_ret
      exact ⟨ret_b' (by rw [← H.out]), rfl⟩
  · have d : decide ((r : Int) < 72057594037927936) = false := by simp; omega
    have hres : false = keep r t := by unfold keep; simp [h1]
    have H := Lib.hid hres
    clear hres
    go_enter Try.func20, Try.ntmps20
    go_wp2_with fail
    all_goals
      go_ret
      exact ⟨ret_b' H.out, rfl⟩

theorem ret_i' {k : IntKind} {a b : Int} (h : a = b) : Ending.returned (.int k a) = .returned (.int k b) := by rw [h]
theorem kept_any (t : Nat) (w : World) : Calls Try.prog 22 #[.int .u64 (t : Int)] w fun e w' => e = .returned (.int .u64 (kept t : Int)) ∧ w = w' := by
  go_enter Try.func22, Try.ntmps22
  go_wp2_with fail
  go_ret
  exact ⟨ret_i' (by unfold kept; omega), rfl⟩

theorem bits_mul (a b : Nat) (w : World) (ha : a < 18446744073709551616) (hb : b < 18446744073709551616) :
    Calls Try.prog 36 #[.int .u64 (a : Int), .int .u64 (b : Int)] w fun e w' => e = .returned (.tuple #[.int .u64 ((a * b / 18446744073709551616 : Nat) : Int), .int .u64 ((a * b % 18446744073709551616 : Nat) : Int)]) ∧ w = w' :=
  (Try.bits_Mul64 a b ha hb w).mono fun _ _ ⟨he, hw⟩ => ⟨he, hw.symm⟩

theorem gcd_pos (t : Nat) : 0 < both t := Nat.gcd_pos_of_pos_left _ (by omega)
theorem both_le (t : Nat) : both t ≤ 72057594037927936 := Nat.gcd_le_left _ (by omega)

set_option maxRecDepth 100000 in
theorem weight_bad (t : Nat) (w : World) (h : 72057594037927936 ≤ t) : Calls Try.prog 15 #[.int .u64 (t : Int)] w fun e w' => e = .returned (.tuple #[.int .u64 0, .int .u64 0, .int .u16 1]) ∧ Below w.heap.size w w' := by
  have d : decide (72057594037927936 ≤ (t : Int)) = true := by simp; omega
  go_enter Try.func15, Try.ntmps15
  go_wp2_with fail
  go_ret3
  exact ⟨rfl, Below.refl _ _⟩

set_option maxRecDepth 100000 in
set_option maxHeartbeats 1000000 in
theorem weight_any (t : Nat) (w : World) (h : t < 72057594037927936) : Calls Try.prog 15 #[.int .u64 (t : Int)] w fun e w' => e = .returned (.tuple #[.int .u64 ((72057594037927936 / both t : Nat) : Int), .int .u64 ((kept t / both t : Nat) : Int), .int .u16 0]) ∧ Below w.heap.size w w' := by
  have d : decide (72057594037927936 ≤ (t : Int)) = false := by simp; omega
  have hgp := gcd_pos t
  have hgl := both_le t
  obtain ⟨k, hk⟩ : ∃ k, k = kept t := ⟨_, rfl⟩
  have hkl : k ≤ 72057594037927936 := by rw [hk]; unfold kept; omega
  have hg0 : Nat.gcd 72057594037927936 k = both t := by rw [hk]; rfl
  obtain ⟨g, hg⟩ : ∃ g, g = both t := ⟨_, rfl⟩
  rw [← hg] at hgp hgl hg0 ⊢
  rw [← hk]
  have e1 : (72057594037927936 : Int) / (g : Int) = ((72057594037927936 / g : Nat) : Int) := by rw [show (72057594037927936 : Int) = ((72057594037927936 : Nat) : Int) from rfl]; exact (Int.natCast_ediv _ _).symm
  have e2 : (k : Int) / (g : Int) = ((k / g : Nat) : Int) := by simp
  obtain ⟨a, ha⟩ : ∃ a, a = 72057594037927936 / g := ⟨_, rfl⟩
  obtain ⟨b, hb⟩ : ∃ b, b = k / g := ⟨_, rfl⟩
  have hal : a ≤ 72057594037927936 := by rw [ha]; exact Nat.div_le_self _ _
  have hbl : b ≤ k := by rw [hb]; exact Nat.div_le_self _ _
  rw [← ha] at e1 ⊢
  rw [← hb] at e2 ⊢
  have e3 : IntKind.u64.wrap (a : Int) = (a : Int) := by rw [IntKind.wrap_u64]; omega
  have e4 : IntKind.u64.wrap (b : Int) = (b : Int) := by rw [IntKind.wrap_u64]; omega
  have e5 : ((g : Int) == 0) = false := by simp; omega
  have HK := Lib.hid hk
  have HG := Lib.hid hg0
  clear hk hg0 hg ha hb
  go_enter Try.func15, Try.ntmps15
  go_wp2_with fail
  refine (kept_any t _).mono ?_
  rintro e w' ⟨rfl, rfl⟩
  rw [← HK.out]
  go_wp2_with fail
  refine (common_any 72057594037927936 k _ (by omega) (by omega)).mono ?_
  rintro e w1 ⟨rfl, hb1⟩
  rw [HG.out]
  go_wp2_with fail
  go_quiet (fail)
  go_wp2_with fail
  go_ret3
  exact ⟨by rw [← e1]; rfl, draws hb1 _⟩

theorem product_any (a b : Nat) (w : World) (ha : a < 18446744073709551616) (hb : b < 18446744073709551616) :
    Calls Try.prog 30 #[.int .u64 (a : Int), .int .u64 (b : Int)] w fun e w' => e = .returned (.agg #[.int .u64 ((a * b / 18446744073709551616 : Nat) : Int), .int .u64 ((a * b % 18446744073709551616 : Nat) : Int)]) ∧ Below w.heap.size w w' := by
  obtain ⟨p, hp⟩ : ∃ p, p = a * b / 18446744073709551616 := ⟨_, rfl⟩
  obtain ⟨q, hq⟩ : ∃ q, q = a * b % 18446744073709551616 := ⟨_, rfl⟩
  have hm := fun W => bits_mul a b W ha hb
  rw [← hp, ← hq] at hm ⊢
  have HM := Lib.hid hm
  clear hm hp hq
  go_enter Try.func30, Try.ntmps30
  go_wp2_with fail
  refine (HM.out _).mono ?_
  rintro e w' ⟨rfl, rfl⟩
  go_wp2_with fail
  exact bodyPost_ret (v := .agg #[.int .u64 (p : Int), .int .u64 (q : Int)]) (by simp [results, Try.results30, go_sem]) rfl ⟨rfl, (Below.refl _ _).alloc (Nat.le_refl _) _⟩

end Go.Proofs.Ytpcichbceaijjaa
