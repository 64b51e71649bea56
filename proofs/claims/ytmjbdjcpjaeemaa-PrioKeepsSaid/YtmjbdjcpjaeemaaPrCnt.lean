/-
  For how much one counts: common, divided, counts.
-/
import Derived.Carry
import Derived.Test.YtmjbdjcpjaeemaaProbDiv
import Derived.Test.YtmjbdjcpjaeemaaPrTop
import Derived.Test.YtmjbdjcpjaeemaaPrAbv
import Derived.Test.YtmjbdjcpjaeemaaPr0
namespace Go.Proofs.Ytmjbdjcpjaeemaa
open Go.RowKit Go.Proofs.PrioMath

theorem draws {B : Nat} {a w : World} (h : Below B a w) (n : Nat) : Below B a (w.drewN n) := ⟨h.os, h.tape, h.output, h.size, h.block⟩
set_option maxRecDepth 100000 in
set_option maxHeartbeats 1000000 in
theorem div_small (lo y : Nat) (w : World) (hlo : lo < 18446744073709551616) (h : 0 < y) :
    Calls Try.prog 51 #[.int .u64 ((0 : Nat) : Int), .int .u64 (lo : Int), .int .u64 (y : Int)] w fun e w' => e = .returned (.tuple #[.int .u64 ((lo / y : Nat) : Int), .int .u64 ((lo % y : Nat) : Int)]) ∧ Below w.heap.size w w' := by
  have a0 : ((y : Int) == 0) = false := by simp; omega
  have a1 : decide ((y : Int) ≤ 0) = false := by simp; omega
  obtain ⟨q, hq⟩ : ∃ q, q = lo / y := ⟨_, rfl⟩
  obtain ⟨r, hr⟩ : ∃ r, r = lo % y := ⟨_, rfl⟩
  have hql : q ≤ lo := by rw [hq]; exact Nat.div_le_self _ _
  have hrl : r ≤ lo := by rw [hr]; exact Nat.mod_le _ _
  have e1 : (lo : Int) / (y : Int) = (q : Int) := by rw [hq]; simp
  have e2 : (lo : Int) % (y : Int) = (r : Int) := by rw [hr]; simp
  have e3 : IntKind.u64.wrap (q : Int) = (q : Int) := by rw [IntKind.wrap_u64]; omega
  rw [← hq, ← hr]
  clear hq hr
  go_enter Try.func51, Try.ntmps51
  go_wp2_with fail
  go_quiet (fail)
  go_wp2_with fail
  go_ret2
  exact ⟨by rw [← e2]; rfl, draws (Below.refl _ _) _⟩
/-- **math/bits.Div64 where the quotient fits.** -/
theorem div64 (hi lo y : Nat) (w : World) (hy : y < 18446744073709551616) (hlo : lo < 18446744073709551616) (h : hi < y) :
    Calls Try.prog 51 #[.int .u64 (hi : Int), .int .u64 (lo : Int), .int .u64 (y : Int)] w fun e w' => e = .returned (.tuple #[.int .u64 (((hi * 18446744073709551616 + lo) / y : Nat) : Int), .int .u64 (((hi * 18446744073709551616 + lo) % y : Nat) : Int)]) ∧ Below w.heap.size w w' := by
  rcases Nat.eq_zero_or_pos hi with rfl | h0
  · refine (div_small lo y w hlo h).mono fun e w' ⟨he, hb⟩ => ⟨?_, hb⟩
    rw [he]; simp
  · exact (div_any hi lo y w hy hlo h h0).mono fun e w' ⟨he, hw⟩ => ⟨he, by rw [← hw]; exact Below.refl _ _⟩
/-- What is left of a number of two halves. -/
theorem left_halves (hi lo y : Nat) : (hi % y * 18446744073709551616 + lo) % y = (hi * 18446744073709551616 + lo) % y := by
  rw [Nat.add_mod, Nat.mul_mod, Nat.mod_mod, ← Nat.mul_mod, ← Nat.add_mod]

set_option maxRecDepth 100000 in
set_option maxHeartbeats 1000000 in
theorem rem64 (hi lo y : Nat) (w : World) (hy : y < 18446744073709551616) (hlo : lo < 18446744073709551616) (h0 : 0 < y) (hhi : hi < 18446744073709551616) :
    Calls Try.prog 50 #[.int .u64 (hi : Int), .int .u64 (lo : Int), .int .u64 (y : Int)] w fun e w' => e = .returned (.int .u64 (((hi * 18446744073709551616 + lo) % y : Nat) : Int)) ∧ Below w.heap.size w w' := by
  have hD := fun W => div64 (hi % y) lo y W hy hlo (Nat.mod_lt _ h0)
  rw [left_halves] at hD
  have a0 : ((y : Int) == 0) = false := by simp; omega
  obtain ⟨r, hr⟩ : ∃ r, hi % y = r := ⟨_, rfl⟩
  have e2 : (hi : Int) % (y : Int) = (r : Int) := by rw [← hr]; simp
  rw [hr] at hD
  obtain ⟨x, hx⟩ : ∃ x, (r * 18446744073709551616 + lo) / y = x := ⟨_, rfl⟩
  obtain ⟨z, hz⟩ : ∃ x, (hi * 18446744073709551616 + lo) % y = x := ⟨_, rfl⟩
  rw [hx, hz] at hD
  rw [hz]
  have HD := Lib.hid hD
  clear hD hx hz hr hlo hy
  go_enter Try.func50, Try.ntmps50
  go_wp2_with fail
  refine (HD.out _).mono ?_
  rintro e w1 ⟨rfl, hb⟩
  go_wp2_with fail
  go_ret
  exact ⟨rfl, hb⟩

set_option maxRecDepth 100000 in
set_option maxHeartbeats 1000000 in
theorem common_any (a b : Nat) (w : World) (ha : a < 18446744073709551616) (hb : b < 18446744073709551616) :
    Calls Try.prog 49 #[.int .u64 (a : Int), .int .u64 (b : Int)] w fun e w' => e = .returned (.int .u64 (Nat.gcd a b : Int)) ∧ Below w.heap.size w w' := by
  have hx : Hid (Below w.heap.size w w) := Lib.hid (Below.refl _ _)
  obtain ⟨n0, hn0⟩ : ∃ n0, w.heap.size = n0 := ⟨_, rfl⟩
  obtain ⟨g, hg⟩ : ∃ g, Nat.gcd a b = g := ⟨_, rfl⟩
  rw [hn0] at hx
  rw [hg, hn0]
  have HG := Lib.hid hg
  clear hg hn0
  go_enter Try.func49, Try.ntmps49
  go_wp2_with fail
  go_loopw [0, 1] (fun av bv wr => ∃ x y : Nat, av = .int .u64 (x : Int) ∧ bv = .int .u64 (y : Int) ∧ x < 18446744073709551616 ∧ y < 18446744073709551616 ∧ Hid (Nat.gcd x y = g) ∧ Hid (Below n0 w wr)) (fun _ bv _ => (intOf bv).toNat)
  case atStart => exact ⟨a, b, rfl, rfl, ha, hb, HG, hx⟩
  case round =>
    obtain ⟨x, y, rfl, rfl, hx1, hy1, HG1, HB1⟩ := hrel
    by_cases h0 : y = 0
    · subst h0
      have hend : x = g := by rw [← HG1.out]; simp
      subst hend
      clear HG HG1
      go_wp2_with fail
      go_ret
      exact ⟨rfl, HB1.out⟩
    · have t1 : decide ((0 : Int) < (y : Int)) = true := by simp; omega
      have t1' : decide (0 < y) = true := by simp; omega
      have a0 : ((y : Int) == 0) = false := by simp [h0]
      obtain ⟨r, hr⟩ : ∃ r, x % y = r := ⟨_, rfl⟩
      have hry : r < y := by rw [← hr]; exact Nat.mod_lt _ (by omega)
      have e2 : (x : Int) % (y : Int) = (r : Int) := by rw [← hr]; simp
      have hg2 : Nat.gcd y r = g := by
        rw [← HG1.out, ← hr, Nat.gcd_comm x y, Nat.gcd_rec y x, Nat.gcd_comm]
      have HG2 := Lib.hid hg2
      clear hg2 hr HG1
      go_wp2_with fail
      go_quiet (fail)
      go_wp2_with fail
      go_roundw
      case rel => exact ⟨y, r, rfl, by rw [← e2], hy1, by omega, HG2, Lib.hid (draws HB1.out _)⟩
      case measure => simp [intOf]; omega

theorem big_le {g hi lo : Nat} (h : g ≤ hi) : 18446744073709551616 * g ≤ hi * 18446744073709551616 + lo := by omega
theorem big_lt {g hi lo : Nat} (h : hi < g) (hl : lo < 18446744073709551616) : hi * 18446744073709551616 + lo < 18446744073709551616 * g := by omega
/-- What divided tells: both parts through what divides both, cut at the greatest number. -/
def dvd (N d : Nat) : Nat × Nat := (min (N / Nat.gcd (d + 1) N) 18446744073709551615, (d + 1) / Nat.gcd (d + 1) N)
set_option maxRecDepth 100000 in
set_option maxHeartbeats 1000000 in
theorem divided_any (hi lo d : Nat) (w : World) (hhi : hi < 18446744073709551616) (hlo : lo < 18446744073709551616) (hd : d < 18446744073709551615) :
    Calls Try.prog 30 #[.int .u64 (hi : Int), .int .u64 (lo : Int), .int .u64 (d : Int)] w fun e w' => e = .returned (.tuple #[.int .u64 ((dvd (hi * 18446744073709551616 + lo) d).1 : Int), .int .u64 ((dvd (hi * 18446744073709551616 + lo) d).2 : Int)]) ∧ Below w.heap.size w w' := by
  have t0 : decide ((d : Int) = 18446744073709551615) = false := by simp; omega
  have t0' : ((d : Int) == 18446744073709551615) = false := by simp; omega
  obtain ⟨y, hy⟩ : ∃ y, d + 1 = y := ⟨_, rfl⟩
  have e1 : (d : Int) + 1 = (y : Int) := by omega
  have hy1 : y < 18446744073709551616 := by omega
  have hy0 : 0 < y := by omega
  unfold dvd
  rw [hy]
  obtain ⟨N, hN⟩ : ∃ N, hi * 18446744073709551616 + lo = N := ⟨_, rfl⟩
  have hR := fun W => rem64 hi lo y W hy1 hlo hy0 hhi
  rw [hN] at hR ⊢
  obtain ⟨r, hr⟩ : ∃ r, N % y = r := ⟨_, rfl⟩
  have hry : r < y := by rw [← hr]; exact Nat.mod_lt _ hy0
  rw [hr] at hR
  have hC := fun W => common_any y r W hy1 (by omega)
  have hgg : Nat.gcd y r = Nat.gcd y N := by
    rw [← hr, Nat.gcd_comm, ← Nat.gcd_rec]
  rw [hgg] at hC
  obtain ⟨g, hg⟩ : ∃ g, Nat.gcd y N = g := ⟨_, rfl⟩
  rw [hg] at hC ⊢
  have hg0 : 0 < g := by rw [← hg]; exact Nat.gcd_pos_of_pos_left _ hy0
  have hgy : g ≤ y := by rw [← hg]; exact Nat.gcd_le_left _ hy0
  have ag : ((g : Int) == 0) = false := by simp; omega
  obtain ⟨q, hq⟩ : ∃ q, y / g = q := ⟨_, rfl⟩
  have hqy : q ≤ y := by rw [← hq]; exact Nat.div_le_self _ _
  have e2 : (y : Int) / (g : Int) = (q : Int) := by rw [← hq]; simp
  have e3 : IntKind.u64.wrap (q : Int) = (q : Int) := by rw [IntKind.wrap_u64]; omega
  rw [hq]
  have HR := Lib.hid hR
  have HC := Lib.hid hC
  have HB : Hid (∀ W W', Below w.heap.size w W → Below W.heap.size W W' → Below w.heap.size w W') := Lib.hid fun W W' h1 h2 => h1.trans (h2.mono h1.size)
  by_cases hb : g ≤ hi
  · have t1 : decide ((g : Int) ≤ (hi : Int)) = true := by simp; omega
    have t1' : decide (g ≤ hi) = true := by simp; omega
    have hm : min (N / g) 18446744073709551615 = 18446744073709551615 := by
      have : 18446744073709551616 ≤ N / g := by
        rw [Nat.le_div_iff_mul_le hg0, ← hN]
        exact big_le hb
      omega
    rw [hm]
    clear hm hR hC hgg hg hr hN hy hq hry hgy hb
    obtain ⟨n0, hn0⟩ : ∃ n0, w.heap.size = n0 := ⟨_, rfl⟩
    rw [hn0] at HB ⊢
    go_enter Try.func30, Try.ntmps30
    go_wp2_with fail
    refine (HR.out _).mono ?_
    rintro e w1 ⟨rfl, hb1⟩
    rw [hn0] at hb1
    go_wp2_with fail
    refine (HC.out _).mono ?_
    rintro e w2 ⟨rfl, hb2⟩
    have HB2 := Lib.hid (HB.out _ _ hb1 hb2)
    clear hb1 hb2
    go_wp2_with fail
    go_quiet (fail)
    go_wp2_with fail
    go_ret2
    exact ⟨by rw [← e2]; rfl, draws HB2.out _⟩
  · have t1 : decide ((g : Int) ≤ (hi : Int)) = false := by simp; omega
    have t1' : decide (g ≤ hi) = false := by simp; omega
    have hD := fun W => div64 hi lo g W (by omega) hlo (by omega)
    rw [hN] at hD
    obtain ⟨x, hx⟩ : ∃ x, N / g = x := ⟨_, rfl⟩
    obtain ⟨z, hz⟩ : ∃ x, N % g = x := ⟨_, rfl⟩
    have hxl : x < 18446744073709551616 := by
      rw [← hx, Nat.div_lt_iff_lt_mul hg0, ← hN]
      exact big_lt (by omega) hlo
    rw [hx, hz] at hD
    have hm : min x 18446744073709551615 = x := by omega
    rw [hx, hm]
    have HD := Lib.hid hD
    clear hm hR hC hgg hg hr hN hy hq hry hgy hb hD hx hz
    obtain ⟨n0, hn0⟩ : ∃ n0, w.heap.size = n0 := ⟨_, rfl⟩
    rw [hn0] at HB ⊢
    go_enter Try.func30, Try.ntmps30
    go_wp2_with fail
    refine (HR.out _).mono ?_
    rintro e w1 ⟨rfl, hb1⟩
    rw [hn0] at hb1
    go_wp2_with fail
    refine (HC.out _).mono ?_
    rintro e w2 ⟨rfl, hb2⟩
    have HB2 := Lib.hid (HB.out _ _ hb1 hb2)
    clear hb1 hb2
    go_wp2_with fail
    refine (HD.out _).mono ?_
    rintro e w3 ⟨rfl, hb3⟩
    have HB3 := Lib.hid (HB.out _ _ HB2.out hb3)
    clear hb3
    go_wp2_with fail
    go_quiet (fail)
    go_wp2_with fail
    go_ret2
    exact ⟨by rw [← e2]; rfl, draws HB3.out _⟩
set_option maxRecDepth 100000 in
set_option maxHeartbeats 1000000 in
theorem divided_all (hi lo : Nat) (w : World) :
    Calls Try.prog 30 #[.int .u64 (hi : Int), .int .u64 (lo : Int), .int .u64 18446744073709551615] w fun e w' => e = .returned (.tuple #[.int .u64 (hi : Int), .int .u64 1]) ∧ Below w.heap.size w w' := by
  go_enter Try.func30, Try.ntmps30
  go_wp2_with fail
  go_ret2
  exact ⟨rfl, Below.refl _ _⟩

set_option maxRecDepth 100000 in
set_option maxHeartbeats 1000000 in
theorem counts_any {S : Nat} {keep off v : Value} (x m : Nat) (o : Of) (w : World) (h : Blk w S #[keep, .int .u64 (m : Int), off, v] 55) (hx : x < 18446744073709551616) (hm : m < 18446744073709551616) (ho : Fit o) (hd : o.d < dr m) :
    Calls Try.prog 21 #[.pointer (some ⟨S, 0, none⟩), .int .u64 (x : Int), .agg #[.int .i64 (o.p : Int), .int .u64 (o.w : Int), .int .u64 (o.d : Int)]] w fun e w' => e = .returned (.tuple #[.int .u64 ((cnts x o m).1 : Int), .int .u64 ((cnts x o m).2 : Int)]) ∧ Below w.heap.size w w' := by
  have s1 : w.cell? ⟨S, 1, none⟩ = some (.int .u64 (m : Int)) := h.cell 1 rfl
  have hSl := h.lt
  obtain ⟨p, y, d⟩ := o
  obtain ⟨f1, f2⟩ := ho
  simp only at f1 f2 hd ⊢
  obtain ⟨la, hla⟩ : ∃ la, la + 1 = dr m := ⟨dr m - 1, by unfold dr; split <;> omega⟩
  have hlb : la < 18446744073709551616 := by
    have : dr m ≤ 18446744073709551616 := by unfold dr; split <;> omega
    omega
  have e1 : IntKind.u64.wrap ((m : Int) - 1) = (la : Int) := by
    rw [IntKind.wrap_u64]
    unfold dr at hla
    split at hla
    · rename_i h0
      subst h0
      omega
    · omega
  have e1' : ((m : Int) - 1) % 18446744073709551616 = (la : Int) := by rw [← e1, IntKind.wrap_u64]
  have hA := fun W => above_any y d x la W f1 f2 hx hlb
  have hP := fun W => product_any y la W f1 hlb
  rw [hla] at hP
  have hw : Below w.heap.size w (w.alloc (.cells #[.int .i64 (p : Int), .int .u64 (y : Int), .int .u64 (d : Int)] 59)) := box_below _
  have HW := Lib.hid hw
  have HB : Hid (∀ W W', Below w.heap.size w W → Below W.heap.size W W' → Below w.heap.size w W') := Lib.hid fun W W' h1 h2 => h1.trans (h2.mono h1.size)
  have s2 : (w.alloc (.cells #[.int .i64 (p : Int), .int .u64 (y : Int), .int .u64 (d : Int)] 59)).cell? ⟨S, 1, none⟩ = some (.int .u64 (m : Int)) := (World.cell?_alloc_lt _ _ _ hSl).trans s1
  have hbx := blk_new w #[.int .i64 (p : Int), .int .u64 (y : Int), .int .u64 (d : Int)] 59
  have b1 : (w.alloc (.cells #[.int .i64 (p : Int), .int .u64 (y : Int), .int .u64 (d : Int)] 59)).cell? ⟨w.heap.size, 1, none⟩ = some (.int .u64 (y : Int)) := hbx.cell 1 rfl
  have b2 : (w.alloc (.cells #[.int .i64 (p : Int), .int .u64 (y : Int), .int .u64 (d : Int)] 59)).cell? ⟨w.heap.size, 2, none⟩ = some (.int .u64 (d : Int)) := hbx.cell 2 rfl
  unfold cnts
  simp only
  unfold abv at hA
  rw [hla] at hA
  obtain ⟨V, hV⟩ : ∃ V, y * dr m = V := ⟨_, rfl⟩
  rw [hV] at hA hP ⊢
  by_cases hk : V ≤ x * (d + 1)
  · rw [if_pos hk]
    have hf : decide (x * (d + 1) < V) = false := by simp; omega
    rw [hf] at hA
    have HA := Lib.hid hA
    clear h hA hP hd hla hlb hV hk hf hbx hw f1 f2 hx
    simp only
    go_enter Try.func21, Try.ntmps21
    go_wp2_with fail
    refine (HA.out _).mono ?_
    rintro e w1 ⟨rfl, rfl⟩
    go_wp2_with fail
    go_ret2
    exact ⟨rfl, HW.out⟩
  · rw [if_neg hk]
    have hf : decide (x * (d + 1) < V) = true := by simp; omega
    rw [hf] at hA
    have HA := Lib.hid hA
    have HP := Lib.hid hP
    have hH : V / 18446744073709551616 < 18446744073709551616 := by
      rw [← hV]
      refine Nat.div_lt_of_lt_mul (Nat.lt_of_le_of_lt (Nat.mul_le_mul_left y (show dr m ≤ 18446744073709551616 by omega)) ?_)
      exact Nat.mul_lt_mul_of_pos_right f1 (by omega)
    have hD : ∀ W, Calls Try.prog 30 #[.int .u64 ((V / 18446744073709551616 : Nat) : Int), .int .u64 ((V % 18446744073709551616 : Nat) : Int), .int .u64 (d : Int)] W fun e w' => e = .returned (.tuple #[.int .u64 ((dvd V d).1 : Int), .int .u64 ((dvd V d).2 : Int)]) ∧ Below W.heap.size W w' := fun W => by
      by_cases hdm : d = 18446744073709551615
      · have hdr : dr m = 18446744073709551616 := by omega
        rw [hdr] at hV
        have h1 : V / 18446744073709551616 = y := by omega
        have hg : Nat.gcd (d + 1) V = 18446744073709551616 := by
          rw [hdm, ← hV]
          exact Nat.gcd_eq_left (Nat.dvd_mul_left _ _)
        have h2 : dvd V d = (y, 1) := by
          unfold dvd
          rw [hg, h1, hdm]
          simp
          omega
        rw [h2, h1, hdm]
        exact divided_all _ _ _
      · have := divided_any (V / 18446744073709551616) (V % 18446744073709551616) d W hH (Nat.mod_lt _ (by omega)) (by omega)
        rwa [show V / 18446744073709551616 * 18446744073709551616 + V % 18446744073709551616 = V by omega] at this
    obtain ⟨vh, hvh⟩ : ∃ v, V / 18446744073709551616 = v := ⟨_, rfl⟩
    obtain ⟨vl, hvl⟩ : ∃ v, V % 18446744073709551616 = v := ⟨_, rfl⟩
    rw [hvh, hvl] at HP hD
    have hfin : dvd V d = (min (V / Nat.gcd (d + 1) V) 18446744073709551615, (d + 1) / Nat.gcd (d + 1) V) := rfl
    rw [← hfin]
    obtain ⟨⟨q1, q2⟩, hq⟩ : ∃ q, dvd V d = q := ⟨_, rfl⟩
    rw [hq] at hD ⊢
    have HD := Lib.hid hD
    clear h hA hP hd hla hlb hV hk hf hbx hw f1 f2 hx hD hq hfin hvh hvl hH
    simp only at HD ⊢
    go_enter Try.func21, Try.ntmps21
    go_wp2_with fail
    refine (HA.out _).mono ?_
    rintro e w1 ⟨rfl, rfl⟩
    go_wp2_with fail
    refine (HP.out _).mono ?_
    rintro e w1 ⟨rfl, rfl⟩
    go_wp2_with fail
    refine (HD.out _).mono ?_
    rintro e w2 ⟨rfl, hb2⟩
    have HB2 := Lib.hid (HB.out _ _ HW.out hb2)
    clear hb2
    go_wp2_with fail
    go_ret2
    exact ⟨rfl, HB2.out⟩
end Go.Proofs.Ytmjbdjcpjaeemaa
