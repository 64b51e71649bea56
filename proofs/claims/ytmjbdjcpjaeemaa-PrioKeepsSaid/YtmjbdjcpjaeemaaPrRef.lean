/-
  The document's own answers of layer 11, the first part: times, product, Above; a draw as it counts.
-/
import Derived.Test.YtmjbdjcpjaeemaaPrAbv
import Derived.Test.YtmjbdjcpjaeemaaPrTop
namespace Go.Proofs.Ytmjbdjcpjaeemaa
open Go.RowKit Go.Proofs.PrioMath

/-- Two numbers by their halves. -/
theorem by_half (x y u v : Nat) : (x * 4294967296 + y) * (u * 4294967296 + v) = x * u * 18446744073709551616 + (x * v + y * u) * 4294967296 + y * v := by
  have e1 : x * 4294967296 * (u * 4294967296) = x * u * 18446744073709551616 := by
    rw [show x * 4294967296 * (u * 4294967296) = x * u * (4294967296 * 4294967296) by
      rw [Nat.mul_assoc, Nat.mul_left_comm 4294967296 u, ← Nat.mul_assoc]]
  have e2 : x * 4294967296 * v = x * v * 4294967296 := by rw [Nat.mul_assoc, Nat.mul_comm 4294967296 v, ← Nat.mul_assoc]
  have e3 : y * (u * 4294967296) = y * u * 4294967296 := by rw [Nat.mul_assoc]
  rw [Nat.add_mul, Nat.mul_add, Nat.mul_add, e1, e2, e3, Nat.add_mul]
  omega
theorem small_prod {a b : Nat} (ha : a < 4294967296) (hb : b < 4294967296) : a * b ≤ 18446744065119617025 := Nat.mul_le_mul (show a ≤ 4294967295 by omega) (show b ≤ 4294967295 by omega)
theorem times_named (a b : Nat) (ha : a < 18446744073709551616) (hb : b < 18446744073709551616) : ∃ x y u v L Q R P l1 l0 M m1 m0 O o1 o0 s1 z : Nat,
    (a : Int) / 4294967296 = (x : Int) ∧ (a : Int) % 4294967296 = (y : Int) ∧ (b : Int) / 4294967296 = (u : Int) ∧ (b : Int) % 4294967296 = (v : Int) ∧ (y : Int) * (v : Int) = (L : Int) ∧ (x : Int) * (v : Int) = (Q : Int) ∧ (y : Int) * (u : Int) = (R : Int) ∧ (x : Int) * (u : Int) = (P : Int) ∧
    (L : Int) / 4294967296 = (l1 : Int) ∧ (L : Int) % 4294967296 = (l0 : Int) ∧ (Q : Int) + (l1 : Int) = (M : Int) ∧ (M : Int) / 4294967296 = (m1 : Int) ∧ (M : Int) % 4294967296 = (m0 : Int) ∧ (R : Int) + (m0 : Int) = (O : Int) ∧ (O : Int) / 4294967296 = (o1 : Int) ∧ (O : Int) % 4294967296 = (o0 : Int) ∧ (P : Int) + (m1 : Int) = (s1 : Int) ∧ (s1 : Int) + (o1 : Int) = ((a * b / 18446744073709551616 : Nat) : Int) ∧ (o0 : Int) * 4294967296 = (z : Int) ∧ (z : Int) + (l0 : Int) = ((a * b % 18446744073709551616 : Nat) : Int) ∧
    (L < 18446744073709551616 ∧ Q < 18446744073709551616 ∧ R < 18446744073709551616 ∧ P < 18446744073709551616 ∧ M < 18446744073709551616 ∧ O < 18446744073709551616 ∧ s1 < 18446744073709551616 ∧ z < 18446744073709551616) ∧ x < 4294967296 ∧ y < 4294967296 ∧ u < 4294967296 ∧ v < 4294967296 := by
  obtain ⟨x, hx⟩ : ∃ x, x = a / 4294967296 := ⟨_, rfl⟩
  obtain ⟨y, hy⟩ : ∃ x, x = a % 4294967296 := ⟨_, rfl⟩
  obtain ⟨u, hu⟩ : ∃ x, x = b / 4294967296 := ⟨_, rfl⟩
  obtain ⟨v, hv⟩ : ∃ x, x = b % 4294967296 := ⟨_, rfl⟩
  have xb : x < 4294967296 := by omega
  have yb : y < 4294967296 := by omega
  have ub : u < 4294967296 := by omega
  have vb : v < 4294967296 := by omega
  have ea : a = x * 4294967296 + y := by omega
  have eb : b = u * 4294967296 + v := by omega
  have hh := by_half x y u v
  rw [← ea, ← eb] at hh
  have hL := small_prod yb vb
  have hQ := small_prod xb vb
  have hR := small_prod yb ub
  have hP := small_prod xb ub
  have iL : (y : Int) * (v : Int) = ((y * v : Nat) : Int) := by simp
  have iQ : (x : Int) * (v : Int) = ((x * v : Nat) : Int) := by simp
  have iR : (y : Int) * (u : Int) = ((y * u : Nat) : Int) := by simp
  have iP : (x : Int) * (u : Int) = ((x * u : Nat) : Int) := by simp
  obtain ⟨L, eL⟩ : ∃ z, y * v = z := ⟨_, rfl⟩
  obtain ⟨Q, eQ⟩ : ∃ z, x * v = z := ⟨_, rfl⟩
  obtain ⟨R, eR⟩ : ∃ z, y * u = z := ⟨_, rfl⟩
  obtain ⟨P, eP⟩ : ∃ z, x * u = z := ⟨_, rfl⟩
  obtain ⟨D, eD⟩ : ∃ z, a * b = z := ⟨_, rfl⟩
  rw [eL] at iL hL hh
  rw [eQ] at iQ hQ hh
  rw [eR] at iR hR hh
  rw [eP] at iP hP hh
  rw [eD] at hh
  rw [eD]
  clear eL eQ eR eP eD
  refine ⟨x, y, u, v, L, Q, R, P, L / 4294967296, L % 4294967296, Q + L / 4294967296, (Q + L / 4294967296) / 4294967296, (Q + L / 4294967296) % 4294967296, R + (Q + L / 4294967296) % 4294967296, (R + (Q + L / 4294967296) % 4294967296) / 4294967296, (R + (Q + L / 4294967296) % 4294967296) % 4294967296, P + (Q + L / 4294967296) / 4294967296, (R + (Q + L / 4294967296) % 4294967296) % 4294967296 * 4294967296, by omega, by omega, by omega, by omega, iL, iQ, iR, iP, by omega, by omega, by omega, by omega, by omega, by omega, by omega, by omega, by omega, by omega, by omega, by omega, ⟨by omega, by omega, by omega, by omega, by omega, by omega, by omega, by omega⟩, xb, yb, ub, vb⟩

set_option maxRecDepth 100000 in
set_option maxHeartbeats 2000000 in
theorem times_any (a b : Nat) (w : World) (ha : a < 18446744073709551616) (hb : b < 18446744073709551616) :
    Calls Try.prog 34 #[.int .u64 (a : Int), .int .u64 (b : Int)] w fun e w' => e = .returned (.tuple #[.int .u64 ((a * b / 18446744073709551616 : Nat) : Int), .int .u64 ((a * b % 18446744073709551616 : Nat) : Int)]) ∧ w = w' := by
  obtain ⟨x, y, u, v, L, Q, R, P, l1, l0, M, m1, m0, O, o1, o0, s1, z, h1, h2, h3, h4, h5, h6, h7, h8, h9, h10, h11, h12, h13, h14, h15, h16, h17, h18, h19, h20, ⟨b1, b2, b3, b4, b5, b6, b7, b8⟩, b9, b10, b11, b12⟩ := times_named a b ha hb
  have hh1 : a * b / 18446744073709551616 < 18446744073709551616 := Nat.div_lt_of_lt_mul (Nat.lt_of_le_of_lt (Nat.mul_le_mul_left a (show b ≤ 18446744073709551616 by omega)) (Nat.mul_lt_mul_of_pos_right ha (by omega)))
  have hh2 : a * b % 18446744073709551616 < 18446744073709551616 := Nat.mod_lt _ (by omega)
  obtain ⟨H, hH⟩ : ∃ H, a * b / 18446744073709551616 = H := ⟨_, rfl⟩
  obtain ⟨G, hG⟩ : ∃ H, a * b % 18446744073709551616 = H := ⟨_, rfl⟩
  rw [hH] at h18 hh1 ⊢
  rw [hG] at h20 hh2 ⊢
  have bl1 : l1 < 18446744073709551616 := by omega
  have bl0 : l0 < 18446744073709551616 := by omega
  have bm1 : m1 < 18446744073709551616 := by omega
  have bm0 : m0 < 18446744073709551616 := by omega
  have bo1 : o1 < 18446744073709551616 := by omega
  have bo0 : o0 < 18446744073709551616 := by omega
  have c9 : x < 18446744073709551616 := by omega
  have c10 : y < 18446744073709551616 := by omega
  have c11 : u < 18446744073709551616 := by omega
  have c12 : v < 18446744073709551616 := by omega
  clear hH hG b9 b10 b11 b12
  go_enter Try.func34, Try.ntmps34
  go_wp2_with fail
  go_ret2
  exact ⟨rfl, rfl⟩

set_option maxRecDepth 100000 in
set_option maxHeartbeats 1000000 in
theorem refProduct_any (a d : Nat) (w : World) (ha : a < 18446744073709551616) (hd : d < 18446744073709551616) :
    Calls Try.prog 35 #[.int .u64 (a : Int), .int .u64 (d : Int)] w fun e w' => e = .returned (.tuple #[.int .u64 ((a * (d + 1) / 18446744073709551616 : Nat) : Int), .int .u64 ((a * (d + 1) % 18446744073709551616 : Nat) : Int)]) ∧ w = w' := by
  obtain ⟨e1, e2, e3⟩ := halves a d ha hd
  have hm := times_any a d w ha hd
  have hLl : a * d % 18446744073709551616 < 18446744073709551616 := Nat.mod_lt _ (by omega)
  obtain ⟨H, hH⟩ : ∃ H, a * d / 18446744073709551616 = H := ⟨_, rfl⟩
  obtain ⟨L, hL⟩ : ∃ L, a * d % 18446744073709551616 = L := ⟨_, rfl⟩
  rw [hH, hL] at hm
  rw [hL] at e1 e2 hLl
  rw [hH] at e2
  obtain ⟨R, hR⟩ : ∃ R, a * (d + 1) / 18446744073709551616 = R := ⟨_, rfl⟩
  obtain ⟨G, hG⟩ : ∃ R, a * (d + 1) % 18446744073709551616 = R := ⟨_, rfl⟩
  rw [hR] at e2 e3 ⊢
  rw [hG] at e1 ⊢
  have HM := Lib.hid hm
  have hs : IntKind.u64.wrap ((L : Int) + (a : Int)) = (G : Int) := by rw [IntKind.wrap_u64]; omega
  have hs' : ((L : Int) + (a : Int)) % 18446744073709551616 = (G : Int) := by omega
  by_cases hc : G < a
  · have t1 : decide ((G : Int) < (a : Int)) = true := by simp; omega
    have t1' : decide (G < a) = true := by simp; omega
    have hr : (H : Int) + 1 = (R : Int) := by omega
    clear hm hH hL hR hG e1 e2 hLl hc
    go_enter Try.func35, Try.ntmps35
    go_wp2_with fail
    refine HM.out.mono ?_
    rintro e w' ⟨rfl, rfl⟩
    go_wp2_with fail
    go_ret2
    exact ⟨rfl, rfl⟩
  · have t1 : decide ((G : Int) < (a : Int)) = false := by simp; omega
    have t1' : decide (G < a) = false := by simp; omega
    have hr : R = H := by omega
    subst hr
    clear hm hL hR hG e1 e2 hLl hc
    go_enter Try.func35, Try.ntmps35
    go_wp2_with fail
    refine HM.out.mono ?_
    rintro e w' ⟨rfl, rfl⟩
    go_wp2_with fail
    go_ret2
    exact ⟨rfl, rfl⟩

set_option maxRecDepth 100000 in
set_option maxHeartbeats 1000000 in
theorem refAbove_any (a c b d : Nat) (w : World) (ha : a < 18446744073709551616) (hc : c < 18446744073709551616) (hb : b < 18446744073709551616) (hd : d < 18446744073709551616) :
    Calls Try.prog 33 #[.int .u64 (a : Int), .int .u64 (c : Int), .int .u64 (b : Int), .int .u64 (d : Int)] w fun e w' => e = .returned (.bool (abv a c b d)) ∧ w = w' := by
  have h1 := refProduct_any a d w ha hd
  have h2 := refProduct_any b c w hb hc
  have hv := by_halves (a * (d + 1)) (b * (c + 1))
  unfold abv
  rw [hv]
  clear hv
  obtain ⟨x1, hx1⟩ : ∃ x, a * (d + 1) / 18446744073709551616 = x := ⟨_, rfl⟩
  obtain ⟨x0, hx0⟩ : ∃ x, a * (d + 1) % 18446744073709551616 = x := ⟨_, rfl⟩
  obtain ⟨y1, hy1⟩ : ∃ x, b * (c + 1) / 18446744073709551616 = x := ⟨_, rfl⟩
  obtain ⟨y0, hy0⟩ : ∃ x, b * (c + 1) % 18446744073709551616 = x := ⟨_, rfl⟩
  rw [hx1, hx0] at h1
  rw [hy1, hy0] at h2
  rw [hx1, hx0, hy1, hy0]
  have H1 := Lib.hid h1
  have H2 := Lib.hid h2
  clear h1 h2 hx1 hx0 hy1 hy0 ha hb hc hd
  by_cases k1 : y1 < x1
  · have t1 : decide ((y1 : Int) < (x1 : Int)) = true := by simp; omega
    have t1' : decide (y1 < x1) = true := by simp; omega
    rw [t1']
    simp only [Bool.true_or]
    clear k1
    go_enter Try.func33, Try.ntmps33
    go_wp2_with fail
    refine H1.out.mono ?_
    rintro e w' ⟨rfl, rfl⟩
    go_wp2_with fail
    refine H2.out.mono ?_
    rintro e w' ⟨rfl, rfl⟩
    go_wp2_with fail
    go_ret
    exact ⟨rfl, rfl⟩
  · have t1 : decide ((y1 : Int) < (x1 : Int)) = false := by simp; omega
    have t1' : decide (y1 < x1) = false := by simp; omega
    rw [t1']
    simp only [Bool.false_or]
    obtain ⟨b1, t2⟩ : ∃ b1, (x1 == y1) = b1 := ⟨_, rfl⟩
    have t2' : ((x1 : Int) == (y1 : Int)) = b1 := by
      rw [← t2]
      by_cases h : x1 = y1
      · simp [h]
      · have h' : ¬ (x1 : Int) = (y1 : Int) := by omega
        rw [beq_eq_false_iff_ne.2 h, beq_eq_false_iff_ne.2 h']
    obtain ⟨b2, t3⟩ : ∃ b2, decide (y0 < x0) = b2 := ⟨_, rfl⟩
    have t3' : decide ((y0 : Int) < (x0 : Int)) = b2 := by
      rw [← t3]
      simp
    have t2d : decide (x1 = y1) = b1 := by rw [← t2]; by_cases h : x1 = y1 <;> simp [h]
    rw [t2, t3]
    clear k1
    go_enter Try.func33, Try.ntmps33
    go_wp2_with fail
    refine H1.out.mono ?_
    rintro e w' ⟨rfl, rfl⟩
    go_wp2_with fail
    refine H2.out.mono ?_
    rintro e w' ⟨rfl, rfl⟩
    cases b1 with
    | true =>
      go_wp2_with fail
      go_ret
      exact ⟨rfl, rfl⟩
    | false =>
      go_wp2_with fail
      go_ret
      exact ⟨rfl, rfl⟩
end Go.Proofs.Ytmjbdjcpjaeemaa
