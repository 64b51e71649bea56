/-
  Proved: PrioAbove returns true for every four numbers and every four bytes: Above of any four numbers is what the chapter says; it is an order: not both, and not of one with itself. No condition.
-/
import Derived.Test.YtbjpfafohaebpaaPrRef
import Derived.Test.YtbjpfafohaebpaaPrKnown
namespace Go.Proofs.Ytbjpfafohaebpaa
open Go.ChangeShapes Go.WideShapes Go.ChangeAt Go.RowKit Go.Proofs.PrioMath

theorem abv_self (a c : Nat) : abv a c a c = false := by unfold abv; simp
theorem abv_not (a c b d : Nat) (h : abv a c b d = true) : abv b d a c = false := by
  unfold abv at *
  simp at h ⊢
  omega
theorem abv_next (a c c1 : Nat) (hc : c < 18446744073709551616) (h1 : c1 = (c + 1) % 18446744073709551616) : abv a c a c1 = (decide (0 < a) && decide (0 < c1)) := by
  unfold abv
  by_cases ha : a = 0
  · subst ha; simp
  · have ha' : 0 < a := by omega
    by_cases hm : c = 18446744073709551615
    · subst hm
      have : c1 = 0 := by omega
      subst this
      simp
      omega
    · have : c1 = c + 1 := by omega
      subst this
      have h2 : a * (c + 1) < a * (c + 1 + 1) := Nat.mul_lt_mul_of_pos_left (by omega) ha'
      simp [h2, ha']

set_option maxRecDepth 100000 in
set_option maxHeartbeats 2000000 in
theorem prioAbove_walk (a c b d : Nat) (e f g h : UInt8) (w : World) (ha : a < 18446744073709551616) (hc : c < 18446744073709551616) (hb : b < 18446744073709551616) (hd : d < 18446744073709551616) :
    Calls Try.prog 6 #[.int .u64 (a : Int), .int .u64 (c : Int), .int .u64 (b : Int), .int .u64 (d : Int), .int .u8 (e.toNat : Int), .int .u8 (f.toNat : Int), .int .u8 (g.toNat : Int), .int .u8 (h.toNat : Int)] w fun e w' => e = .returned (.bool true) ∧ Below w.heap.size w w' := by
  have he8 := e.toNat_lt
  have hf8 := f.toNat_lt
  have hg8 := g.toNat_lt
  have hh8 := h.toNat_lt
  obtain ⟨x, hx⟩ : ∃ x, e.toNat = x := ⟨_, rfl⟩
  obtain ⟨y, hy⟩ : ∃ x, f.toNat = x := ⟨_, rfl⟩
  obtain ⟨z, hz⟩ : ∃ x, g.toNat = x := ⟨_, rfl⟩
  obtain ⟨t, ht⟩ : ∃ x, h.toNat = x := ⟨_, rfl⟩
  rw [hx] at he8 ⊢
  rw [hy] at hf8 ⊢
  rw [hz] at hg8 ⊢
  rw [ht] at hh8 ⊢
  clear hx hy hz ht
  obtain ⟨t1, ht1, ht2⟩ : ∃ n : Nat, (t : Int) + 1 = (n : Int) ∧ n = t + 1 := ⟨t + 1, by simp, rfl⟩
  obtain ⟨y1, hy1, hy2⟩ : ∃ n : Nat, (y : Int) + 1 = (n : Int) ∧ n = y + 1 := ⟨y + 1, by simp, rfl⟩
  obtain ⟨p1, hp1, hp2, hp3⟩ : ∃ n : Nat, (x : Int) * (t1 : Int) = (n : Int) ∧ n = x * (t + 1) ∧ n ≤ 65280 := ⟨x * t1, by simp, by rw [ht2], Nat.mul_le_mul (show x ≤ 255 by omega) (show t1 ≤ 256 by omega)⟩
  obtain ⟨p2, hq1, hq2, hq3⟩ : ∃ n : Nat, (z : Int) * (y1 : Int) = (n : Int) ∧ n = z * (y + 1) ∧ n ≤ 65280 := ⟨z * y1, by simp, by rw [hy2], Nat.mul_le_mul (show z ≤ 255 by omega) (show y1 ≤ 256 by omega)⟩
  have hA1 := fun W => above_any x y z t W (by omega) (by omega) (by omega) (by omega)
  obtain ⟨v, hv⟩ : ∃ v, abv x y z t = v := ⟨_, rfl⟩
  rw [hv] at hA1
  have k1' : decide (p2 < p1) = v := by rw [hp2, hq2, ← hv]; rfl
  have k1 : decide ((p2 : Int) < (p1 : Int)) = v := by rw [← k1']; simp
  have hA2 := fun W => above_any a c b d W ha hc hb hd
  have hR2 := fun W => refAbove_any a c b d W ha hc hb hd
  have hA3 := fun W => above_any b d a c W hb hd ha hc
  have hA4 := fun W => above_any a c a c W ha hc ha hc
  rw [abv_self] at hA4
  obtain ⟨c1, hc1, hc2⟩ : ∃ n : Nat, ((c : Int) + 1) % 18446744073709551616 = (n : Int) ∧ n = (c + 1) % 18446744073709551616 := ⟨(c + 1) % 18446744073709551616, by omega, rfl⟩
  have hcw : IntKind.u64.wrap ((c : Int) + 1) = (c1 : Int) := by rw [IntKind.wrap_u64]; exact hc1
  have hA5 := fun W => above_any a c a c1 W ha hc ha (by omega)
  rw [abv_next a c c1 hc hc2] at hA5
  have hnot := abv_not a c b d
  obtain ⟨B, hB⟩ : ∃ B, abv a c b d = B := ⟨_, rfl⟩
  rw [hB] at hA2 hR2 hnot
  obtain ⟨g1, m1', m1⟩ : ∃ q, decide (0 < a) = q ∧ decide ((0 : Int) < (a : Int)) = q := ⟨decide (0 < a), rfl, by simp⟩
  obtain ⟨g2, m2', m2⟩ : ∃ q, decide (0 < c1) = q ∧ decide ((0 : Int) < (c1 : Int)) = q := ⟨decide (0 < c1), rfl, by simp⟩
  rw [m1', m2'] at hA5
  have HK := Lib.hid (fun W => known_any W)
  have H1 := Lib.hid hA1
  have H2 := Lib.hid hA2
  have H3 := Lib.hid hR2
  have H5 := Lib.hid hA4
  have H6 := Lib.hid hA5
  have H4 : Hid (B = true → ∀ W, Calls Try.prog 16 #[.int .u64 (b : Int), .int .u64 (d : Int), .int .u64 (a : Int), .int .u64 (c : Int)] W fun e w' => e = .returned (.bool false) ∧ W = w') := Lib.hid fun h W => by have := hA3 W; rwa [hnot h] at this
  clear hA1 hA2 hR2 hA3 hA4 hA5 hnot hB hv hp2 hq2 ht2 hy2 hc2 ha hb hd
  cases B with
  | true =>
    have H7 := Lib.hid (H4.out rfl)
    cases g1 with
    | true =>
      go_enter Try.func6, Try.ntmps6
      go_wp2_with fail
      refine (H1.out _).mono ?_
      rintro e w' ⟨rfl, rfl⟩
      go_wp2_with fail
      refine (HK.out _).mono ?_
      rintro e w1 ⟨rfl, hb1⟩
      have HB1 := Lib.hid hb1
      clear hb1
      go_wp2_with fail
      refine (H2.out _).mono ?_
      rintro e w' ⟨rfl, rfl⟩
      go_wp2_with fail
      refine (H3.out _).mono ?_
      rintro e w' ⟨rfl, rfl⟩
      go_wp2_with fail
      refine (H2.out _).mono ?_
      rintro e w' ⟨rfl, rfl⟩
      go_wp2_with fail
      refine (H7.out _).mono ?_
      rintro e w' ⟨rfl, rfl⟩
      go_wp2_with fail
      refine (H5.out _).mono ?_
      rintro e w' ⟨rfl, rfl⟩
      go_wp2_with fail
      refine (H6.out _).mono ?_
      rintro e w' ⟨rfl, rfl⟩
      go_wp2_with fail
      go_ret
      exact ⟨by simp, HB1.out⟩
    | false =>
      go_enter Try.func6, Try.ntmps6
      go_wp2_with fail
      refine (H1.out _).mono ?_
      rintro e w' ⟨rfl, rfl⟩
      go_wp2_with fail
      refine (HK.out _).mono ?_
      rintro e w1 ⟨rfl, hb1⟩
      have HB1 := Lib.hid hb1
      clear hb1
      go_wp2_with fail
      refine (H2.out _).mono ?_
      rintro e w' ⟨rfl, rfl⟩
      go_wp2_with fail
      refine (H3.out _).mono ?_
      rintro e w' ⟨rfl, rfl⟩
      go_wp2_with fail
      refine (H2.out _).mono ?_
      rintro e w' ⟨rfl, rfl⟩
      go_wp2_with fail
      refine (H7.out _).mono ?_
      rintro e w' ⟨rfl, rfl⟩
      go_wp2_with fail
      refine (H5.out _).mono ?_
      rintro e w' ⟨rfl, rfl⟩
      go_wp2_with fail
      refine (H6.out _).mono ?_
      rintro e w' ⟨rfl, rfl⟩
      go_wp2_with fail
      go_ret
      exact ⟨by simp, HB1.out⟩
  | false =>
    clear H4
    cases g1 with
    | true =>
      go_enter Try.func6, Try.ntmps6
      go_wp2_with fail
      refine (H1.out _).mono ?_
      rintro e w' ⟨rfl, rfl⟩
      go_wp2_with fail
      refine (HK.out _).mono ?_
      rintro e w1 ⟨rfl, hb1⟩
      have HB1 := Lib.hid hb1
      clear hb1
      go_wp2_with fail
      refine (H2.out _).mono ?_
      rintro e w' ⟨rfl, rfl⟩
      go_wp2_with fail
      refine (H3.out _).mono ?_
      rintro e w' ⟨rfl, rfl⟩
      go_wp2_with fail
      refine (H2.out _).mono ?_
      rintro e w' ⟨rfl, rfl⟩
      go_wp2_with fail
      refine (H5.out _).mono ?_
      rintro e w' ⟨rfl, rfl⟩
      go_wp2_with fail
      refine (H6.out _).mono ?_
      rintro e w' ⟨rfl, rfl⟩
      go_wp2_with fail
      go_ret
      exact ⟨by simp, HB1.out⟩
    | false =>
      go_enter Try.func6, Try.ntmps6
      go_wp2_with fail
      refine (H1.out _).mono ?_
      rintro e w' ⟨rfl, rfl⟩
      go_wp2_with fail
      refine (HK.out _).mono ?_
      rintro e w1 ⟨rfl, hb1⟩
      have HB1 := Lib.hid hb1
      clear hb1
      go_wp2_with fail
      refine (H2.out _).mono ?_
      rintro e w' ⟨rfl, rfl⟩
      go_wp2_with fail
      refine (H3.out _).mono ?_
      rintro e w' ⟨rfl, rfl⟩
      go_wp2_with fail
      refine (H2.out _).mono ?_
      rintro e w' ⟨rfl, rfl⟩
      go_wp2_with fail
      refine (H5.out _).mono ?_
      rintro e w' ⟨rfl, rfl⟩
      go_wp2_with fail
      refine (H6.out _).mono ?_
      rintro e w' ⟨rfl, rfl⟩
      go_wp2_with fail
      go_ret
      exact ⟨by simp, HB1.out⟩
namespace PrioAbove
set_option linter.unusedSimpArgs false in
set_option maxRecDepth 100000 in
theorem lifted (os : Os) (started : os.Started) (H : Type) (enc : TypeId × Value → H) :
    ReturnsInHanded {} Try.checked os 6 .any (Rows.prioAboveSpec.pre6 enc Try.prog Try.f6 Rows.prioAboveRow.domain false) (Rows.prioAboveSpec.post enc Try.prog Try.f6 false true false false) := by
  refine returnsInHanded_of_change (C := Try.checked) own started (by kernel_rfl) Try.func6
    (ChangeSpec.witness6 (enc := enc) (C := Try.checked) false ⟨#[], #[.int .u64 0, .int .u64 0, .int .u64 0, .int .u64 0, .int .u8 0, .int .u8 0, .int .u8 0, .int .u8 0], []⟩ 8 (by kernel_rfl) (by kernel_rfl) (by kernel_rfl) (by kernel_rfl)) ?_
  intro W base args ds gs before hval0 hW _ _
  have hval : ∀ (j : Nat) t v, Try.f6.params[j]? = some t → args[j]? = some v → Value.okWide Try.prog W .any base t v := hval0
  have hW' := hW
  obtain ⟨p, q, hA0, hV, rfl, _, _⟩ := hW
  have hA : DataW.TrodAll enc Try.prog W 0 (fun _ => true) true Try.f6.params.toList args.toList ds p := hA0
  rw [Try.params6] at hA hval
  obtain ⟨v0, vs0, d0, ds0, p0, q0, hargs, rfl, rfl, h0, r0⟩ := trodAll_cons hA
  obtain ⟨v1, vs1, d1, ds1, p1, q1, rfl, rfl, rfl, h1, r1⟩ := trodAll_cons r0
  obtain ⟨v2, vs2, d2, ds2, p2, q2, rfl, rfl, rfl, h2, r2⟩ := trodAll_cons r1
  obtain ⟨v3, vs3, d3, ds3, p3, q3, rfl, rfl, rfl, h3, r3⟩ := trodAll_cons r2
  obtain ⟨v4, vs4, d4, ds4, p4, q4, rfl, rfl, rfl, h4, r4⟩ := trodAll_cons r3
  obtain ⟨v5, vs5, d5, ds5, p5, q5, rfl, rfl, rfl, h5, r5⟩ := trodAll_cons r4
  obtain ⟨v6, vs6, d6, ds6, p6, q6, rfl, rfl, rfl, h6, r6⟩ := trodAll_cons r5
  obtain ⟨v7, vs7, d7, ds7, p7, q7, rfl, rfl, rfl, h7, r7⟩ := trodAll_cons r6
  obtain ⟨rfl, rfl, rfl⟩ := trodAll_nil r7
  obtain rfl : args = #[v0, v1, v2, v3, v4, v5, v6, v7] := by cases args; simp_all
  obtain ⟨rfl, rfl⟩ := trodVars_none hV
  obtain ⟨a0, rfl, rfl, rfl, w0⟩ := open_int Try.underlying24 (hval 0 24 v0 rfl rfl) h0
  have k0 := wf_u64 w0
  obtain ⟨n0, rfl⟩ : ∃ n : Nat, a0 = n := ⟨a0.toNat, by omega⟩
  obtain ⟨a1, rfl, rfl, rfl, w1⟩ := open_int Try.underlying24 (hval 1 24 v1 rfl rfl) h1
  have k1 := wf_u64 w1
  obtain ⟨n1, rfl⟩ : ∃ n : Nat, a1 = n := ⟨a1.toNat, by omega⟩
  obtain ⟨a2, rfl, rfl, rfl, w2⟩ := open_int Try.underlying24 (hval 2 24 v2 rfl rfl) h2
  have k2 := wf_u64 w2
  obtain ⟨n2, rfl⟩ : ∃ n : Nat, a2 = n := ⟨a2.toNat, by omega⟩
  obtain ⟨a3, rfl, rfl, rfl, w3⟩ := open_int Try.underlying24 (hval 3 24 v3 rfl rfl) h3
  have k3 := wf_u64 w3
  obtain ⟨n3, rfl⟩ : ∃ n : Nat, a3 = n := ⟨a3.toNat, by omega⟩
  obtain ⟨a4, rfl, rfl, rfl, w4⟩ := open_int Try.underlying5 (hval 4 5 v4 rfl rfl) h4
  have k4 := wf_u8 w4
  obtain ⟨n4, rfl⟩ : ∃ u : UInt8, a4 = (u.toNat : Int) := ⟨UInt8.ofNat a4.toNat, by simp; omega⟩
  obtain ⟨a5, rfl, rfl, rfl, w5⟩ := open_int Try.underlying5 (hval 5 5 v5 rfl rfl) h5
  have k5 := wf_u8 w5
  obtain ⟨n5, rfl⟩ : ∃ u : UInt8, a5 = (u.toNat : Int) := ⟨UInt8.ofNat a5.toNat, by simp; omega⟩
  obtain ⟨a6, rfl, rfl, rfl, w6⟩ := open_int Try.underlying5 (hval 6 5 v6 rfl rfl) h6
  have k6 := wf_u8 w6
  obtain ⟨n6, rfl⟩ : ∃ u : UInt8, a6 = (u.toNat : Int) := ⟨UInt8.ofNat a6.toNat, by simp; omega⟩
  obtain ⟨a7, rfl, rfl, rfl, w7⟩ := open_int Try.underlying5 (hval 7 5 v7 rfl rfl) h7
  have k7 := wf_u8 w7
  obtain ⟨n7, rfl⟩ : ∃ u : UInt8, a7 = (u.toNat : Int) := ⟨UInt8.ofNat a7.toNat, by simp; omega⟩
  clear hA0 hval0
  simp only [List.append_nil] at hW'
  refine (prioAbove_walk n0 n1 n2 n3 n4 n5 n6 n7 W (by omega) (by omega) (by omega) (by omega)).mono fun e W' ⟨he, hg⟩ => ?_
  subst he
  exact ⟨_, rfl, true_last hW' rfl (by kernel_rfl) Try.underlying4 rfl rfl rfl (of_decide_eq_true (by kernel_rfl)) hg⟩

/-- **PrioAbove, at every input.** -/
theorem proved : Rows.PrioAboveSaid :=
  OpenClaim.holds_of_wide 6 Try.f6 rfl rfl rfl rfl rfl rfl rfl ⟨rfl, rfl, rfl, rfl, rfl⟩ rfl rfl rfl rfl rfl (by kernel_rfl) Try.func6 (by kernel_rfl)
    (of_decide_eq_true (by kernel_rfl)) (by unfold Func.isWrapper; first | (rw [if_pos (by decide +kernel)]; kernel_rfl) | (rw [if_neg (by decide +kernel)]; exact ⟨rfl, rfl⟩))
    (fun os started H enc _ => lifted os started H enc)
end PrioAbove

end Go.Proofs.Ytbjpfafohaebpaa
