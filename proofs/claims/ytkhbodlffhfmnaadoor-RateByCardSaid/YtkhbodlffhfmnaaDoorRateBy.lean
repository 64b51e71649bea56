/-
  Proved: RateBy returns true for every numbers: By, Clamp and Toward are what the chapter says. No condition but the card's own: hash's table of steps, tied to the program's text, holds at the start what that text lays.
-/
import Derived.Test.YtkhbodlffhfmnaaDoorRtKnown
namespace Go.Proofs.YtkhbodlffhfmnaaDoor
open Go.ChangeShapes Go.WideShapes Go.ChangeAt Go.RowKit Go.Proofs.HashMath Go.Proofs.SkMath Go.Proofs.ProbMath Go.Proofs.RtMath

/-- Program and document tell the same of Toward, whatever the numbers. -/
theorem both_toward (a b n : Nat) (hn : n < 18446744073709551616) : ∃ t er : Nat, t ≤ 72057594037927936 ∧ er ≤ 1 ∧
    (∀ W, Calls Tryd.prog 9 #[.int .u64 (a : Int), .int .u64 (b : Int), .int .u64 (n : Int)] W fun e w' => e = .returned (.tuple #[.int .u64 (t : Int), .int .u16 (er : Int)]) ∧ W = w') ∧
    (∀ W, Calls Tryd.prog 10 #[.int .u64 (a : Int), .int .u64 (b : Int), .int .u64 (n : Int)] W fun e w' => e = .returned (.tuple #[.int .u64 (t : Int), .int .i64 (er : Int)]) ∧ W = w') := by
  by_cases h : 72057594037927936 ≤ a ∨ 72057594037927936 ≤ b ∨ n = 0
  · exact ⟨0, 1, by omega, by omega, fun W => toward_no a b n W h, fun W => refToward_no a b n W h⟩
  · exact ⟨toward a b n, 0, toward_le _ _ _, by omega, fun W => toward_any a b n W (by omega) (by omega) (by omega) hn, fun W => refToward_any a b n W (by omega) (by omega) (by omega) hn⟩

set_option maxRecDepth 100000 in
set_option maxHeartbeats 2000000 in
theorem rateBy_walk (a b c k : Nat) (_ha : a < 18446744073709551616) (hb : b < 18446744073709551616) (hc : c < 18446744073709551616) (hk : k ≤ 255) (w : World) (hS : Steps w) :
    Calls Tryd.prog 3 #[.int .u64 (a : Int), .int .u64 (b : Int), .int .u64 (c : Int), .int .u8 (k : Int)] w fun e w' => e = .returned (.bool true) ∧ Below w.heap.size w w' := by
  have HKN := Lib.hid (known9_any w hS)
  obtain ⟨x0, hx0, hx0l⟩ : ∃ x : Nat, (a : Int) % 72057594037927936 = (x : Int) ∧ x < 72057594037927936 := ⟨a % 72057594037927936, by omega, by omega⟩
  obtain ⟨y, hy, hyl⟩ : ∃ y : Nat, (b : Int) % 72057594037927936 = (y : Int) ∧ y < 72057594037927936 := ⟨b % 72057594037927936, by omega, by omega⟩
  obtain ⟨s, hs, hsl⟩ : ∃ s : Nat, (k : Int) % 56 = (s : Int) ∧ s ≤ 55 := ⟨k % 56, by omega, by omega⟩
  obtain ⟨x, hx, hxl⟩ : ∃ x : Nat, (x0 : Int) / 2 ^ s = (x : Int) ∧ x < 72057594037927936 := ⟨x0 / 2 ^ s, by rw [Int.natCast_ediv]; simp, Nat.lt_of_le_of_lt (Nat.div_le_self _ _) hx0l⟩
  obtain ⟨q, hq, hql⟩ : ∃ q : Nat, (c : Int) % 9 = (q : Int) ∧ q ≤ 8 := ⟨c % 9, by omega, by omega⟩
  obtain ⟨n, hn, hn1, hn9⟩ : ∃ n : Nat, (1 : Int) + (q : Int) = (n : Int) ∧ 1 ≤ n ∧ n ≤ 9 := ⟨1 + q, by omega, by omega, by omega⟩
  have hnw : IntKind.u64.wrap (n : Int) = (n : Int) := by rw [IntKind.wrap_u64]; omega
  obtain ⟨a5, ha5, ha5l⟩ : ∃ q : Nat, (a : Int) % 50 = (q : Int) ∧ q ≤ 49 := ⟨a % 50, by omega, by omega⟩
  obtain ⟨b5, hb5, hb5l⟩ : ∃ q : Nat, (b : Int) % 50 = (q : Int) ∧ q ≤ 49 := ⟨b % 50, by omega, by omega⟩
  obtain ⟨t, er, htl, herl, hT, hU⟩ := both_toward a b c hc
  obtain ⟨v, es, hvl, hesl, hV, hX⟩ := both_toward x y n (by omega)
  have hB := fun W => rateBy_any a b W hb
  have hRB := fun W => refBy_any a b W hb
  have hB5 := fun W => rateBy_any a5 b5 W (by omega)
  have hRB5 := fun W => refBy_any a5 b5 W (by omega)
  have hC := fun W => clamp_any a b c W
  have hRC := fun W => refClamp_any a b c W
  obtain ⟨z1, hz1⟩ : ∃ z, byN a b = z := ⟨_, rfl⟩
  obtain ⟨z2, hz2⟩ : ∃ z, byN a5 b5 = z := ⟨_, rfl⟩
  obtain ⟨z3, hz3⟩ : ∃ z, mid a b c = z := ⟨_, rfl⟩
  rw [hz1] at hB hRB
  rw [hz2] at hB5 hRB5
  rw [hz3] at hC hRC
  have HT := Lib.hid hT
  have HU := Lib.hid hU
  have HV := Lib.hid hV
  have HX := Lib.hid hX
  have HB := Lib.hid hB
  have HRB := Lib.hid hRB
  have HB5 := Lib.hid hB5
  have HRB5 := Lib.hid hRB5
  have HC := Lib.hid hC
  have HRC := Lib.hid hRC
  clear hS hT hU hV hX hB hRB hB5 hRB5 hC hRC hz1 hz2 hz3
  go_enter Tryd.func3, Tryd.ntmps3
  go_wp2_with fail
  refine (HT.out _).mono ?_
  rintro e w1 ⟨rfl, rfl⟩
  go_wp2_with fail
  refine (HU.out _).mono ?_
  rintro e w1 ⟨rfl, rfl⟩
  go_wp2_with fail
  refine (HV.out _).mono ?_
  rintro e w1 ⟨rfl, rfl⟩
  go_wp2_with fail
  refine (HX.out _).mono ?_
  rintro e w1 ⟨rfl, rfl⟩
  go_wp2_with fail
  refine HKN.out.mono ?_
  rintro e w1 ⟨rfl, g1⟩
  have G1 := Lib.hid g1
  clear g1
  go_wp2_with fail
  refine (HB.out _).mono ?_
  rintro e w2 ⟨rfl, g2⟩
  have G2 := Lib.hid (G1.out.trans (g2.mono G1.out.size))
  clear g2 G1
  go_wp2_with fail
  refine (HRB.out _).mono ?_
  rintro e w3 ⟨rfl, rfl⟩
  go_wp2_with fail
  refine (HB5.out _).mono ?_
  rintro e w3 ⟨rfl, g3⟩
  have G3 := Lib.hid (G2.out.trans (g3.mono G2.out.size))
  clear g3 G2
  go_wp2_with fail
  refine (HRB5.out _).mono ?_
  rintro e w4 ⟨rfl, rfl⟩
  go_wp2_with fail
  refine (HC.out _).mono ?_
  rintro e w4 ⟨rfl, rfl⟩
  go_wp2_with fail
  refine (HRC.out _).mono ?_
  rintro e w4 ⟨rfl, rfl⟩
  go_wp2_with fail
  go_ret
  exact ⟨rfl, G3.out⟩
namespace RateBy
set_option linter.unusedSimpArgs false in
set_option maxRecDepth 100000 in
theorem lifted (os : Os) (started : os.Started) (H : Type) (enc : TypeId × Value → H) :
    ReturnsInHanded {} Tryd.checked os 3 .any (fun w args => (Rows.rateBySpec.pre enc Tryd.prog Tryd.f3 [] false w args ∧ laidMetH Tryd.prog laidL w) ∧ sizedMet enc Tryd.prog Tryd.f3 (OpenSpec.ofChange Rows.rateBySpec) false w args)
      (Rows.rateBySpec.post enc Tryd.prog Tryd.f3 false true false false) := by
  refine returnsInHanded_of_change_and (C := Tryd.checked) (X := fun w _ => laidMetH Tryd.prog laidL w) (fun _ _ _ hh h => h.of_heap hh) own started (by kernel_rfl) Tryd.func3
    (ChangeSpec.witness_shaped (enc := enc) (C := Tryd.checked) (os := os) (X := fun w _ => laidMetH Tryd.prog laidL w) false (World.doorLaid Tryd.prog 400 os) #[.int .u64 0, .int .u64 0, .int .u64 0, .int .u8 0] 8 rfl (World.shaped_of_RefB (by kernel_rfl) (by kernel_rfl)) (by kernel_rfl) (by kernel_rfl) (by kernel_rfl) (door_met os _)) ?_
  intro W base args ds gs before hval0 hW _ _ hL _
  have hS := of_laid hL
  have hval : ∀ (j : Nat) t v, Tryd.f3.params[j]? = some t → args[j]? = some v → Value.okWide Tryd.prog W .any base t v := hval0
  have hW' := hW
  obtain ⟨p, q, hA0, hV, rfl, _, _⟩ := hW
  have hA : DataW.TrodAll enc Tryd.prog W 0 (fun _ => true) true Tryd.f3.params.toList args.toList ds p := hA0
  rw [Tryd.params3] at hA hval
  obtain ⟨v0, vs0, d0, ds0, p0, q0, hargs, rfl, rfl, h0, r0⟩ := trodAll_cons hA
  obtain ⟨v1, vs1, d1, ds1, p1, q1, rfl, rfl, rfl, h1, r1⟩ := trodAll_cons r0
  obtain ⟨v2, vs2, d2, ds2, p2, q2, rfl, rfl, rfl, h2, r2⟩ := trodAll_cons r1
  obtain ⟨v3, vs3, d3, ds3, p3, q3, rfl, rfl, rfl, h3, r3⟩ := trodAll_cons r2
  obtain ⟨rfl, rfl, rfl⟩ := trodAll_nil r3
  obtain rfl : args = #[v0, v1, v2, v3] := by cases args; simp_all
  obtain ⟨rfl, rfl⟩ := trodVars_none hV
  obtain ⟨a0, rfl, rfl, rfl, w0⟩ := open_int Tryd.underlying22 (hval 0 22 v0 rfl rfl) h0
  have k0 := wf_u64 w0
  obtain ⟨n0, rfl⟩ : ∃ n : Nat, a0 = n := ⟨a0.toNat, by omega⟩
  obtain ⟨a1, rfl, rfl, rfl, w1⟩ := open_int Tryd.underlying22 (hval 1 22 v1 rfl rfl) h1
  have k1 := wf_u64 w1
  obtain ⟨n1, rfl⟩ : ∃ n : Nat, a1 = n := ⟨a1.toNat, by omega⟩
  obtain ⟨a2, rfl, rfl, rfl, w2⟩ := open_int Tryd.underlying22 (hval 2 22 v2 rfl rfl) h2
  have k2 := wf_u64 w2
  obtain ⟨n2, rfl⟩ : ∃ n : Nat, a2 = n := ⟨a2.toNat, by omega⟩
  obtain ⟨a3, rfl, rfl, rfl, w3⟩ := open_int Tryd.underlying5 (hval 3 5 v3 rfl rfl) h3
  have k3 := wf_u8 w3
  obtain ⟨n3, rfl⟩ : ∃ u : UInt8, a3 = (u.toNat : Int) := ⟨UInt8.ofNat a3.toNat, by simp; omega⟩
  clear hA0 hval0
  simp only [List.append_nil] at hW'
  refine (rateBy_walk n0 n1 n2 n3.toNat (by omega) (by omega) (by omega) (by have := n3.toNat_lt; omega) W hS).mono fun e W' ⟨he, hg⟩ => ?_
  subst he
  exact ⟨_, rfl, true_last hW' rfl (by kernel_rfl) Tryd.underlying4 rfl rfl rfl (of_decide_eq_true (by kernel_rfl)) hg⟩

/-- The row. -/
theorem said : Rows.RateBySaid :=
  OpenClaim.holds_of_wide 3 Tryd.f3 rfl rfl rfl rfl rfl rfl rfl ⟨rfl, rfl, rfl, rfl, rfl⟩ rfl rfl rfl rfl rfl (by kernel_rfl) Tryd.func3 (by kernel_rfl)
    (of_decide_eq_true (by kernel_rfl)) (by unfold Func.isWrapper; first | (rw [if_pos (by decide +kernel)]; kernel_rfl) | (rw [if_neg (by decide +kernel)]; exact ⟨rfl, rfl⟩))
    (fun os started H enc _ => lifted os started H enc)
/-- **RateBy, at every input: the card, its listed variables tied to the program's text.** -/
theorem proved : Rows.RateByCardSaid :=
  Claim7.holds_tied_plain_at .later [] [.wider] true Rows.rateByCard.stood.harness false
    said (fun _ h => by cases h) (by kernel_rfl) (fun _ h => by cases h) rateBy_row_tie rfl ⟨rfl, rfl⟩ (by kernel_rfl) rfl
    (fun f fn hf hfn => by
      obtain rfl : f = 3 := Option.some.inj ((show Tryd.prog.funcNamed "telemeter/telemeterlaw09.RateBy" = some 3 by kernel_rfl).symm.trans hf) |>.symm
      obtain rfl : fn = Tryd.f3 := (Option.some.inj (Tryd.func3.symm.trans hfn)).symm
      exact ⟨by kernel_rfl, fun j t ht => by
        rw [Tryd.params3] at ht
        have hm : t ∈ [22, 22, 22, 5] := by simpa using Array.mem_of_getElem? ht
        have hall : ([22, 22, 22, 5].all fun u => !Tryd.prog.wantsStandIn u) = true := by kernel_rfl
        exact (show Tryd.prog.wantsStandIn t = false by simpa using List.all_eq_true.1 hall t hm)⟩)
    (by kernel_rfl)
end RateBy

end Go.Proofs.YtkhbodlffhfmnaaDoor
