/-
  Proved: WindowTimes returns true for every seed and times: no call goes back in time, one that is refused changes nothing. No condition but the card's own: hash's table of steps, tied to the program's text, holds at the start what that text lays.
-/
import Derived.Test.YtgaoggniaajflaaDoorWinKnown
namespace Go.Proofs.YtgaoggniaajflaaDoor
open Go.ChangeShapes Go.WideShapes Go.ChangeAt Go.RowKit Go.Proofs.HashMath Go.Proofs.SkMath

set_option maxRecDepth 100000 in
set_option maxHeartbeats 2000000 in
theorem windowTimes_walk (seed a b far : Nat) (hx : seed < 18446744073709551616) (ha : a ≤ 65535) (hb : b ≤ 65535) (hf : far ≤ 65535) (w : World) (hS : Steps w) :
    Calls Tryd.prog 6 #[.int .u64 (seed : Int), .int .u16 (a : Int), .int .u16 (b : Int), .int .u16 (far : Int)] w fun e w' => e = .returned (.bool true) ∧ Below w.heap.size w w' := by
  have hNew := wn_new (w := w) (W := w) 2 8 seed 10 hS hS.lt (Nat.le_refl _) (Below.refl _ _) (by omega) (by omega) (by omega) (by omega) hx (by omega) (by omega)
  have HNEW := Lib.hid hNew
  obtain ⟨x, y, hmin, hmax, hxy, hyl⟩ : ∃ x y : Nat, (if b < a then (b : Int) else (a : Int)) = (x : Int) ∧ (if a < b then (b : Int) else (a : Int)) = (y : Int) ∧ x ≤ y ∧ y ≤ 65535 := by
    refine ⟨min a b, max a b, ?_, ?_, by omega, by omega⟩ <;> split <;> omega
  clear hNew hS
  go_enter Tryd.func6, Tryd.ntmps6
  go_wp2_with fail
  refine HNEW.out.mono ?_
  rintro e w1 ⟨bs, V, rfl, _, _, hw⟩
  have HW := Lib.hid hw
  clear hw
  go_wp2_with fail
  have hA1 := HW.out.add y ⟨#[107]⟩ 2 (by omega) (by omega) (by decide) (by omega)
  rw [tF_Z] at hA1
  have HA1 := Lib.hid hA1
  clear hA1 hmin hmax HW
  refine HA1.out.mono ?_
  rintro e w2 ⟨rfl, bs2, _, _, hw⟩
  have HW2 := Lib.hid hw
  clear hw HA1
  by_cases h : x = y
  · subst h
    have dxy : ((x : Int) == (x : Int)) = true := by simp
    have HT := Lib.hid (show told (sd seed (x / 10)) ⟨#[107]⟩ 8 2 (tF 10 x x (addW (sd seed (x / 10)) ⟨#[107]⟩ 8 2 3 (tF 10 x x (addW (sd seed (x / 10)) ⟨#[107]⟩ 8 2 2 Z)))) = 5 by
      rw [tF_same, tF_same]
      exact told_two (by omega) (by omega))
    go_wp2_with fail
    refine (HW2.out.add x ⟨#[107]⟩ 3 (by omega) (by omega) (by decide) (by omega)).mono ?_
    rintro e w3 ⟨rfl, bs3, _, _, hw⟩
    have HW3 := Lib.hid hw
    clear hw HW2
    go_wp2_with fail
    refine (HW3.out.add_no _ ⟨#[107]⟩ 3 (Or.inr (by omega))).mono ?_
    rintro e w4 ⟨rfl, hb⟩
    have HW4 := Lib.hid (HW3.out.later hb)
    clear hb HW3
    go_wp2_with fail
    have ho := HW4.out.open x ⟨#[107]⟩ (by omega) (by omega) (by decide)
    rw [HT.out] at ho
    refine ho.mono ?_
    rintro e w5 ⟨rfl, bs5, _, _, hw⟩
    have HW5 := Lib.hid hw
    clear hw HW4 ho
    go_wp2_with fail
    refine (known8_any _ HW5.out.steps).mono ?_
    rintro e w6 ⟨rfl, hb⟩
    have HW6 := Lib.hid (HW5.out.later hb)
    clear hb HW5
    go_wp2_with fail
    go_ret
    exact ⟨rfl, HW6.out.b⟩
  · have dxy : ((x : Int) == (y : Int)) = false := by simp; omega
    have hlt : (x : Int) < (y : Int) ∨ (1099511627776 : Int) < x := Or.inl (by omega)
    have HLT := Lib.hid hlt
    have HT := Lib.hid (show told (sd seed (y / 10)) ⟨#[107]⟩ 8 2 (tF 10 y y (addW (sd seed (y / 10)) ⟨#[107]⟩ 8 2 2 Z)) = 2 by
      rw [tF_same]
      exact told_one (by omega) (by omega))
    clear hlt
    go_wp2_with fail
    refine (HW2.out.add_no _ ⟨#[107]⟩ 3 HLT.out).mono ?_
    rintro e w3 ⟨rfl, hb⟩
    have HW3 := Lib.hid (HW2.out.later hb)
    clear hb HW2
    go_wp2_with fail
    refine (HW3.out.add_no _ ⟨#[107]⟩ 3 (Or.inr (by omega))).mono ?_
    rintro e w4 ⟨rfl, hb⟩
    have HW4 := Lib.hid (HW3.out.later hb)
    clear hb HW3
    go_wp2_with fail
    have ho := HW4.out.open y ⟨#[107]⟩ (by omega) (by omega) (by decide)
    rw [HT.out] at ho
    refine ho.mono ?_
    rintro e w5 ⟨rfl, bs5, _, _, hw⟩
    have HW5 := Lib.hid hw
    clear hw HW4 ho
    go_wp2_with fail
    refine (known8_any _ HW5.out.steps).mono ?_
    rintro e w6 ⟨rfl, hb⟩
    have HW6 := Lib.hid (HW5.out.later hb)
    clear hb HW5
    go_wp2_with fail
    go_ret
    exact ⟨rfl, HW6.out.b⟩
namespace WindowTimes
set_option linter.unusedSimpArgs false in
set_option maxRecDepth 100000 in
theorem lifted (os : Os) (started : os.Started) (H : Type) (enc : TypeId × Value → H) :
    ReturnsInHanded {} Tryd.checked os 6 .any (fun w args => (Rows.windowTimesSpec.pre enc Tryd.prog Tryd.f6 [] false w args ∧ laidMetH Tryd.prog laidL w) ∧ sizedMet enc Tryd.prog Tryd.f6 (OpenSpec.ofChange Rows.windowTimesSpec) false w args)
      (Rows.windowTimesSpec.post enc Tryd.prog Tryd.f6 false true false false) := by
  refine returnsInHanded_of_change_and (C := Tryd.checked) (X := fun w _ => laidMetH Tryd.prog laidL w) (fun _ _ _ hh h => h.of_heap hh) own started (by kernel_rfl) Tryd.func6
    (ChangeSpec.witness_shaped (enc := enc) (C := Tryd.checked) (os := os) (X := fun w _ => laidMetH Tryd.prog laidL w) false (World.doorLaid Tryd.prog 400 os) #[.int .u64 0, .int .u16 0, .int .u16 0, .int .u16 0] 8 rfl (World.shaped_of_RefB (by kernel_rfl) (by kernel_rfl)) (by kernel_rfl) (by kernel_rfl) (by kernel_rfl) (door_met os _)) ?_
  intro W base args ds gs before hval0 hW _ _ hL _
  have hS := of_laid hL
  have hval : ∀ (j : Nat) t v, Tryd.f6.params[j]? = some t → args[j]? = some v → Value.okWide Tryd.prog W .any base t v := hval0
  have hW' := hW
  obtain ⟨p, q, hA0, hV, rfl, _, _⟩ := hW
  have hA : DataW.TrodAll enc Tryd.prog W 0 (fun _ => true) true Tryd.f6.params.toList args.toList ds p := hA0
  rw [Tryd.params6] at hA hval
  obtain ⟨v0, vs0, d0, ds0, p0, q0, hargs, rfl, rfl, h0, r0⟩ := trodAll_cons hA
  obtain ⟨v1, vs1, d1, ds1, p1, q1, rfl, rfl, rfl, h1, r1⟩ := trodAll_cons r0
  obtain ⟨v2, vs2, d2, ds2, p2, q2, rfl, rfl, rfl, h2, r2⟩ := trodAll_cons r1
  obtain ⟨v3, vs3, d3, ds3, p3, q3, rfl, rfl, rfl, h3, r3⟩ := trodAll_cons r2
  obtain ⟨rfl, rfl, rfl⟩ := trodAll_nil r3
  obtain rfl : args = #[v0, v1, v2, v3] := by cases args; simp_all
  obtain ⟨rfl, rfl⟩ := trodVars_none hV
  obtain ⟨a0, rfl, rfl, rfl, w0⟩ := open_int Tryd.underlying22 (hval 0 22 v0 rfl rfl) h0
  have k0 := wf_u64 w0
  obtain ⟨n0, rfl⟩ : ∃ n : Nat, a0 = n := ⟨a0.toNat, by omega⟩
  obtain ⟨a1, rfl, rfl, rfl, w1⟩ := open_int Tryd.underlying27 (hval 1 27 v1 rfl rfl) h1
  have k1 := wf_u16 w1
  obtain ⟨n1, rfl⟩ : ∃ n : Nat, a1 = n := ⟨a1.toNat, by omega⟩
  obtain ⟨a2, rfl, rfl, rfl, w2⟩ := open_int Tryd.underlying27 (hval 2 27 v2 rfl rfl) h2
  have k2 := wf_u16 w2
  obtain ⟨n2, rfl⟩ : ∃ n : Nat, a2 = n := ⟨a2.toNat, by omega⟩
  obtain ⟨a3, rfl, rfl, rfl, w3⟩ := open_int Tryd.underlying27 (hval 3 27 v3 rfl rfl) h3
  have k3 := wf_u16 w3
  obtain ⟨n3, rfl⟩ : ∃ n : Nat, a3 = n := ⟨a3.toNat, by omega⟩
  clear hA0 hval0
  simp only [List.append_nil] at hW'
  refine (windowTimes_walk n0 n1 n2 n3 (by omega) (by omega) (by omega) (by omega) W hS).mono fun e W' ⟨he, hg⟩ => ?_
  subst he
  exact ⟨_, rfl, true_last hW' rfl (by kernel_rfl) Tryd.underlying4 rfl rfl rfl (of_decide_eq_true (by kernel_rfl)) hg⟩

/-- The row. -/
theorem said : Rows.WindowTimesSaid :=
  OpenClaim.holds_of_wide 6 Tryd.f6 rfl rfl rfl rfl rfl rfl rfl ⟨rfl, rfl, rfl, rfl, rfl⟩ rfl rfl rfl rfl rfl (by kernel_rfl) Tryd.func6 (by kernel_rfl)
    (of_decide_eq_true (by kernel_rfl)) (by unfold Func.isWrapper; first | (rw [if_pos (by decide +kernel)]; kernel_rfl) | (rw [if_neg (by decide +kernel)]; exact ⟨rfl, rfl⟩))
    (fun os started H enc _ => lifted os started H enc)
/-- **WindowTimes, at every input: the card, its listed variables tied to the program's text.** -/
theorem proved : Rows.WindowTimesCardSaid :=
  Claim7.holds_tied_plain_at .later [] [.wider] true Rows.windowTimesCard.stood.harness false
    said (fun _ h => by cases h) (by kernel_rfl) (fun _ h => by cases h) windowTimes_row_tie rfl ⟨rfl, rfl⟩ (by kernel_rfl) rfl
    (fun f fn hf hfn => by
      obtain rfl : f = 6 := Option.some.inj ((show Tryd.prog.funcNamed "telemeter/telemeterlaw08.WindowTimes" = some 6 by kernel_rfl).symm.trans hf) |>.symm
      obtain rfl : fn = Tryd.f6 := (Option.some.inj (Tryd.func6.symm.trans hfn)).symm
      exact ⟨by kernel_rfl, fun j t ht => by
        rw [Tryd.params6] at ht
        have hm : t ∈ [22, 27, 27, 27] := by simpa using Array.mem_of_getElem? ht
        have hall : ([22, 27, 27, 27].all fun u => !Tryd.prog.wantsStandIn u) = true := by kernel_rfl
        exact (show Tryd.prog.wantsStandIn t = false by simpa using List.all_eq_true.1 hall t hm)⟩)
    (by kernel_rfl)
end WindowTimes

end Go.Proofs.YtgaoggniaajflaaDoor
