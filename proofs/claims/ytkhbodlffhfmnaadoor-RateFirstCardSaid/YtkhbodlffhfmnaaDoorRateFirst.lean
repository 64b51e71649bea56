/-
  Proved: RateFirst returns true for every seed, keys, length and target: in the first while of a key all are kept, and in one behind a while in which it did not come. No condition but the card's own: hash's table of steps, tied to the program's text, holds at the start what that text lays.
-/
import Derived.Test.YtkhbodlffhfmnaaDoorRtKnown
namespace Go.Proofs.YtkhbodlffhfmnaaDoor
open Go.ChangeShapes Go.WideShapes Go.ChangeAt Go.RowKit Go.Proofs.HashMath Go.Proofs.SkMath Go.Proofs.ProbMath Go.Proofs.RtMath

set_option maxRecDepth 100000 in
set_option maxHeartbeats 2000000 in
theorem rateFirst_walk (seed : Nat) (A1 : Option Addr) (cs : List UInt8) (cap long tg : Nat) (hx : seed < 18446744073709551616) (ha : long ≤ 255) (htg : tg ≤ 255) (w : World) (hH : Holds8 w.heap.size w A1 cs) (hS : Steps w) :
    Calls Tryd.prog 8 #[.int .u64 (seed : Int), .slice A1 cs.length cap, .int .u8 (long : Int), .int .u8 (tg : Int)] w fun e w' => e = .returned (.bool true) ∧ Below w.heap.size w w' := by
  obtain ⟨N, hN⟩ : ∃ N, cs.length = N := ⟨_, rfl⟩
  rw [hN]
  obtain ⟨n, hn, hn1, hn2⟩ : ∃ n : Nat, (1 : Int) + (long : Int) % 20 = (n : Int) ∧ 1 ≤ n ∧ n ≤ 20 := ⟨1 + long % 20, by omega, by omega, by omega⟩
  obtain ⟨u, hu, hul⟩ : ∃ u : Nat, (tg : Int) % 3 = (u : Int) ∧ u ≤ 2 := ⟨tg % 3, by omega, by omega⟩
  have huw : IntKind.u64.wrap (u : Int) = (u : Int) := by rw [IntKind.wrap_u64]; omega
  obtain ⟨T, hT, hT1, hT3⟩ : ∃ T : Nat, (1 : Int) + (u : Int) = (T : Int) ∧ 1 ≤ T ∧ T ≤ 3 := ⟨1 + u, by omega, by omega, by omega⟩
  have hTw : IntKind.u64.wrap (T : Int) = (T : Int) := by rw [IntKind.wrap_u64]; omega
  obtain ⟨nn, hnn, hnn'⟩ : ∃ nn : Nat, (2 : Int) * (n : Int) = (nn : Int) ∧ nn = 2 * n := ⟨2 * n, by omega, rfl⟩
  have hq : nn / n = 2 := by rw [hnn', Nat.mul_div_cancel _ (by omega)]
  have hnl : nn ≤ 40 := by omega
  have H0 := Lib.hid (show ∀ (s : ByteArray) (f : Nat → Nat → Nat), byN T (told (sdL seed (0 / n)) s 32 3 (tG n 0 0 f Z)) = 0 from fun s f => by
    rw [tG_same, told_Z (by omega)]; exact byN_0 (Nat.zero_le _))
  have H2 := Lib.hid (show ∀ (s : ByteArray) (f : Nat → Nat → Nat), byN T (told (sdL seed (nn / n)) s 32 3 (tG n 0 nn f Z)) = 0 from fun s f => by
    have : tG n 0 nn f Z = Z := by unfold tG; rw [hq, Nat.zero_div, if_neg (by omega), if_neg (by omega)]
    rw [this, told_Z (by omega)]; exact byN_0 (Nat.zero_le _))
  have hlt := hS.lt
  obtain ⟨n0, hn0⟩ : ∃ n0, w.heap.size = n0 := ⟨_, rfl⟩
  rw [hn0] at hH hlt ⊢
  have HNEW := Lib.hid (rt_new (w := w) (W := w) 3 32 seed n T hS hlt (by omega) (Below.refl _ _) (by omega) (by omega) (by omega) (by omega) hx hn1 (by omega) hT1)
  have HN := Lib.hid hN
  have HH := Lib.hid hH
  clear hN hn0 hH hS hnn' hq
  by_cases hbig : 50 < N
  · have d1 : decide ((50 : Int) < (N : Int)) = true := by simp; omega
    go_enter Tryd.func8, Tryd.ntmps8
    go_wp2_with fail
    refine HNEW.out.mono ?_
    rintro e w1 ⟨bs, V, RT, rfl, _, _, hw⟩
    have HW := Lib.hid hw
    clear hw
    go_wp2_with fail
    refine (known9_any _ HW.out.1.steps).mono ?_
    rintro e w2 ⟨rfl, g2⟩
    have hB := Lib.hid (HW.out.later g2).1.b
    clear g2
    go_wp2_with fail
    go_ret
    exact ⟨rfl, hB.out⟩
  have d1 : decide ((50 : Int) < (N : Int)) = false := by simp; omega
  go_enter Tryd.func8, Tryd.ntmps8
  go_wp2_with fail
  refine HNEW.out.mono ?_
  rintro e w1 ⟨bs, V, RT, rfl, _, _, hw⟩
  have HW := Lib.hid hw
  clear hw
  go_wp2_with fail
  go_loopw [11] (fun kv wr => ∃ k : Nat, k ≤ N ∧ kv = .int .i64 (k : Int) ∧ Hid (∃ bs f, Rt n0 w wr bs RT V 3 32 seed n 0 T f Z)) (fun kv _ => N - (intOf kv).toNat)
  case atStart => exact ⟨0, by omega, rfl, Lib.hid ⟨_, _, HW.out⟩⟩
  case round =>
    obtain ⟨k, hk, rfl, HF⟩ := hrel
    obtain ⟨bs3, f, hw⟩ := HF.out
    by_cases hlt : k < N
    · have dl : decide ((k : Int) < (N : Int)) = true := by simp; omega
      obtain ⟨bb, off, rfl, hbl, hc⟩ := HH.out (by rw [HN.out]; omega)
      have hcl := hc k (by rw [HN.out]; exact hlt)
      rw [← hw.1.b.cell (p := ⟨bb, off + k, none⟩) hbl] at hcl
      obtain ⟨c, hcv⟩ : ∃ c, cs.getD k 0 = c := ⟨_, rfl⟩
      rw [hcv] at hcl
      unfold b8 at hcl
      have hcu := c.toNat_lt
      obtain ⟨y, hy⟩ : ∃ y : Nat, (c.toNat : Int) = (y : Int) := ⟨_, rfl⟩
      have hyl : y ≤ 255 := by omega
      rw [hy] at hcl
      have HW3 := Lib.hid hw
      have k1 : 0 ≤ (k : Int) := by omega
      have k2 : (k : Int) < (N : Int) := by omega
      clear hw hc hcv hy HF
      go_wp2_with fail
      refine (key_any y _ hyl).mono ?_
      rintro e w4 ⟨rfl, g4⟩
      have HW4 := Lib.hid (HW3.out.later g4)
      clear g4
      go_wp2_with fail
      have ha := HW4.out.ask 0 (keyT (y % 12)) (by omega) (by omega) (keyT_size _)
      rw [H0.out, tF_same, tG_same] at ha
      refine ha.mono ?_
      rintro e w5 ⟨rfl, bs5, _, _, hw5⟩
      have HW5 := Lib.hid hw5
      clear hw5 ha hcl
      go_wp2_with fail
      go_roundw
      case measure => simp [intOf]; omega
      case rel => exact ⟨k + 1, by omega, by go_num, Lib.hid ⟨_, _, HW5.out⟩⟩
    · have dl : decide ((k : Int) < (N : Int)) = false := by simp; omega
      have HW3 := Lib.hid hw
      clear hw HF
      go_wp2_with fail
      have ha := HW3.out.ask nn ⟨#[107, 97]⟩ (by omega) (by omega) (by decide)
      rw [H2.out] at ha
      refine ha.mono ?_
      rintro e w5 ⟨rfl, bs5, _, _, hw5⟩
      have HW5 := Lib.hid hw5
      clear hw5 ha
      go_wp2_with fail
      refine (known9_any _ HW5.out.1.steps).mono ?_
      rintro e w6 ⟨rfl, g6⟩
      have HB := Lib.hid (HW5.out.later g6).1.b
      clear g6
      go_wp2_with fail
      go_ret
      exact ⟨rfl, HB.out⟩
namespace RateFirst
set_option linter.unusedSimpArgs false in
set_option maxRecDepth 100000 in
theorem lifted (os : Os) (started : os.Started) (H : Type) (enc : TypeId × Value → H) :
    ReturnsInHanded {} Tryd.checked os 8 .any (fun w args => (Rows.rateFirstSpec.pre enc Tryd.prog Tryd.f8 [] false w args ∧ laidMetH Tryd.prog laidL w) ∧ sizedMet enc Tryd.prog Tryd.f8 (OpenSpec.ofChange Rows.rateFirstSpec) false w args)
      (Rows.rateFirstSpec.post enc Tryd.prog Tryd.f8 false true false false) := by
  refine returnsInHanded_of_change_and (C := Tryd.checked) (X := fun w _ => laidMetH Tryd.prog laidL w) (fun _ _ _ hh h => h.of_heap hh) own started (by kernel_rfl) Tryd.func8
    (ChangeSpec.witness_shaped (enc := enc) (C := Tryd.checked) (os := os) (X := fun w _ => laidMetH Tryd.prog laidL w) false (World.doorLaid Tryd.prog 400 os) #[.int .u64 0, .slice none 0 0, .int .u8 0, .int .u8 0] 8 rfl (World.shaped_of_RefB (by kernel_rfl) (by kernel_rfl)) (by kernel_rfl) (by kernel_rfl) (by kernel_rfl) (door_met os _)) ?_
  intro W base args ds gs before hval0 hW _ _ hL _
  have hS := of_laid hL
  have hval : ∀ (j : Nat) t v, Tryd.f8.params[j]? = some t → args[j]? = some v → Value.okWide Tryd.prog W .any base t v := hval0
  have hW' := hW
  obtain ⟨p, q, hA0, hV, rfl, _, _⟩ := hW
  have hA : DataW.TrodAll enc Tryd.prog W 0 (fun _ => true) true Tryd.f8.params.toList args.toList ds p := hA0
  rw [Tryd.params8] at hA hval
  obtain ⟨v0, vs0, d0, ds0, p0, q0, hargs, rfl, rfl, h0, r0⟩ := trodAll_cons hA
  obtain ⟨v1, vs1, d1, ds1, p1, q1, rfl, rfl, rfl, h1, r1⟩ := trodAll_cons r0
  obtain ⟨v2, vs2, d2, ds2, p2, q2, rfl, rfl, rfl, h2, r2⟩ := trodAll_cons r1
  obtain ⟨v3, vs3, d3, ds3, p3, q3, rfl, rfl, rfl, h3, r3⟩ := trodAll_cons r2
  obtain ⟨rfl, rfl, rfl⟩ := trodAll_nil r3
  obtain rfl : args = #[v0, v1, v2, v3] := by cases args; simp_all
  obtain ⟨rfl, rfl⟩ := trodVars_none hV
  obtain ⟨a0, rfl, rfl, rfl, w0⟩ := open_int Tryd.underlying22 (hval 0 22 v0 rfl rfl) h0
  have k0 := wf_u64 w0
  obtain ⟨n0, rfl⟩ : ∃ n : Nat, a0 = n := ⟨a0.toNat, by omega⟩
  obtain ⟨A1, cs1, cap1, rfl, l1, m1, b1, again1⟩ := arg_bytes (hval 1 33 v1 rfl rfl) h1
  have x1 := arg_extra h1
  obtain ⟨a2, rfl, rfl, rfl, w2⟩ := open_int Tryd.underlying5 (hval 2 5 v2 rfl rfl) h2
  have k2 := wf_u8 w2
  obtain ⟨n2, rfl⟩ : ∃ u : UInt8, a2 = (u.toNat : Int) := ⟨UInt8.ofNat a2.toNat, by simp; omega⟩
  obtain ⟨a3, rfl, rfl, rfl, w3⟩ := open_int Tryd.underlying5 (hval 3 5 v3 rfl rfl) h3
  have k3 := wf_u8 w3
  obtain ⟨n3, rfl⟩ : ∃ u : UInt8, a3 = (u.toNat : Int) := ⟨UInt8.ofNat a3.toNat, by simp; omega⟩
  clear hA0 hval0
  simp only [List.append_nil] at hW'
  refine (rateFirst_walk n0 A1 cs1 cap1 n2.toNat n3.toNat (by omega) (by have := n2.toNat_lt; omega) (by have := n3.toNat_lt; omega) W b1 hS).mono fun e W' ⟨he, hg⟩ => ?_
  subst he
  exact ⟨_, rfl, true_last hW' rfl (by kernel_rfl) Tryd.underlying4 rfl rfl rfl (of_decide_eq_true (by kernel_rfl)) hg⟩

/-- The row. -/
theorem said : Rows.RateFirstSaid :=
  OpenClaim.holds_of_wide 8 Tryd.f8 rfl rfl rfl rfl rfl rfl rfl ⟨rfl, rfl, rfl, rfl, rfl⟩ rfl rfl rfl rfl rfl (by kernel_rfl) Tryd.func8 (by kernel_rfl)
    (of_decide_eq_true (by kernel_rfl)) (by unfold Func.isWrapper; first | (rw [if_pos (by decide +kernel)]; kernel_rfl) | (rw [if_neg (by decide +kernel)]; exact ⟨rfl, rfl⟩))
    (fun os started H enc _ => lifted os started H enc)
/-- **RateFirst, at every input: the card, its listed variables tied to the program's text.** -/
theorem proved : Rows.RateFirstCardSaid :=
  Claim7.holds_tied_plain_at .later [] [.wider] true Rows.rateFirstCard.stood.harness false
    said (fun _ h => by cases h) (by kernel_rfl) (fun _ h => by cases h) rateFirst_row_tie rfl ⟨rfl, rfl⟩ (by kernel_rfl) rfl
    (fun f fn hf hfn => by
      obtain rfl : f = 8 := Option.some.inj ((show Tryd.prog.funcNamed "telemeter/telemeterlaw09.RateFirst" = some 8 by kernel_rfl).symm.trans hf) |>.symm
      obtain rfl : fn = Tryd.f8 := (Option.some.inj (Tryd.func8.symm.trans hfn)).symm
      exact ⟨by kernel_rfl, fun j t ht => by
        rw [Tryd.params8] at ht
        have hm : t ∈ [22, 33, 5, 5] := by simpa using Array.mem_of_getElem? ht
        have hall : ([22, 33, 5, 5].all fun u => !Tryd.prog.wantsStandIn u) = true := by kernel_rfl
        exact (show Tryd.prog.wantsStandIn t = false by simpa using List.all_eq_true.1 hall t hm)⟩)
    (by kernel_rfl)
end RateFirst

end Go.Proofs.YtkhbodlffhfmnaaDoor
