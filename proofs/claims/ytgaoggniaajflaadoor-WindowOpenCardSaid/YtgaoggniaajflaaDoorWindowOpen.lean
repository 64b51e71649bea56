/-
  Proved: WindowOpen returns true for every seed, keys and length: in one while what is open grows as it is added, and what was closed stays. No condition but the card's own: hash's table of steps, tied to the program's text, holds at the start what that text lays.
-/
import Derived.Test.YtgaoggniaajflaaDoorWinKnown
namespace Go.Proofs.YtgaoggniaajflaaDoor
open Go.ChangeShapes Go.WideShapes Go.ChangeAt Go.RowKit Go.Proofs.HashMath Go.Proofs.SkMath

set_option maxRecDepth 100000 in
set_option maxHeartbeats 2000000 in
theorem windowOpen_walk (seed : Nat) (A0 : Option Addr) (cs : List UInt8) (cap long : Nat) (hx : seed < 18446744073709551616) (ha : long ≤ 255) (hcap : cs.length ≤ cap) (w : World) (hH : Holds8 w.heap.size w A0 cs) (hS : Steps w) :
    Calls Tryd.prog 3 #[.int .u64 (seed : Int), .slice A0 cs.length cap, .int .u8 (long : Int)] w fun e w' => e = .returned (.bool true) ∧ Below w.heap.size w w' := by
  obtain ⟨N, hN⟩ : ∃ N, cs.length = N := ⟨_, rfl⟩
  rw [hN] at hcap ⊢
  obtain ⟨n, hn, hn1, hn2⟩ : ∃ n : Nat, (2 : Int) + (long : Int) % 20 = (n : Int) ∧ 1 ≤ n ∧ n ≤ 30 := ⟨2 + long % 20, by omega, by omega, by omega⟩
  have hlt := hS.lt
  obtain ⟨n0, hn0⟩ : ∃ n0, w.heap.size = n0 := ⟨_, rfl⟩
  rw [hn0] at hH hlt ⊢
  have hNew := wn_new (w := w) (W := w) 4 64 seed n hS hlt (by omega) (Below.refl _ _) (by omega) (by omega) (by omega) (by omega) hx hn1 (by omega)
  have HNEW := Lib.hid hNew
  have HN := Lib.hid hN
  have HH := Lib.hid hH
  clear hNew hN hn0 hH hS
  by_cases hbig : 60 < N
  · have d1 : decide ((60 : Int) < (N : Int)) = true := by simp; omega
    go_enter Tryd.func3, Tryd.ntmps3
    go_wp2_with fail
    refine HNEW.out.mono ?_
    rintro e w1 ⟨bs, V, rfl, _, _, hw⟩
    have HW := Lib.hid hw
    clear hw
    go_wp2_with fail
    refine (known8_any _ HW.out.steps).mono ?_
    rintro e w2 ⟨rfl, g2⟩
    have hB := Lib.hid (HW.out.later g2).b
    clear g2
    go_wp2_with fail
    go_ret
    exact ⟨rfl, hB.out⟩
  have d1 : decide ((60 : Int) < (N : Int)) = false := by simp; omega
  obtain ⟨F0, hF0⟩ : ∃ F0, addW (sd seed (0 / n)) ⟨#[111, 108, 100]⟩ 64 4 7 (tF n 0 0 Z) = F0 := ⟨_, rfl⟩
  have hnn : n / n = 1 := Nat.div_self (by omega)
  have hF7 : told (sdL seed (n / n)) ⟨#[111, 108, 100]⟩ 64 4 F0 = 7 := by
    rw [hnn, sdL_succ, ← hF0, Nat.zero_div, tF_Z]
    exact told_one (by omega) (by omega)
  have hstart : tF n 0 n F0 = Z ∧ tG n 0 n F0 Z = F0 := by
    unfold tF tG
    rw [hnn, Nat.zero_div]
    exact ⟨if_neg (by omega), by rw [if_neg (by omega), if_pos rfl]⟩
  have HF0 := Lib.hid hF0
  have HF7 := Lib.hid hF7
  have HST := Lib.hid hstart
  clear hF0 hF7 hstart hnn
  go_enter Tryd.func3, Tryd.ntmps3
  go_wp2_with fail
  refine HNEW.out.mono ?_
  rintro e w1 ⟨bs, V, rfl, _, _, hw⟩
  have HW := Lib.hid hw
  clear hw
  go_wp2_with fail
  refine (HW.out.add 0 ⟨#[111, 108, 100]⟩ 7 (by omega) (by omega) (by decide) (by omega)).mono ?_
  rintro e w2 ⟨rfl, bs2, _, _, hw⟩
  rw [HF0.out, tG_Z] at hw
  have HW2 := Lib.hid hw
  clear hw HW
  go_wp2_with fail
  go_loopw [9, 10] (fun lv kv wr => ∃ k x : Nat, k ≤ N ∧ kv = .int .i64 (k : Int) ∧ lv = .int .u64 (x : Int) ∧ Hid (∃ bs now f g f', Wn n0 w wr bs V 4 64 seed n now f g ∧ now ≤ n ∧ tF n now n f = f' ∧ tG n now n f g = F0 ∧ x ≤ told (sd seed (n / n)) ⟨#[107, 97]⟩ 64 4 f')) (fun _ kv _ => N - (intOf kv).toNat)
  case atStart => exact ⟨0, 0, by omega, rfl, rfl, Lib.hid ⟨_, _, _, _, _, HW2.out, by omega, HST.out.1, HST.out.2, Nat.zero_le _⟩⟩
  case round =>
    obtain ⟨k, x, hk, rfl, rfl, HF⟩ := hrel
    by_cases hlt : k < N
    · have dl : decide ((k : Int) < (N : Int)) = true := by simp; omega
      obtain ⟨bs3, now, f, g, f', hw, hno, hf, hg, hxl⟩ := HF.out
      obtain ⟨bb, off, rfl, hbl, hc⟩ := HH.out (by rw [HN.out]; omega)
      have hcl := hc k (by rw [HN.out]; exact hlt)
      rw [← hw.b.cell (p := ⟨bb, off + k, none⟩) hbl] at hcl
      obtain ⟨c, hcv⟩ : ∃ c, cs.getD k 0 = c := ⟨_, rfl⟩
      rw [hcv] at hcl
      unfold b8 at hcl
      have hcu := c.toNat_lt
      obtain ⟨y, hy⟩ : ∃ y : Nat, (c.toNat : Int) = (y : Int) := ⟨_, rfl⟩
      have hyl : y ≤ 255 := by omega
      rw [hy] at hcl
      have HW3 := Lib.hid hw
      have HNO := Lib.hid hno
      have HFF := Lib.hid hf
      have HG := Lib.hid hg
      have HXL := Lib.hid hxl
      clear hw hc hcv hy HF hf hg hno hxl
      go_wp2_with fail
      refine (key_any y _ hyl).mono ?_
      rintro e w4 ⟨rfl, g4⟩
      have HW4 := Lib.hid (HW3.out.later g4)
      clear g4
      go_wp2_with fail
      refine (HW4.out.add n (keyT (y % 12)) 1 HNO.out (by omega) (keyT_size _) (by omega)).mono ?_
      rintro e w5 ⟨rfl, bs5, _, _, hw5⟩
      rw [HFF.out, HG.out] at hw5
      obtain ⟨f5, hf5⟩ : ∃ f5, addW (sd seed (n / n)) (keyT (y % 12)) 64 4 1 f' = f5 := ⟨_, rfl⟩
      rw [hf5] at hw5
      have HW5 := Lib.hid hw5
      obtain ⟨z, hz⟩ : ∃ z, told (sd seed (n / n)) ⟨#[107, 97]⟩ 64 4 f5 = z := ⟨_, rfl⟩
      have hxz : x ≤ z := by
        rw [← hz, ← hf5]
        exact Nat.le_trans HXL.out told_up
      have dxz : decide (z < x) = false := by simp; omega
      have HZ := Lib.hid hz
      clear hw5 hz hf5 hxz
      go_wp2_with fail
      have ho := HW5.out.open n ⟨#[107, 97]⟩ (by omega) (by omega) (by decide)
      rw [tF_same, tG_same, HZ.out] at ho
      refine ho.mono ?_
      rintro e w6 ⟨rfl, bs6, _, _, hw6⟩
      have HW6 := Lib.hid hw6
      clear hw6 ho
      go_wp2_with fail
      have ho := HW6.out.closed n ⟨#[111, 108, 100]⟩ (by omega) (by omega) (by decide)
      rw [tF_same, tG_same, HF7.out] at ho
      refine ho.mono ?_
      rintro e w7 ⟨rfl, bs7, _, _, hw7⟩
      have HW7 := Lib.hid hw7
      clear hw7 ho
      go_wp2_with fail
      go_roundw
      case rel => exact ⟨k + 1, z, by omega, by go_num, rfl, Lib.hid ⟨_, _, _, _, _, HW7.out, Nat.le_refl _, tF_same _ _ _, tG_same _ _ _ _, Nat.le_of_eq HZ.out.symm⟩⟩
      case measure => simp [intOf]; omega
    · obtain rfl : k = N := by omega
      have dl : decide ((k : Int) < (k : Int)) = false := by simp
      obtain ⟨bs3, now, f, g, f', hw, _⟩ := HF.out
      have HW3 := Lib.hid hw
      clear hw HF
      go_wp2_with fail
      refine (known8_any _ HW3.out.steps).mono ?_
      rintro e w4 ⟨rfl, g4⟩
      have HB := Lib.hid (HW3.out.later g4).b
      clear g4
      go_wp2_with fail
      go_ret
      exact ⟨rfl, HB.out⟩
namespace WindowOpen
set_option linter.unusedSimpArgs false in
set_option maxRecDepth 100000 in
theorem lifted (os : Os) (started : os.Started) (H : Type) (enc : TypeId × Value → H) :
    ReturnsInHanded {} Tryd.checked os 3 .any (fun w args => (Rows.windowOpenSpec.pre enc Tryd.prog Tryd.f3 [] false w args ∧ laidMetH Tryd.prog laidL w) ∧ sizedMet enc Tryd.prog Tryd.f3 (OpenSpec.ofChange Rows.windowOpenSpec) false w args)
      (Rows.windowOpenSpec.post enc Tryd.prog Tryd.f3 false true false false) := by
  refine returnsInHanded_of_change_and (C := Tryd.checked) (X := fun w _ => laidMetH Tryd.prog laidL w) (fun _ _ _ hh h => h.of_heap hh) own started (by kernel_rfl) Tryd.func3
    (ChangeSpec.witness_shaped (enc := enc) (C := Tryd.checked) (os := os) (X := fun w _ => laidMetH Tryd.prog laidL w) false (World.doorLaid Tryd.prog 400 os) #[.int .u64 0, .slice none 0 0, .int .u8 0] 8 rfl (World.shaped_of_RefB (by kernel_rfl) (by kernel_rfl)) (by kernel_rfl) (by kernel_rfl) (by kernel_rfl) (door_met os _)) ?_
  intro W base args ds gs before hval0 hW _ _ hL _
  have hS := of_laid hL
  have hval : ∀ (j : Nat) t v, Tryd.f3.params[j]? = some t → args[j]? = some v → Value.okWide Tryd.prog W .any base t v := hval0
  have hW' := hW
  obtain ⟨p, q, hA0, hV, rfl, _, _⟩ := hW
  have hA : DataW.TrodAll enc Tryd.prog W 0 (fun _ => true) true Tryd.f3.params.toList args.toList ds p := hA0
  rw [Tryd.params3] at hA hval
  obtain ⟨v0, vs0, d0, ds0, p0, q0, hargs, rfl, rfl, h0, r0⟩ := trodAll_cons hA
  obtain ⟨v1, vs1, d1, ds1, p1, q1, rfl, rfl, rfl, h1, r1⟩ := trodAll_cons r0
  obtain ⟨v2, vs2, d2, ds2, p2, q2, rfl, rfl, rfl, h2, r2⟩ := trodAll_cons r1
  obtain ⟨rfl, rfl, rfl⟩ := trodAll_nil r2
  obtain rfl : args = #[v0, v1, v2] := by cases args; simp_all
  obtain ⟨rfl, rfl⟩ := trodVars_none hV
  obtain ⟨a0, rfl, rfl, rfl, w0⟩ := open_int Tryd.underlying22 (hval 0 22 v0 rfl rfl) h0
  have k0 := wf_u64 w0
  obtain ⟨n0, rfl⟩ : ∃ n : Nat, a0 = n := ⟨a0.toNat, by omega⟩
  obtain ⟨A1, cs1, cap1, rfl, l1, m1, b1, again1⟩ := arg_bytes (hval 1 23 v1 rfl rfl) h1
  have x1 := arg_extra h1
  obtain ⟨a2, rfl, rfl, rfl, w2⟩ := open_int Tryd.underlying5 (hval 2 5 v2 rfl rfl) h2
  have k2 := wf_u8 w2
  obtain ⟨n2, rfl⟩ : ∃ u : UInt8, a2 = (u.toNat : Int) := ⟨UInt8.ofNat a2.toNat, by simp; omega⟩
  clear hA0 hval0
  simp only [List.append_nil] at hW'
  refine (windowOpen_walk n0 A1 cs1 cap1 n2.toNat (by omega) (by have := n2.toNat_lt; omega) l1 W b1 hS).mono fun e W' ⟨he, hg⟩ => ?_
  subst he
  exact ⟨_, rfl, true_last hW' rfl (by kernel_rfl) Tryd.underlying4 rfl rfl rfl (of_decide_eq_true (by kernel_rfl)) hg⟩

/-- The row. -/
theorem said : Rows.WindowOpenSaid :=
  OpenClaim.holds_of_wide 3 Tryd.f3 rfl rfl rfl rfl rfl rfl rfl ⟨rfl, rfl, rfl, rfl, rfl⟩ rfl rfl rfl rfl rfl (by kernel_rfl) Tryd.func3 (by kernel_rfl)
    (of_decide_eq_true (by kernel_rfl)) (by unfold Func.isWrapper; first | (rw [if_pos (by decide +kernel)]; kernel_rfl) | (rw [if_neg (by decide +kernel)]; exact ⟨rfl, rfl⟩))
    (fun os started H enc _ => lifted os started H enc)
/-- **WindowOpen, at every input: the card, its listed variables tied to the program's text.** -/
theorem proved : Rows.WindowOpenCardSaid :=
  Claim7.holds_tied_plain_at .later [] [.wider] true Rows.windowOpenCard.stood.harness false
    said (fun _ h => by cases h) (by kernel_rfl) (fun _ h => by cases h) windowOpen_row_tie rfl ⟨rfl, rfl⟩ (by kernel_rfl) rfl
    (fun f fn hf hfn => by
      obtain rfl : f = 3 := Option.some.inj ((show Tryd.prog.funcNamed "telemeter/telemeterlaw08.WindowOpen" = some 3 by kernel_rfl).symm.trans hf) |>.symm
      obtain rfl : fn = Tryd.f3 := (Option.some.inj (Tryd.func3.symm.trans hfn)).symm
      exact ⟨by kernel_rfl, fun j t ht => by
        rw [Tryd.params3] at ht
        have hm : t ∈ [22, 23, 5] := by simpa using Array.mem_of_getElem? ht
        have hall : ([22, 23, 5].all fun u => !Tryd.prog.wantsStandIn u) = true := by kernel_rfl
        exact (show Tryd.prog.wantsStandIn t = false by simpa using List.all_eq_true.1 hall t hm)⟩)
    (by kernel_rfl)
end WindowOpen

end Go.Proofs.YtgaoggniaajflaaDoor
