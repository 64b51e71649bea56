/-
  Proved: CtxTwice returns true for every parent and all numbers: a parent that may be is told back; a text that is one is printed as it was. No condition.
-/
import Derived.Test.YtkfidolbbnmjfaaDoorCtxKnown
import Derived.Test.YtkfidolbbnmjfaaDoorCtxArg
import Derived.Test.YtkfidolbbnmjfaaDoorCtxBackM
namespace Go.Proofs.YtkfidolbbnmjfaaDoor
open Go.ChangeShapes Go.WideShapes Go.ChangeAt Go.RowKit Go.Proofs.CtxState

theorem or_one {a : Nat} (ha : a < 18446744073709551616) : ∃ y : Nat, bits .or .u64 (a : Int) 1 = (y : Int) ∧ y < 18446744073709551616 ∧ y ≠ 0 :=
  ⟨a ||| 1, u64_or_nat a 1 ha (by omega), Nat.or_lt_two_pow (n := 64) ha (by omega), by
    intro h
    have h1 : 1 ≤ a ||| 1 := Nat.right_le_or
    omega⟩
set_option maxRecDepth 100000 in
set_option maxHeartbeats 2000000 in
theorem p0_any (hi lo sp fl : Nat) (hfl : fl < 256) (w : World) (hS : Shape w) :
    Calls Tryd.prog 20 #[.agg #[.int .u64 (hi : Int), .int .u64 (lo : Int), .int .u64 (sp : Int), .int .u8 (fl : Int)]] w fun e w' => (∃ t : ByteArray, e = .returned (.string t) ∧ t.size ≤ 55) ∧ Below w.heap.size w w' := by
  have hB0 := box_below (W := w) (.cells #[.int .u64 (hi : Int), .int .u64 (lo : Int), .int .u64 (sp : Int), .int .u8 (fl : Int)] 33)
  have hS0 := hS.later hB0
  have HB := Lib.hid hB0
  cases hb : isPar hi lo sp with
  | false =>
    have hP := fun W => print_no hi lo sp fl W hb
    clear hb
    go_enter Tryd.func20, Tryd.ntmps20
    go_wp2_with fail
    refine (hP _).mono ?_
    rintro e w1 ⟨rfl, hb1⟩
    have HB1 := Lib.hid (HB.out.trans (hb1.mono HB.out.size))
    go_wp2_with fail
    go_ret
    exact ⟨⟨_, rfl, by decide⟩, HB1.out⟩
  | true =>
    have hP := fun W (h : Shape W) => print_yes hi lo sp fl W h hfl hb
    have hl : (textOf (printOf hi lo sp fl)).size ≤ 55 := by show (bs _).size ≤ 55; rw [size_bs, print_len]; omega
    obtain ⟨tt, htt⟩ : ∃ tt, textOf (printOf hi lo sp fl) = tt := ⟨_, rfl⟩
    rw [htt] at hP hl
    have HL := Lib.hid hl
    clear hb hl htt
    go_enter Tryd.func20, Tryd.ntmps20
    go_wp2_with fail
    refine (hP _ hS0).mono ?_
    rintro e w1 ⟨rfl, hb1⟩
    have HB1 := Lib.hid (HB.out.trans (hb1.mono HB.out.size))
    go_wp2_with fail
    go_ret
    exact ⟨⟨_, rfl, HL.out⟩, HB1.out⟩

set_option maxRecDepth 100000 in
set_option maxHeartbeats 4000000 in
theorem twice_walk (hi lo sp fl h l s f : Nat) (hfl : fl < 256) (gh : h < 18446744073709551616) (gl : l < 18446744073709551616) (gs : s < 18446744073709551616) (gf : f < 256) (w : World) (hS : Shape w) :
    Calls Tryd.prog 8 #[.agg #[.int .u64 (hi : Int), .int .u64 (lo : Int), .int .u64 (sp : Int), .int .u8 (fl : Int)], .int .u64 (h : Int), .int .u64 (l : Int), .int .u64 (s : Int), .int .u8 (f : Int)] w fun e w' => e = .returned (.bool true) ∧ Below w.heap.size w w' := by
  obtain ⟨l2, hl2, gl2, hl0⟩ := or_one gl
  obtain ⟨s2, hs2, gs2, hs0⟩ := or_one gs
  have hpar : isPar h l2 s2 = true := by unfold isPar; simp [hl0, hs0]
  have hb0 : Below w.heap.size w ((w.alloc (.cells #[.int .u64 (hi : Int), .int .u64 (lo : Int), .int .u64 (sp : Int), .int .u8 (fl : Int)] 33)).alloc (.cells #[.int .u64 (h : Int), .int .u64 (l2 : Int), .int .u64 (s2 : Int), .int .u8 (f : Int)] 33)) :=
    ((Below.refl _ w).alloc (Nat.le_refl _) _).alloc (by simp) _
  have kp := (blk_new w #[.int .u64 (hi : Int), .int .u64 (lo : Int), .int .u64 (sp : Int), .int .u8 (fl : Int)] 33).later (box_below (.cells #[.int .u64 (h : Int), .int .u64 (l2 : Int), .int .u64 (s2 : Int), .int .u8 (f : Int)] 33))
  have kq := blk_new (w.alloc (.cells #[.int .u64 (hi : Int), .int .u64 (lo : Int), .int .u64 (sp : Int), .int .u8 (fl : Int)] 33)) #[.int .u64 (h : Int), .int .u64 (l2 : Int), .int .u64 (s2 : Int), .int .u8 (f : Int)] 33
  rw [World.size_alloc] at kq
  have hP := fun W (hs : Shape W) => print_yes h l2 s2 f W hs gf hpar
  have hsz : (textOf (printOf h l2 s2 f)).size = 55 := by show (bs _).size = 55; rw [size_bs, print_len]
  have hPP := parse_print h l2 s2 f gh gl2 gs2 gf hpar
  have hpar2 := fun W (hs : Shape W) => parse_any (textOf (printOf h l2 s2 f)) W hs (by rw [hsz]; decide)
  rw [show (textOf (printOf h l2 s2 f)).data.toList = printOf h l2 s2 f from list_bs _, hPP] at hpar2
  dsimp only [parentV] at hpar2
  obtain ⟨tt, htt⟩ : ∃ tt, textOf (printOf h l2 s2 f) = tt := ⟨_, rfl⟩
  rw [htt] at hP hpar2 hsz
  have HP := Lib.hid hP
  have HQ := Lib.hid hpar2
  have HB0 := Lib.hid hb0
  have HKP := Lib.hid kp
  have HKQ := Lib.hid kq
  have HS := Lib.hid hS
  have H0 := Lib.hid (fun W (hs : Shape W) => p0_any hi lo sp fl hfl W hs)
  clear hP hpar2 hb0 kp kq hS hPP htt hpar
  go_enter Tryd.func8, Tryd.ntmps8
  go_wp2_with fail
  refine (HP.out _ (HS.out.later HB0.out)).mono ?_
  rintro e w1 ⟨rfl, hb1⟩
  have HB1 := Lib.hid (HB0.out.trans (hb1.mono HB0.out.size))
  have HKP1 := Lib.hid (HKP.out.later hb1)
  have HKQ1 := Lib.hid (HKQ.out.later hb1)
  clear hb1 HB0 HKP HKQ
  go_wp2_with fail
  refine (HQ.out _ (HS.out.later HB1.out)).mono ?_
  rintro e w2 ⟨rfl, hb2⟩
  have HB2 := Lib.hid ((HB1.out.trans (hb2.mono HB1.out.size)).alloc (HB1.out.trans (hb2.mono HB1.out.size)).size (.cells #[.int .u64 (h : Int), .int .u64 (l2 : Int), .int .u64 (s2 : Int), .int .u8 (f : Int)] 33))
  have HKP2 := Lib.hid ((HKP1.out.later hb2).later (box_below (.cells #[.int .u64 (h : Int), .int .u64 (l2 : Int), .int .u64 (s2 : Int), .int .u8 (f : Int)] 33)))
  have HKQ2 := Lib.hid ((HKQ1.out.later hb2).later (box_below (.cells #[.int .u64 (h : Int), .int .u64 (l2 : Int), .int .u64 (s2 : Int), .int .u8 (f : Int)] 33)))
  have HKX2 := Lib.hid (blk_new w2 #[.int .u64 (h : Int), .int .u64 (l2 : Int), .int .u64 (s2 : Int), .int .u8 (f : Int)] 33)
  clear hb2 HB1 HKP1 HKQ1
  go_wp2_with fail
  refine (known_any _ (HS.out.later HB2.out)).mono ?_
  rintro e w3 ⟨rfl, hb3⟩
  have HB3 := Lib.hid (HB2.out.trans (hb3.mono HB2.out.size))
  have kp3 := HKP2.out.later hb3
  have kq3 := HKQ2.out.later hb3
  have kx3 := HKX2.out.later hb3
  have a0 := kp3.cell 0 rfl
  have a1 := kp3.cell 1 rfl
  have a2 := kp3.cell 2 rfl
  have a3 := kp3.cell 3 rfl
  have b0 := kq3.cell 0 rfl
  have b1 := kq3.cell 1 rfl
  have b2 := kq3.cell 2 rfl
  have b3 := kq3.cell 3 rfl
  have c0 := kx3.cell 0 rfl
  have c1 := kx3.cell 1 rfl
  have c2 := kx3.cell 2 rfl
  have c3 := kx3.cell 3 rfl
  clear hb3 HB2 HKP2 HKQ2 HKX2 kp3 kq3 kx3
  go_wp2_with fail
  refine (H0.out _ (HS.out.later HB3.out)).mono ?_
  rintro e w4 ⟨⟨t0, rfl, ht0⟩, hb4⟩
  have HB4 := Lib.hid (HB3.out.trans (hb4.mono HB3.out.size))
  have d0 : decide ((t0.size : Int) ≤ 55) = true := by simp; omega
  clear hb4
  go_wp2_with fail
  go_ret
  exact ⟨rfl, HB4.out⟩

namespace CtxTwice
set_option linter.unusedSimpArgs false in
set_option maxRecDepth 100000 in
theorem lifted (os : Os) (started : os.Started) (H : Type) (enc : TypeId × Value → H) :
    ReturnsInHanded {} Tryd.checked os 8 .any (fun w args => (Rows.ctxTwiceSpec.pre enc Tryd.prog Tryd.f8 [] false w args ∧ laidMetH Tryd.prog laidL w) ∧ sizedMet enc Tryd.prog Tryd.f8 (OpenSpec.ofChange Rows.ctxTwiceSpec) false w args)
      (Rows.ctxTwiceSpec.post enc Tryd.prog Tryd.f8 false true false false) := by
  refine returnsInHanded_of_change_and (C := Tryd.checked) (X := fun w _ => laidMetH Tryd.prog laidL w) (fun _ _ _ hh h => h.of_heap hh) own started (by kernel_rfl) Tryd.func8
    (ChangeSpec.witness_shaped (enc := enc) (C := Tryd.checked) (os := os) (X := fun w _ => laidMetH Tryd.prog laidL w) false (World.laidAll Tryd.prog os laidL) #[.agg #[.int .u64 0, .int .u64 0, .int .u64 0, .int .u8 0], .int .u64 0, .int .u64 0, .int .u64 0, .int .u8 0] 8 (World.laidAll_os _ _ _) (World.shaped_of_ZipB (by kernel_rfl) (by kernel_rfl)) (by kernel_rfl) (by kernel_rfl) (by kernel_rfl) (door_met os _)) ?_
  intro W base args ds gs before hval0 hW _ _ hL _
  have hS := of_laid hL
  have hval : ∀ (j : Nat) t v, Tryd.f8.params[j]? = some t → args[j]? = some v → Value.okWide Tryd.prog W .any base t v := hval0
  have hW' := hW
  obtain ⟨p, q, hA0, hV, rfl, _, _⟩ := hW
  have hA : DataW.TrodAll enc Tryd.prog W 0 (fun _ => true) true Tryd.f8.params.toList args.toList ds p := hA0
  rw [Tryd.params8] at hA hval
  obtain ⟨v0, vs0, d0, ds0, p0, q0, hargs, rfl, rfl, h0, r0⟩ := trodAll_cons hA
  obtain ⟨v1, vs1, d1, ds1, p1, q1, rfl, rfl, rfl, h1, r1⟩ := trodAll_cons r0
  obtain ⟨v2, vs2, d2, ds2, p2, q2, rfl, rfl, rfl, h2, r2⟩ := trodAll_cons r1
  obtain ⟨v3, vs3, d3, ds3, p3, q3, rfl, rfl, rfl, h3, r3⟩ := trodAll_cons r2
  obtain ⟨v4, vs4, d4, ds4, p4, q4, rfl, rfl, rfl, h4, r4⟩ := trodAll_cons r3
  obtain ⟨rfl, rfl, rfl⟩ := trodAll_nil r4
  obtain rfl : args = #[v0, v1, v2, v3, v4] := by cases args; simp_all
  obtain ⟨rfl, rfl⟩ := trodVars_none hV
  obtain ⟨hi0, lo0, sp0, fl0, rfl, g0h, g0l, g0s, g0f⟩ := arg_parent (hval 0 33 v0 rfl rfl)
  obtain ⟨a1, rfl, rfl, rfl, w1⟩ := open_int Tryd.underlying22 (hval 1 22 v1 rfl rfl) h1
  have k1 := wf_u64 w1
  obtain ⟨n1, rfl⟩ : ∃ n : Nat, a1 = n := ⟨a1.toNat, by omega⟩
  obtain ⟨a2, rfl, rfl, rfl, w2⟩ := open_int Tryd.underlying22 (hval 2 22 v2 rfl rfl) h2
  have k2 := wf_u64 w2
  obtain ⟨n2, rfl⟩ : ∃ n : Nat, a2 = n := ⟨a2.toNat, by omega⟩
  obtain ⟨a3, rfl, rfl, rfl, w3⟩ := open_int Tryd.underlying22 (hval 3 22 v3 rfl rfl) h3
  have k3 := wf_u64 w3
  obtain ⟨n3, rfl⟩ : ∃ n : Nat, a3 = n := ⟨a3.toNat, by omega⟩
  obtain ⟨a4, rfl, rfl, rfl, w4⟩ := open_int Tryd.underlying5 (hval 4 5 v4 rfl rfl) h4
  have k4 := wf_u8 w4
  obtain ⟨n4, rfl⟩ : ∃ u : UInt8, a4 = (u.toNat : Int) := ⟨UInt8.ofNat a4.toNat, by simp; omega⟩
  clear hA0 hval0
  simp only [List.append_nil] at hW'
  refine (twice_walk hi0 lo0 sp0 fl0 n1 n2 n3 n4.toNat g0f (by omega) (by omega) (by omega) n4.toNat_lt W hS).mono fun e W' ⟨he, hg⟩ => ?_
  subst he
  exact ⟨_, rfl, true_last hW' rfl (by kernel_rfl) Tryd.underlying4 rfl rfl rfl (of_decide_eq_true (by kernel_rfl)) hg⟩

/-- The row. -/
theorem said : Rows.CtxTwiceSaid :=
  OpenClaim.holds_of_wide 8 Tryd.f8 rfl rfl rfl rfl rfl rfl rfl ⟨rfl, rfl, rfl, rfl, rfl⟩ rfl rfl rfl rfl rfl (by kernel_rfl) Tryd.func8 (by kernel_rfl)
    (of_decide_eq_true (by kernel_rfl)) (by unfold Func.isWrapper; first | (rw [if_pos (by decide +kernel)]; kernel_rfl) | (rw [if_neg (by decide +kernel)]; exact ⟨rfl, rfl⟩))
    (fun os started H enc _ => lifted os started H enc)
/-- **CtxTwice, at every input: the card, its listed variables tied to the program's text.** -/
theorem proved : Rows.CtxTwiceCardSaid :=
  Claim7.holds_tied_plain_at .later [] [.data, .data, .pinned] true Rows.ctxTwiceCard.stood.harness false
    said (fun _ h => by cases h) (by kernel_rfl) (fun _ h => by cases h) ctxTwice_row_tie rfl ⟨rfl, rfl⟩ (by kernel_rfl) rfl
    (fun f fn hf hfn => by
      obtain rfl : f = 8 := Option.some.inj ((show Tryd.prog.funcNamed "telemeter/telemeterlaw04.CtxTwice" = some 8 by kernel_rfl).symm.trans hf) |>.symm
      obtain rfl : fn = Tryd.f8 := (Option.some.inj (Tryd.func8.symm.trans hfn)).symm
      exact ⟨by kernel_rfl, fun j t ht => by
        rw [Tryd.params8] at ht
        have hm : t ∈ [33, 22, 22, 22, 5] := by simpa using Array.mem_of_getElem? ht
        have hall : ([33, 22, 22, 22, 5].all fun u => !Tryd.prog.wantsStandIn u) = true := by kernel_rfl
        exact (show Tryd.prog.wantsStandIn t = false by simpa using List.all_eq_true.1 hall t hm)⟩)
    (by kernel_rfl)
end CtxTwice

end Go.Proofs.YtkfidolbbnmjfaaDoor
