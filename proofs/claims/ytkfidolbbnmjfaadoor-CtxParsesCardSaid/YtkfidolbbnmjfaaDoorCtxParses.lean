/-
  Proved: CtxParses returns true for every text and parent, all choices: Parse of any text, and of a parent's that is bent in one sign, and Print of any parent, are what the chapter says. No condition.
-/
import Derived.Test.YtkfidolbbnmjfaaDoorCtxKnown
import Derived.Test.YtkfidolbbnmjfaaDoorCtxArg
import Derived.Test.YtkfidolbbnmjfaaDoorCtxBackM
import Derived.Test.YtkfidolbbnmjfaaDoorCtxRefParse
import Derived.BigRegion
namespace Go.Proofs.YtkfidolbbnmjfaaDoor
open Go.ChangeShapes Go.WideShapes Go.ChangeAt Go.RowKit Go.Proofs.CtxState

set_option maxRecDepth 100000 in
set_option maxHeartbeats 4000000 in
theorem reads_any (s : ByteArray) (w : World) (hS : Shape w) (hs : s.size ≤ 9223372036854775807) :
    Calls Tryd.prog 15 #[.string s] w fun e w' => e = .returned (.bool true) ∧ Below w.heap.size w w' := by
  have hP := parse_any s w hS hs
  have hQ := fun W => refParse_any s W hs
  have hE := parse_err s.data.toList
  obtain ⟨⟨a, b, c, d, er⟩, hp⟩ : ∃ p, parseOf s.data.toList = p := ⟨_, rfl⟩
  rw [hp] at hP hQ hE
  dsimp only [parentV] at hP hQ hE
  have hw : IntKind.i64.wrap (er : Int) = (er : Int) := by rw [IntKind.wrap_i64]; omega
  have HP := Lib.hid hP
  have HQ := Lib.hid hQ
  clear hP hQ hE hp
  go_enter Tryd.func15, Tryd.ntmps15
  go_wp2_with fail
  refine HP.out.mono ?_
  rintro e w1 ⟨rfl, hb1⟩
  have HB1 := Lib.hid (hb1.alloc hb1.size (.cells #[.int .u64 (a : Int), .int .u64 (b : Int), .int .u64 (c : Int), .int .u8 (d : Int)] 33))
  have HK1 := Lib.hid (blk_new w1 #[.int .u64 (a : Int), .int .u64 (b : Int), .int .u64 (c : Int), .int .u8 (d : Int)] 33)
  clear hb1
  go_wp2_with fail
  refine (HQ.out _).mono ?_
  rintro e w2 ⟨rfl, hb2⟩
  have HB2 := Lib.hid ((HB1.out.trans (hb2.mono HB1.out.size)).alloc (HB1.out.trans (hb2.mono HB1.out.size)).size (.cells #[.int .u64 (a : Int), .int .u64 (b : Int), .int .u64 (c : Int), .int .u8 (d : Int)] 33))
  have k1 := (HK1.out.later hb2).later (box_below (.cells #[.int .u64 (a : Int), .int .u64 (b : Int), .int .u64 (c : Int), .int .u8 (d : Int)] 33))
  have k2 := blk_new w2 #[.int .u64 (a : Int), .int .u64 (b : Int), .int .u64 (c : Int), .int .u8 (d : Int)] 33
  have a0 := k1.cell 0 rfl
  have a1 := k1.cell 1 rfl
  have a2 := k1.cell 2 rfl
  have a3 := k1.cell 3 rfl
  clear hb2 HB1 HK1 k1 k2
  go_wp2_with fail
  go_ret
  exact ⟨rfl, HB2.out⟩

theorem bendP_len (i : Nat) (x : UInt8) (l : List UInt8) (h : l.length = 55) : (l.take i ++ [x] ++ l.drop (i + 1)).length ≤ 111 := by
  simp only [List.length_append, List.length_take, List.length_drop, List.length_singleton]
  omega
def baseP : List UInt8 := [48, 48, 45, 48, 49, 50, 51, 52, 53, 54, 55, 56, 57, 97, 98, 99, 100, 101, 102, 48, 49, 50, 51, 52, 53, 54, 55, 56, 57, 97, 98, 99, 100, 101, 102, 45, 48, 49, 50, 51, 52, 53, 54, 55, 56, 57, 97, 98, 99, 100, 101, 102, 45, 48, 49]
theorem conv_oneP (W : World) (g : Nat) (c : UInt8) (h : W.cell? ⟨g, 0, none⟩ = some (.int .u8 (c.toNat : Int))) :
    (convert 23 9 (.slice (some ⟨g, 0, none⟩) 1 1)).run Tryd.prog W = .ok (.string ⟨#[c]⟩) W := by
  refine run_convert_bytes_back W 23 9 5 ⟨g, 0, none⟩ 1 [c] Tryd.underlying23 Tryd.underlying5 Tryd.underlying9 (fun j hj => ?_)
  obtain rfl : j = 0 := by simpa using hj
  exact h

theorem parses_num {k : Nat} (_ : k < 256) : ∃ i j : Nat, wrap64 (k : Int) = (k : Int) ∧ (k : Int).tmod 55 = (i : Int) ∧ (k : Int) % 55 = (i : Int) ∧ (i : Int) + 1 = (j : Int) ∧ wrap64 (i : Int) = (i : Int) ∧ wrap64 (j : Int) = (j : Int) ∧ (i : Int) ≤ 55 ∧ (j : Int) ≤ 55 ∧ i < 55 ∧ j = i + 1 := by
  refine ⟨k % 55, k % 55 + 1, by unfold wrap64; omega, by rw [Int.tmod_eq_emod_of_nonneg (by omega)]; omega, by omega, by omega, ?_, ?_, by omega, by omega, by omega, rfl⟩ <;> (unfold wrap64; omega)
theorem parses_bent (i j : Nat) (x : UInt8) (hi : i < 55) (hj : j = i + 1) : ∃ x1 x2 x3 x4, (⟨#[48, 48, 45, 48, 49, 50, 51, 52, 53, 54, 55, 56, 57, 97, 98, 99, 100, 101, 102, 48, 49, 50, 51, 52, 53, 54, 55, 56, 57, 97, 98, 99, 100, 101, 102, 45, 48, 49, 50, 51, 52, 53, 54, 55, 56, 57, 97, 98, 99, 100, 101, 102, 45, 48, 49]⟩ : ByteArray).extract 0 i = x1 ∧ (⟨#[48, 48, 45, 48, 49, 50, 51, 52, 53, 54, 55, 56, 57, 97, 98, 99, 100, 101, 102, 48, 49, 50, 51, 52, 53, 54, 55, 56, 57, 97, 98, 99, 100, 101, 102, 45, 48, 49, 50, 51, 52, 53, 54, 55, 56, 57, 97, 98, 99, 100, 101, 102, 45, 48, 49]⟩ : ByteArray).extract j 55 = x3 ∧ x1 ++ (⟨#[x]⟩ : ByteArray) = x2 ∧ x2 ++ x3 = x4 ∧ ¬ 9223372036854775807 < x1.size + 1 ∧ ¬ 9223372036854775807 < x2.size + x3.size ∧ x4.size ≤ 9223372036854775807 := by
  have hbl : baseP.length = 55 := rfl
  have ex1 : (⟨#[48, 48, 45, 48, 49, 50, 51, 52, 53, 54, 55, 56, 57, 97, 98, 99, 100, 101, 102, 48, 49, 50, 51, 52, 53, 54, 55, 56, 57, 97, 98, 99, 100, 101, 102, 45, 48, 49, 50, 51, 52, 53, 54, 55, 56, 57, 97, 98, 99, 100, 101, 102, 45, 48, 49]⟩ : ByteArray).extract 0 i = bs (baseP.take i) := take_bs (⟨#[48, 48, 45, 48, 49, 50, 51, 52, 53, 54, 55, 56, 57, 97, 98, 99, 100, 101, 102, 48, 49, 50, 51, 52, 53, 54, 55, 56, 57, 97, 98, 99, 100, 101, 102, 45, 48, 49, 50, 51, 52, 53, 54, 55, 56, 57, 97, 98, 99, 100, 101, 102, 45, 48, 49]⟩ : ByteArray) i
  have ex3 : (⟨#[48, 48, 45, 48, 49, 50, 51, 52, 53, 54, 55, 56, 57, 97, 98, 99, 100, 101, 102, 48, 49, 50, 51, 52, 53, 54, 55, 56, 57, 97, 98, 99, 100, 101, 102, 45, 48, 49, 50, 51, 52, 53, 54, 55, 56, 57, 97, 98, 99, 100, 101, 102, 45, 48, 49]⟩ : ByteArray).extract j 55 = bs (baseP.drop (i + 1)) := by rw [hj]; exact drop_bs (⟨#[48, 48, 45, 48, 49, 50, 51, 52, 53, 54, 55, 56, 57, 97, 98, 99, 100, 101, 102, 48, 49, 50, 51, 52, 53, 54, 55, 56, 57, 97, 98, 99, 100, 101, 102, 45, 48, 49, 50, 51, 52, 53, 54, 55, 56, 57, 97, 98, 99, 100, 101, 102, 45, 48, 49]⟩ : ByteArray) (i + 1)
  have ex2 : bs (baseP.take i) ++ (⟨#[x]⟩ : ByteArray) = bs (baseP.take i ++ [x]) := by rw [← addStr]; rfl
  refine ⟨bs (baseP.take i), bs (baseP.take i ++ [x]), bs (baseP.drop (i + 1)), bs (baseP.take i ++ [x] ++ baseP.drop (i + 1)), ex1, ex3, ex2, addStr _ _, ?_, ?_, ?_⟩
  · rw [size_bs, List.length_take]; omega
  · rw [size_bs, size_bs, List.length_append, List.length_take, List.length_drop, List.length_singleton]; omega
  · rw [size_bs]; exact Nat.le_trans (bendP_len i x baseP hbl) (by decide)
theorem err_wrap {er : Nat} (h : er ≤ 31) : IntKind.i64.wrap (er : Int) = (er : Int) := by rw [IntKind.wrap_i64]; omega
set_option maxRecDepth 100000 in
set_option maxHeartbeats 8000000 in
theorem parses_walk (s : ByteArray) (hs : s.size ≤ 9223372036854775807) (hi lo sp fl : Nat) (gh : hi < 18446744073709551616) (gl : lo < 18446744073709551616) (gs : sp < 18446744073709551616) (gf : fl < 256) (k : Nat) (hk : k < 256) (x : UInt8) (w : World) (hS : Shape w) :
    Calls Tryd.prog 5 #[.string s, .agg #[.int .u64 (hi : Int), .int .u64 (lo : Int), .int .u64 (sp : Int), .int .u8 (fl : Int)], .int .u8 (k : Int), .int .u8 (x.toNat : Int)] w fun e w' => e = .returned (.bool true) ∧ Below w.heap.size w w' := by
  have hb0 := box_below (W := w) (.cells #[.int .u64 (hi : Int), .int .u64 (lo : Int), .int .u64 (sp : Int), .int .u8 (fl : Int)] 33)
  have kp := blk_new w #[.int .u64 (hi : Int), .int .u64 (lo : Int), .int .u64 (sp : Int), .int .u8 (fl : Int)] 33
  obtain ⟨L, hL⟩ : ∃ L, s.size = L := ⟨_, rfl⟩
  have HB0 := Lib.hid hb0
  have HS := Lib.hid hS
  by_cases h1 : 200 < L
  · have d1 : decide (200 < L) = true := by simp [h1]
    clear hb0 kp
    go_enter Tryd.func5, Tryd.ntmps5
    go_wp2_with fail
    refine (known_any _ (HS.out.later HB0.out)).mono ?_
    rintro e w1 ⟨rfl, hb1⟩
    have HB1 := Lib.hid (HB0.out.trans (hb1.mono HB0.out.size))
    clear hb1
    go_wp2_with fail
    go_ret
    exact ⟨rfl, HB1.out⟩
  have d1 : decide (200 < L) = false := by simp [h1]
  -- Print, both
  obtain ⟨tt, er, hP, hQ, her⟩ : ∃ (tt : ByteArray) (er : Nat), (∀ W, Shape W → Calls Tryd.prog 13 #[.agg #[.int .u64 (hi : Int), .int .u64 (lo : Int), .int .u64 (sp : Int), .int .u8 (fl : Int)]] W fun e w' => e = .returned (.tuple #[.string tt, .int .u16 (er : Int)]) ∧ Below W.heap.size W w') ∧
      (∀ W, Calls Tryd.prog 14 #[.agg #[.int .u64 (hi : Int), .int .u64 (lo : Int), .int .u64 (sp : Int), .int .u8 (fl : Int)]] W fun e w' => e = .returned (.tuple #[.string tt, .int .i64 (er : Int)]) ∧ Below W.heap.size W w') ∧ er ≤ 1 := by
    cases hb : isPar hi lo sp with
    | false => exact ⟨⟨#[]⟩, 1, fun W _ => print_no hi lo sp fl W hb, fun W => refPrint_no hi lo sp fl W hb, by omega⟩
    | true => exact ⟨textOf (printOf hi lo sp fl), 0, fun W h => print_yes hi lo sp fl W h gf hb, fun W => refPrint_yes hi lo sp fl W gh gl gs gf hb, by omega⟩
  have hw := err_wrap (Nat.le_trans her (by decide : 1 ≤ 31))
  -- the text that is bent
  obtain ⟨i, j, hwk, htm, hi1, hj, hwi, hwj, e1, e2, hi55, hj'⟩ := parses_num hk
  obtain ⟨x1, x2, x3, x4, hx1, hx3, hx2, hx4, g1, g2, hx4s⟩ := parses_bent i j x hi55 hj'
  have HP := Lib.hid hP
  have HQ := Lib.hid hQ
  have R1 := Lib.hid (fun W (h : Shape W) => reads_any s W h hs)
  have R2 := Lib.hid (fun W (h : Shape W) => reads_any x4 W h hx4s)
  have HKP := Lib.hid kp
  have hts : (tt.toList == tt.toList) = true := by simp
  clear hP hQ hb0 kp hS hj' hx4s her hi55 gh gl gs gf hk hs
  go_enter Tryd.func5, Tryd.ntmps5
  go_wp2_with fail
  refine (known_any _ (HS.out.later HB0.out)).mono ?_
  rintro e w1 ⟨rfl, hb1⟩
  have HB1 := Lib.hid (HB0.out.trans (hb1.mono HB0.out.size))
  have k1 := HKP.out.later hb1
  have a0 := k1.cell 0 rfl
  have a1 := k1.cell 1 rfl
  have a2 := k1.cell 2 rfl
  have a3 := k1.cell 3 rfl
  have HK1 := Lib.hid k1
  clear hb1 HB0 HKP k1
  go_wp2_with fail
  refine (HP.out _ (HS.out.later HB1.out)).mono ?_
  rintro e w2 ⟨rfl, hb2⟩
  have HB2 := Lib.hid (HB1.out.trans (hb2.mono HB1.out.size))
  have k2 := HK1.out.later hb2
  clear a0 a1 a2 a3 HK1 HB1 hb2
  have a0 := k2.cell 0 rfl
  have a1 := k2.cell 1 rfl
  have a2 := k2.cell 2 rfl
  have a3 := k2.cell 3 rfl
  clear k2
  go_wp2_with fail
  refine (HQ.out _).mono ?_
  rintro e w3 ⟨rfl, hb3⟩
  have HB3 := Lib.hid (HB2.out.trans (hb3.mono HB2.out.size))
  clear a0 a1 a2 a3 HB2 hb3
  have hcv := conv_oneP (w3.alloc (.cells #[.int .u8 (x.toNat : Int)] 5)).drew w3.heap.size x (by have := (blk_new w3 #[.int .u8 (x.toNat : Int)] 5).cell 0 rfl; exact this)
  go_wp2_with fail
  go_region
  obtain ⟨w4, hw4⟩ : ∃ w4, (w3.alloc (.cells #[.int .u8 (x.toNat : Int)] 5)).drew = w4 := ⟨_, rfl⟩
  have HB4 : Hid (Below w.heap.size w w4) := by rw [← hw4]; exact (HB3.out.alloc HB3.out.size _).drew
  rw [hw4]
  clear hcv hw4 HB3
  go_wp2_with fail
  refine (R1.out _ (HS.out.later HB4.out)).mono ?_
  rintro e w5 ⟨rfl, hb5⟩
  have HB5 := Lib.hid (HB4.out.trans (hb5.mono HB4.out.size))
  clear hb5
  go_wp2_with fail
  refine (R2.out _ (HS.out.later HB5.out)).mono ?_
  rintro e w6 ⟨rfl, hb6⟩
  have HB6 := Lib.hid (HB5.out.trans (hb6.mono HB5.out.size))
  clear hb6
  go_wp2_with fail
  go_ret
  exact ⟨rfl, HB6.out⟩

namespace CtxParses
set_option linter.unusedSimpArgs false in
set_option maxRecDepth 100000 in
theorem lifted (os : Os) (started : os.Started) (H : Type) (enc : TypeId × Value → H) :
    ReturnsInHanded {} Tryd.checked os 5 .any (fun w args => (Rows.ctxParsesSpec.pre enc Tryd.prog Tryd.f5 [] false w args ∧ laidMetH Tryd.prog laidL w) ∧ sizedMet enc Tryd.prog Tryd.f5 (OpenSpec.ofChange Rows.ctxParsesSpec) false w args)
      (Rows.ctxParsesSpec.post enc Tryd.prog Tryd.f5 false true false false) := by
  refine returnsInHanded_of_change_and (C := Tryd.checked) (X := fun w _ => laidMetH Tryd.prog laidL w) (fun _ _ _ hh h => h.of_heap hh) own started (by kernel_rfl) Tryd.func5
    (ChangeSpec.witness_shaped (enc := enc) (C := Tryd.checked) (os := os) (X := fun w _ => laidMetH Tryd.prog laidL w) false (World.laidAll Tryd.prog os laidL) #[.string ⟨#[]⟩, .agg #[.int .u64 0, .int .u64 0, .int .u64 0, .int .u8 0], .int .u8 0, .int .u8 0] 8 (World.laidAll_os _ _ _) (World.shaped_of_ZipB (by kernel_rfl) (by kernel_rfl)) (by kernel_rfl) (by kernel_rfl) (by kernel_rfl) (door_met os _)) ?_
  intro W base args ds gs before hval0 hW _ _ hL _
  have hS := of_laid hL
  have hval : ∀ (j : Nat) t v, Tryd.f5.params[j]? = some t → args[j]? = some v → Value.okWide Tryd.prog W .any base t v := hval0
  have hW' := hW
  obtain ⟨p, q, hA0, hV, rfl, _, _⟩ := hW
  have hA : DataW.TrodAll enc Tryd.prog W 0 (fun _ => true) true Tryd.f5.params.toList args.toList ds p := hA0
  rw [Tryd.params5] at hA hval
  obtain ⟨v0, vs0, d0, ds0, p0, q0, hargs, rfl, rfl, h0, r0⟩ := trodAll_cons hA
  obtain ⟨v1, vs1, d1, ds1, p1, q1, rfl, rfl, rfl, h1, r1⟩ := trodAll_cons r0
  obtain ⟨v2, vs2, d2, ds2, p2, q2, rfl, rfl, rfl, h2, r2⟩ := trodAll_cons r1
  obtain ⟨v3, vs3, d3, ds3, p3, q3, rfl, rfl, rfl, h3, r3⟩ := trodAll_cons r2
  obtain ⟨rfl, rfl, rfl⟩ := trodAll_nil r3
  obtain rfl : args = #[v0, v1, v2, v3] := by cases args; simp_all
  obtain ⟨rfl, rfl⟩ := trodVars_none hV
  obtain ⟨s0, rfl, rfl, rfl, w0⟩ := ChangeMaps.open_string Tryd.underlying9 (hval 0 9 v0 rfl rfl) h0
  obtain ⟨hi1, lo1, sp1, fl1, rfl, g1h, g1l, g1s, g1f⟩ := arg_parent (hval 1 33 v1 rfl rfl)
  obtain ⟨a2, rfl, rfl, rfl, w2⟩ := open_int Tryd.underlying5 (hval 2 5 v2 rfl rfl) h2
  have k2 := wf_u8 w2
  obtain ⟨n2, rfl⟩ : ∃ u : UInt8, a2 = (u.toNat : Int) := ⟨UInt8.ofNat a2.toNat, by simp; omega⟩
  obtain ⟨a3, rfl, rfl, rfl, w3⟩ := open_int Tryd.underlying5 (hval 3 5 v3 rfl rfl) h3
  have k3 := wf_u8 w3
  obtain ⟨n3, rfl⟩ : ∃ u : UInt8, a3 = (u.toNat : Int) := ⟨UInt8.ofNat a3.toNat, by simp; omega⟩
  clear hA0 hval0
  simp only [List.append_nil] at hW'
  refine (parses_walk s0 w0 hi1 lo1 sp1 fl1 g1h g1l g1s g1f n2.toNat n2.toNat_lt n3 W hS).mono fun e W' ⟨he, hg⟩ => ?_
  subst he
  exact ⟨_, rfl, true_last hW' rfl (by kernel_rfl) Tryd.underlying4 rfl rfl rfl (of_decide_eq_true (by kernel_rfl)) hg⟩

/-- The row. -/
theorem said : Rows.CtxParsesSaid :=
  OpenClaim.holds_of_wide 5 Tryd.f5 rfl rfl rfl rfl rfl rfl rfl ⟨rfl, rfl, rfl, rfl, rfl⟩ rfl rfl rfl rfl rfl (by kernel_rfl) Tryd.func5 (by kernel_rfl)
    (of_decide_eq_true (by kernel_rfl)) (by unfold Func.isWrapper; first | (rw [if_pos (by decide +kernel)]; kernel_rfl) | (rw [if_neg (by decide +kernel)]; exact ⟨rfl, rfl⟩))
    (fun os started H enc _ => lifted os started H enc)
/-- **CtxParses, at every input: the card, its listed variables tied to the program's text.** -/
theorem proved : Rows.CtxParsesCardSaid :=
  Claim7.holds_tied_plain_at .later [] [.data, .data, .pinned] true Rows.ctxParsesCard.stood.harness false
    said (fun _ h => by cases h) (by kernel_rfl) (fun _ h => by cases h) ctxParses_row_tie rfl ⟨rfl, rfl⟩ (by kernel_rfl) rfl
    (fun f fn hf hfn => by
      obtain rfl : f = 5 := Option.some.inj ((show Tryd.prog.funcNamed "telemeter/telemeterlaw04.CtxParses" = some 5 by kernel_rfl).symm.trans hf) |>.symm
      obtain rfl : fn = Tryd.f5 := (Option.some.inj (Tryd.func5.symm.trans hfn)).symm
      exact ⟨by kernel_rfl, fun j t ht => by
        rw [Tryd.params5] at ht
        have hm : t ∈ [9, 33, 5, 5] := by simpa using Array.mem_of_getElem? ht
        have hall : ([9, 33, 5, 5].all fun u => !Tryd.prog.wantsStandIn u) = true := by kernel_rfl
        exact (show Tryd.prog.wantsStandIn t = false by simpa using List.all_eq_true.1 hall t hm)⟩)
    (by kernel_rfl)
end CtxParses

end Go.Proofs.YtkfidolbbnmjfaaDoor
