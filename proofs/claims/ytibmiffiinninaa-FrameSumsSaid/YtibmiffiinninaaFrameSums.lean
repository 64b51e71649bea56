/-
  Proved: FrameSums returns true for every slice of bytes and number: Sum and Frame of any bytes are what the chapter says. No condition.
-/
import Derived.Test.YtibmiffiinninaaBytesLift
import Derived.Test.YtibmiffiinninaaFrameRef
namespace Go.Proofs.Ytibmiffiinninaa
open Go.ChangeShapes Go.WideShapes Go.ChangeAt Go.RowKit Go.Proofs.NumMath Go.Proofs.FrameMath

theorem make_zero (L : Nat) (w : World) (hL : L ≤ 1000000) : ∃ w1, (Instr.makeSlice 23 (.int .i64 (L : Int)) (.int .i64 (L : Int))).run Try.prog w = .ok (.slice (some ⟨w.heap.size, 0, none⟩) L L) w1 ∧
    Holds8 w1.heap.size w1 (some ⟨w.heap.size, 0, none⟩) (List.replicate L 0) ∧ Below w.heap.size w w1 := by
  obtain ⟨i0, hi, hz0, hz1, hz2⟩ := info_parts info_u8
  obtain ⟨w1, h1, h2, h3⟩ := run_make_full (P := Try.prog) w w.heap.size 23 5 i0 (.int .u8 0) 1 Try.underlying23 hi hz0 hz1 .i64 .i64 L (by rw [hz2]; omega) (by unfold maxLen; omega) (Nat.le_refl _)
  refine ⟨w1, h1, ?_, (Below.refl _ w).grown h3 (Nat.le_refl _) (fun k hk => by cases hk)⟩
  have e : (madeCells (Value.int .u8 0).cells (L * 1)).toList = (List.replicate L (0 : UInt8)).map b8 := by
    have : (Value.int IntKind.u8 0).cells = #[.int .u8 0] := rfl
    rw [this, toList_madeCells_one]
    simp [b8]
  rw [e] at h2
  exact (own_facts (cs := List.replicate L 0) (by simpa using h2)).2.2

set_option maxRecDepth 100000 in
set_option maxHeartbeats 2000000 in
theorem sums_walk (A : Option Addr) (cs : List UInt8) (cap n : Nat) (w : World) (hn : n ≤ 65535) (_hl : cs.length ≤ cap) (_hm : cap ≤ 9223372036854775807) (hr : Holds8 w.heap.size w A cs) (hA : A = none → cap = 0) :
    Calls Try.prog 5 #[.slice A cs.length cap, .int .u16 (n : Int)] w fun e w' => e = .returned (.bool true) ∧ Below w.heap.size w w' := by
  obtain ⟨len, hlen⟩ : ∃ len, cs.length = len := ⟨_, rfl⟩
  rw [hlen] at _hl ⊢
  have HL := Lib.hid hlen
  have HR := Lib.hid hr
  have HA := Lib.hid hA
  clear hlen hr hA
  by_cases h1 : 300 < len
  · have d1 : decide ((300 : Int) < (len : Int)) = true := by simp; omega
    go_enter Try.func5, Try.ntmps5
    go_wp2_with fail
    refine (known_any _).mono ?_
    rintro e w1 ⟨rfl, hb1⟩
    go_wp2_with fail
    go_ret
    exact ⟨rfl, hb1⟩
  have d1 : decide ((300 : Int) < (len : Int)) = false := by simp; omega
  obtain ⟨m, hm, hm2⟩ : ∃ m : Nat, (n : Int) % 12 = (m : Int) ∧ m < 12 := ⟨n % 12, by omega, by omega⟩
  obtain ⟨L, hL, hL1, hL2⟩ : ∃ L : Nat, 4090 + (m : Int) = (L : Int) ∧ 4090 ≤ L ∧ L < 4102 := ⟨4090 + m, by omega, by omega, by omega⟩
  obtain ⟨fl, hfl⟩ : ∃ fl, (frame cs).length = fl := ⟨_, rfl⟩
  have HF := Lib.hid hfl
  clear hfl
  go_enter Try.func5, Try.ntmps5
  go_wp2_with fail
  refine (known_any _).mono ?_
  rintro e w1 ⟨rfl, hB1⟩
  go_wp2_with fail
  refine (frame_fits A cs len cap fl w1 HL.out HF.out (by omega) (HR.out.later hB1) HA.out).mono ?_
  rintro e w2 ⟨A2, c2, rfl, hown2, hb2⟩
  have HR2 := Lib.hid (own_facts hown2).2.2
  have hB2 := hB1.trans (hb2.mono hB1.size)
  clear hown2 hb2
  go_wp2_with fail
  refine (refFrame_fits A cs len cap fl w2 HL.out HF.out (by omega) (HR.out.later hB2) HA.out).mono ?_
  rintro e w3 ⟨A3, c3, rfl, hown3, hb3⟩
  have HR3 := Lib.hid (own_facts hown3).2.2
  have HR23 := Lib.hid (HR2.out.later hb3)
  have hB3 := hB2.trans (hb3.mono hB2.size)
  obtain ⟨w4, hmk, hr4, hb4⟩ := make_zero L w3 (by omega)
  have HR4 := Lib.hid hr4
  have HLz : Hid ((List.replicate L (0 : UInt8)).length = L) := Lib.hid (by simp)
  have HR34 := Lib.hid (HR3.out.later hb4)
  have HR24 := Lib.hid (HR23.out.later hb4)
  have hB4 := hB3.trans (hb4.mono hB3.size)
  clear hown3 hb3 hr4 hb4 HR2 HR3 HR23
  generalize List.replicate L (0 : UInt8) = zs at HR4 HLz
  by_cases hfit : L ≤ 4096
  · obtain ⟨zl, hzl⟩ : ∃ zl, (frame zs).length = zl := ⟨_, rfl⟩
    have HZ := Lib.hid hzl
    clear hzl
    go_wp2_with fail
    clear hmk hm hL
    refine (frame_fits (some ⟨w3.heap.size, 0, none⟩) zs L L zl w4 HLz.out HZ.out hfit HR4.out (fun h => by cases h)).mono ?_
    rintro e w5 ⟨A5, c5, rfl, hown5, hb5⟩
    have HR5 := Lib.hid (own_facts hown5).2.2
    have hB5 := hB4.trans (hb5.mono hB4.size)
    have HR35 := Lib.hid (HR34.out.later hb5)
    have HR25 := Lib.hid (HR24.out.later hb5)
    have HR45 := Lib.hid (HR4.out.later hb5)
    clear hown5 hb5 HR34 HR24 HR4
    go_wp2_with fail
    refine (refFrame_fits (some ⟨w3.heap.size, 0, none⟩) zs L L zl w5 HLz.out HZ.out hfit HR45.out (fun h => by cases h)).mono ?_
    rintro e w6 ⟨A6, c6, rfl, hown6, hb6⟩
    have hB6 := hB5.trans (hb6.mono hB5.size)
    have HSU := Lib.hid (sum_any A cs cap w6 (by rw [HL.out]; omega) (HR.out.later hB6))
    rw [HL.out] at HSU
    have HSR := Lib.hid (refSum_any A cs len cap w6 HL.out (by omega) (HR.out.later hB6))
    have cv2 := text_run A2 (frame cs) fl c2 w6 _ HF.out (HR25.out.later hb6)
    have cv3 := text_run A3 (frame cs) fl c3 w6 _ HF.out (HR35.out.later hb6)
    have cv5 := text_run A5 (frame zs) zl c5 w6 _ HZ.out (HR5.out.later hb6)
    have cv6 := text_run A6 (frame zs) zl c6 w6 _ HZ.out (own_facts hown6).2.2
    generalize (⟨(frame cs).toArray⟩ : ByteArray) = sa at cv2 cv3
    generalize (⟨(frame zs).toArray⟩ : ByteArray) = sb at cv5 cv6
    clear hown6 hb6
    generalize sum cs = s at HSU HSR
    go_wp2_with fail
    refine HSU.out.mono ?_
    rintro e w7 ⟨rfl, rfl⟩
    go_wp2_with fail
    refine HSR.out.mono ?_
    rintro e w7 ⟨rfl, rfl⟩
    go_wp2_with fail
    go_ret
    exact ⟨by simp, hB6⟩
  · go_wp2_with fail
    clear hmk hm hL
    refine (frame_long (some ⟨w3.heap.size, 0, none⟩) L L w4 (by omega) (by omega)).mono ?_
    rintro e w5 ⟨rfl, rfl⟩
    go_wp2_with fail
    refine (refFrame_long (some ⟨w3.heap.size, 0, none⟩) L L w4 (by omega) (by omega)).mono ?_
    rintro e w5 ⟨rfl, rfl⟩
    have HSU := Lib.hid (sum_any A cs cap w4 (by rw [HL.out]; omega) (HR.out.later hB4))
    rw [HL.out] at HSU
    have HSR := Lib.hid (refSum_any A cs len cap w4 HL.out (by omega) (HR.out.later hB4))
    have cv2 := text_run A2 (frame cs) fl c2 w4 _ HF.out HR24.out
    have cv3 := text_run A3 (frame cs) fl c3 w4 _ HF.out HR34.out
    have cv5 := text_run none [] 0 0 w4 0 rfl (fun h => absurd h (by simp))
    generalize (⟨(frame cs).toArray⟩ : ByteArray) = sa at cv2 cv3
    generalize (⟨([] : List UInt8).toArray⟩ : ByteArray) = sb at cv5
    generalize sum cs = s at HSU HSR
    go_wp2_with fail
    refine HSU.out.mono ?_
    rintro e w7 ⟨rfl, rfl⟩
    go_wp2_with fail
    refine HSR.out.mono ?_
    rintro e w7 ⟨rfl, rfl⟩
    go_wp2_with fail
    go_ret
    exact ⟨by simp, hB4⟩

namespace FrameSums
set_option linter.unusedSimpArgs false in
set_option maxRecDepth 100000 in
theorem lifted (os : Os) (started : os.Started) (H : Type) (enc : TypeId × Value → H) :
    ReturnsInHanded {} Try.checked os 5 .any (Rows.frameSumsSpec.pre6 enc Try.prog Try.f5 Rows.frameSumsRow.domain false) (Rows.frameSumsSpec.post enc Try.prog Try.f5 false true false false) := by
  refine returnsInHanded_of_change (C := Try.checked) own started (by kernel_rfl) Try.func5
    (ChangeSpec.witness6 (enc := enc) (C := Try.checked) false ⟨#[], #[.slice none 0 0, .int .u16 0], []⟩ 8 (by kernel_rfl) (by kernel_rfl) (by kernel_rfl) (by kernel_rfl)) ?_
  intro W base args ds gs before hval0 hW _ _
  have hval : ∀ (j : Nat) t v, Try.f5.params[j]? = some t → args[j]? = some v → Value.okWide Try.prog W .any base t v := hval0
  have hW' := hW
  obtain ⟨p, q, hA0, hV, rfl, _, _⟩ := hW
  have hA : DataW.TrodAll enc Try.prog W 0 (fun _ => true) true Try.f5.params.toList args.toList ds p := hA0
  rw [Try.params5] at hA hval
  obtain ⟨v0, vs0, d0, ds0, p0, q0, hargs, rfl, rfl, h0, r0⟩ := trodAll_cons hA
  obtain ⟨v1, vs1, d1, ds1, p1, q1, rfl, rfl, rfl, h1, r1⟩ := trodAll_cons r0
  obtain ⟨rfl, rfl, rfl⟩ := trodAll_nil r1
  obtain rfl : args = #[v0, v1] := by cases args; simp_all
  obtain ⟨rfl, rfl⟩ := trodVars_none hV
  obtain ⟨A0, cs0, cap0, rfl, l0, m0, b0, again0⟩ := arg_bytes (hval 0 23 v0 rfl rfl) h0
  have x0 := arg_extra h0
  obtain ⟨a1, rfl, rfl, rfl, w1⟩ := open_int Try.underlying22 (hval 1 22 v1 rfl rfl) h1
  have k1 := wf_u16 w1
  obtain ⟨n1, rfl⟩ : ∃ n : Nat, a1 = n := ⟨a1.toNat, by omega⟩
  clear hA0 hval0
  simp only [List.append_nil] at hW'
  refine (sums_walk A0 cs0 cap0 n1 W (by omega) l0 m0 b0 x0.1).mono fun e W' ⟨he, hg⟩ => ?_
  subst he
  exact ⟨_, rfl, true_post hW' rfl (by kernel_rfl) Try.underlying4 rfl rfl (fun sp hsp => by have h := (trodAll_cons_mk (again0 W' sp hg (fun x hx => hsp x (by simp [hx]))) (trodAll_cons_mk (shut_int Try.underlying22 w1) trodAll_mk0)); simp only [List.append_nil, List.nil_append] at h; exact h) hg⟩

/-- **FrameSums, at every input.** -/
theorem proved : Rows.FrameSumsSaid :=
  OpenClaim.holds_of_wide 5 Try.f5 rfl rfl rfl rfl rfl rfl rfl ⟨rfl, rfl, rfl, rfl, rfl⟩ rfl rfl rfl rfl rfl (by kernel_rfl) Try.func5 (by kernel_rfl)
    (of_decide_eq_true (by kernel_rfl)) (by unfold Func.isWrapper; first | (rw [if_pos (by decide +kernel)]; kernel_rfl) | (rw [if_neg (by decide +kernel)]; exact ⟨rfl, rfl⟩))
    (fun os started H enc _ => lifted os started H enc)
end FrameSums

end Go.Proofs.Ytibmiffiinninaa
