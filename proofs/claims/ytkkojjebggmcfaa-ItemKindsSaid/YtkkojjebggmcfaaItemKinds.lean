/-
  Proved: ItemKinds returns true for all bytes and every kind: an item that is both a span and a log is none; of no kind else is there any. No condition.
-/
import Derived.Test.YtkkojjebggmcfaaAgain
import Derived.Test.YtkkojjebggmcfaaItemOf
import Derived.Test.YtkkojjebggmcfaaItemKnown
namespace Go.Proofs.Ytkkojjebggmcfaa
open Go.ChangeShapes Go.WideShapes Go.ChangeAt Go.RowKit Go.Proofs.NumMath Go.Proofs.ItemMath

theorem zero_span : rightSpan ⟨0, 0, 0, 0, ⟨#[]⟩, 0, 0, false, [], 0⟩ = false := by decide +kernel
theorem zero_log : rightLog ⟨⟨#[]⟩, 0, 0, ⟨#[]⟩⟩ = false := by decide +kernel

set_option linter.unusedSimpArgs false in
set_option linter.unusedVariables false in
set_option maxRecDepth 100000 in
set_option maxHeartbeats 4000000 in
theorem kinds_1 (A B : Option Addr) (cs ds : List UInt8) (lc cc ld cd : Nat) (w : World) (hlc : cs.length = lc) (hA : Holds8 w.heap.size w A cs) (hld : ds.length = ld) (hB : Holds8 w.heap.size w B ds) :
    Calls Try.prog 9 #[.slice A lc cc, .slice B ld cd, .int .u8 1] w fun e w' => e = .returned (.bool true) ∧ Below w.heap.size w w' := by
  have hS := fun (W : World) (h : Below w.heap.size w W) => span_made A cs lc cc W hlc (hA.later h)
  have hright := spanOf_right cs
  have hfits := spanOf_fits cs
  have hparts := right_parts hright
  have hG := fun (W : World) (h : Below w.heap.size w W) => log_any B ds ld cd W hld (hB.later h)
  have hlr := logOf_right ds
  have hlp := rightLog_parts hlr
  unfold logOf at hlr hlp
  dsimp only at hlp
  obtain ⟨sp, hsp⟩ : ∃ sp, spanOf cs = sp := ⟨_, rfl⟩
  rw [hsp] at hS hright hfits hparts
  obtain ⟨hi, lo, id, par, name, start, stop, bad, l, rv⟩ := sp
  dsimp only at hS hfits hparts
  obtain ⟨key, hkey⟩ : ∃ key, nameOf (at8 ds 0) = key := ⟨_, rfl⟩
  obtain ⟨weight, hweight⟩ : ∃ n, at8 ds 1 + 1 = n := ⟨_, rfl⟩
  obtain ⟨a, ha⟩ : ∃ a : Int, (at8 ds 2 : Int) = a := ⟨_, rfl⟩
  obtain ⟨body, hbody⟩ : ∃ s, bodyOf (at8 ds 3) = s := ⟨_, rfl⟩
  rw [hkey, hweight, ha, hbody] at hG hlr hlp
  unfold spCells at hS
  unfold lgCells at hG
  obtain ⟨b1, b2, b3, b4, b5⟩ := hfits
  obtain ⟨p1, p2, p3, p4, p5, p6, p7, p8⟩ := hparts
  obtain ⟨q1, q2, q3, q4, q5, q6⟩ := hlp
  obtain ⟨z, hz⟩ : ∃ z, (1 : UInt8) :: encSpan ⟨hi, lo, id, par, name, start, stop, bad, l, rv⟩ = z := ⟨_, rfl⟩
  obtain ⟨m, hm⟩ : ∃ m, z.length = m := ⟨_, rfl⟩
  obtain ⟨y, hy⟩ : ∃ y, (2 : UInt8) :: encLog ⟨key, weight, a, body⟩ = y := ⟨_, rfl⟩
  obtain ⟨j, hj⟩ : ∃ j, y.length = j := ⟨_, rfl⟩
  have HS := Lib.hid hS
  have HG := Lib.hid hG
  have HRI := Lib.hid hright
  have HLR := Lib.hid hlr
  have HZ := Lib.hid hz
  have HM := Lib.hid hm
  have HY := Lib.hid hy
  have HJ := Lib.hid hj
  have HW0 : Hid (weight ≠ 0) := Lib.hid (by omega)
  have HNO : Hid (noSpan ⟨hi, lo, id, par, name, start, stop, bad, l, rv⟩ = false) := Lib.hid (by
    unfold noSpan
    dsimp only
    rw [decide_eq_false b5]; simp)
  clear hS hG hright hlr hz hm hy hj hsp hkey hweight ha hbody hA hB hlc hld p2 p3 p4 p5 p7 p8 b5
  go_enter Try.func9, Try.ntmps9
  go_wp2_with fail
  refine (HS.out w (Below.refl _ _)).mono ?_
  rintro e w1 ⟨A1, n1, c1, rfl, hn1, hA1, hb1⟩
  have HN1 := Lib.hid hn1.symm
  have hl1 : n1 ≤ 8 := by omega
  have HA1 := Lib.hid hA1
  have HB1 := Lib.hid hb1
  clear hn1 hA1 hb1
  go_wp2_with fail
  refine (HG.out w1 HB1.out).mono ?_
  rintro e w2 ⟨rfl, hb2⟩
  have HA2 := Lib.hid (HA1.out.later hb2)
  have HB2 := Lib.hid (HB1.out.trans (hb2.mono HB1.out.size))
  clear hb2
  go_wp2_with fail
  refine (encode_span_besides hi lo id par rv name start stop bad A1 l n1 c1 key body weight a w2 HN1.out (by omega) (by omega) HA2.out HRI.out HW0.out).mono ?_
  rintro e w3 ⟨rfl, hb3⟩
  have HB3 := Lib.hid (HB2.out.trans (hb3.mono HB2.out.size))
  clear hb3
  go_wp2_with fail
  refine (HS.out w3 HB3.out).mono ?_
  rintro e w4 ⟨A4, n4, c4, rfl, hn4, hA4, hb4⟩
  have HN4 := Lib.hid hn4.symm
  have hl4 : n4 ≤ 8 := by omega
  have HA4 := Lib.hid hA4
  have HB4 := Lib.hid (HB3.out.trans (hb4.mono HB3.out.size))
  clear hn4 hA4 hb4
  go_wp2_with fail
  refine (encode_span hi lo id par rv name start stop bad A4 l n4 c4 w4 b1 b2 b3 b4 HN4.out HA4.out HRI.out z m HZ.out HM.out).mono ?_
  rintro e w5 ⟨A5, c5, rfl, _, hb5⟩
  have HB5 := Lib.hid (HB4.out.trans (hb5.mono HB4.out.size))
  clear hb5
  go_wp2_with fail
  refine (HG.out w5 HB5.out).mono ?_
  rintro e w6 ⟨rfl, hb6⟩
  have HB6 := Lib.hid (HB5.out.trans (hb6.mono HB5.out.size))
  clear hb6
  go_wp2_with fail
  refine (encode_bad_span 0 0 0 0 0 ⟨#[]⟩ 0 0 false none [] 0 0 key body weight a w6 rfl (by omega) (by decide) (fun h => absurd h (by simp)) zero_span).mono ?_
  rintro e w7 ⟨rfl, hb7⟩
  have HB7 := Lib.hid (HB6.out.trans (hb7.mono HB6.out.size))
  clear hb7
  go_wp2_with fail
  refine (known_any w7).mono ?_
  rintro e w8 ⟨rfl, hb8⟩
  have HB8 := Lib.hid (HB7.out.trans (hb8.mono HB7.out.size))
  clear hb8
  go_wp2_with fail
  go_ret
  exact ⟨rfl, HB8.out⟩

set_option linter.unusedSimpArgs false in
set_option linter.unusedVariables false in
set_option maxRecDepth 100000 in
set_option maxHeartbeats 4000000 in
theorem kinds_2 (A B : Option Addr) (cs ds : List UInt8) (lc cc ld cd : Nat) (w : World) (hlc : cs.length = lc) (hA : Holds8 w.heap.size w A cs) (hld : ds.length = ld) (hB : Holds8 w.heap.size w B ds) :
    Calls Try.prog 9 #[.slice A lc cc, .slice B ld cd, .int .u8 2] w fun e w' => e = .returned (.bool true) ∧ Below w.heap.size w w' := by
  have hS := fun (W : World) (h : Below w.heap.size w W) => span_made A cs lc cc W hlc (hA.later h)
  have hright := spanOf_right cs
  have hfits := spanOf_fits cs
  have hparts := right_parts hright
  have hG := fun (W : World) (h : Below w.heap.size w W) => log_any B ds ld cd W hld (hB.later h)
  have hlr := logOf_right ds
  have hlp := rightLog_parts hlr
  unfold logOf at hlr hlp
  dsimp only at hlp
  obtain ⟨sp, hsp⟩ : ∃ sp, spanOf cs = sp := ⟨_, rfl⟩
  rw [hsp] at hS hright hfits hparts
  obtain ⟨hi, lo, id, par, name, start, stop, bad, l, rv⟩ := sp
  dsimp only at hS hfits hparts
  obtain ⟨key, hkey⟩ : ∃ key, nameOf (at8 ds 0) = key := ⟨_, rfl⟩
  obtain ⟨weight, hweight⟩ : ∃ n, at8 ds 1 + 1 = n := ⟨_, rfl⟩
  obtain ⟨a, ha⟩ : ∃ a : Int, (at8 ds 2 : Int) = a := ⟨_, rfl⟩
  obtain ⟨body, hbody⟩ : ∃ s, bodyOf (at8 ds 3) = s := ⟨_, rfl⟩
  rw [hkey, hweight, ha, hbody] at hG hlr hlp
  unfold spCells at hS
  unfold lgCells at hG
  obtain ⟨b1, b2, b3, b4, b5⟩ := hfits
  obtain ⟨p1, p2, p3, p4, p5, p6, p7, p8⟩ := hparts
  obtain ⟨q1, q2, q3, q4, q5, q6⟩ := hlp
  obtain ⟨z, hz⟩ : ∃ z, (1 : UInt8) :: encSpan ⟨hi, lo, id, par, name, start, stop, bad, l, rv⟩ = z := ⟨_, rfl⟩
  obtain ⟨m, hm⟩ : ∃ m, z.length = m := ⟨_, rfl⟩
  obtain ⟨y, hy⟩ : ∃ y, (2 : UInt8) :: encLog ⟨key, weight, a, body⟩ = y := ⟨_, rfl⟩
  obtain ⟨j, hj⟩ : ∃ j, y.length = j := ⟨_, rfl⟩
  have HS := Lib.hid hS
  have HG := Lib.hid hG
  have HRI := Lib.hid hright
  have HLR := Lib.hid hlr
  have HZ := Lib.hid hz
  have HM := Lib.hid hm
  have HY := Lib.hid hy
  have HJ := Lib.hid hj
  have HW0 : Hid (weight ≠ 0) := Lib.hid (by omega)
  have HNO : Hid (noSpan ⟨hi, lo, id, par, name, start, stop, bad, l, rv⟩ = false) := Lib.hid (by
    unfold noSpan
    dsimp only
    rw [decide_eq_false b5]; simp)
  clear hS hG hright hlr hz hm hy hj hsp hkey hweight ha hbody hA hB hlc hld p2 p3 p4 p5 p7 p8 b5
  go_enter Try.func9, Try.ntmps9
  go_wp2_with fail
  refine (HS.out w (Below.refl _ _)).mono ?_
  rintro e w1 ⟨A1, n1, c1, rfl, hn1, hA1, hb1⟩
  have HN1 := Lib.hid hn1.symm
  have hl1 : n1 ≤ 8 := by omega
  have HA1 := Lib.hid hA1
  have HB1 := Lib.hid hb1
  clear hn1 hA1 hb1
  go_wp2_with fail
  refine (HG.out w1 HB1.out).mono ?_
  rintro e w2 ⟨rfl, hb2⟩
  have HA2 := Lib.hid (HA1.out.later hb2)
  have HB2 := Lib.hid (HB1.out.trans (hb2.mono HB1.out.size))
  clear hb2
  go_wp2_with fail
  refine (encode_log_besides hi lo id par rv name start stop bad A1 l n1 c1 key body weight a w2 HN1.out (by omega) (by omega) HLR.out HNO.out).mono ?_
  rintro e w3 ⟨rfl, hb3⟩
  have HB3 := Lib.hid (HB2.out.trans (hb3.mono HB2.out.size))
  clear hb3
  go_wp2_with fail
  refine (HS.out w3 HB3.out).mono ?_
  rintro e w4 ⟨A4, n4, c4, rfl, hn4, hA4, hb4⟩
  have HN4 := Lib.hid hn4.symm
  have hl4 : n4 ≤ 8 := by omega
  have HA4 := Lib.hid hA4
  have HB4 := Lib.hid (HB3.out.trans (hb4.mono HB3.out.size))
  clear hn4 hA4 hb4
  go_wp2_with fail
  refine (encode_bad_log hi lo id par rv name start stop bad A4 l n4 c4 ⟨#[]⟩ ⟨#[]⟩ 0 0 w4 (by decide) (by decide) zero_log).mono ?_
  rintro e w5 ⟨rfl, hb5⟩
  have HB5 := Lib.hid (HB4.out.trans (hb5.mono HB4.out.size))
  clear hb5
  go_wp2_with fail
  refine (HG.out w5 HB5.out).mono ?_
  rintro e w6 ⟨rfl, hb6⟩
  have HB6 := Lib.hid (HB5.out.trans (hb6.mono HB5.out.size))
  clear hb6
  go_wp2_with fail
  refine (encode_log key body weight a w6 HLR.out y j HY.out HJ.out).mono ?_
  rintro e w7 ⟨A7, c7, rfl, _, hb7⟩
  have HB7 := Lib.hid (HB6.out.trans (hb7.mono HB6.out.size))
  clear hb7
  go_wp2_with fail
  refine (known_any w7).mono ?_
  rintro e w8 ⟨rfl, hb8⟩
  have HB8 := Lib.hid (HB7.out.trans (hb8.mono HB7.out.size))
  clear hb8
  go_wp2_with fail
  go_ret
  exact ⟨rfl, HB8.out⟩

set_option linter.unusedSimpArgs false in
set_option linter.unusedVariables false in
set_option maxRecDepth 100000 in
set_option maxHeartbeats 4000000 in
theorem kinds_no (k : Nat) (A B : Option Addr) (cs ds : List UInt8) (lc cc ld cd : Nat) (w : World) (hlc : cs.length = lc) (hA : Holds8 w.heap.size w A cs) (hld : ds.length = ld) (hB : Holds8 w.heap.size w B ds) (h1 : k ≠ 1) (h2 : k ≠ 2) (h3 : k < 256) :
    Calls Try.prog 9 #[.slice A lc cc, .slice B ld cd, .int .u8 (k : Int)] w fun e w' => e = .returned (.bool true) ∧ Below w.heap.size w w' := by
  have hS := fun (W : World) (h : Below w.heap.size w W) => span_made A cs lc cc W hlc (hA.later h)
  have hright := spanOf_right cs
  have hfits := spanOf_fits cs
  have hparts := right_parts hright
  have hG := fun (W : World) (h : Below w.heap.size w W) => log_any B ds ld cd W hld (hB.later h)
  have hlr := logOf_right ds
  have hlp := rightLog_parts hlr
  unfold logOf at hlr hlp
  dsimp only at hlp
  obtain ⟨sp, hsp⟩ : ∃ sp, spanOf cs = sp := ⟨_, rfl⟩
  rw [hsp] at hS hright hfits hparts
  obtain ⟨hi, lo, id, par, name, start, stop, bad, l, rv⟩ := sp
  dsimp only at hS hfits hparts
  obtain ⟨key, hkey⟩ : ∃ key, nameOf (at8 ds 0) = key := ⟨_, rfl⟩
  obtain ⟨weight, hweight⟩ : ∃ n, at8 ds 1 + 1 = n := ⟨_, rfl⟩
  obtain ⟨a, ha⟩ : ∃ a : Int, (at8 ds 2 : Int) = a := ⟨_, rfl⟩
  obtain ⟨body, hbody⟩ : ∃ s, bodyOf (at8 ds 3) = s := ⟨_, rfl⟩
  rw [hkey, hweight, ha, hbody] at hG hlr hlp
  unfold spCells at hS
  unfold lgCells at hG
  obtain ⟨b1, b2, b3, b4, b5⟩ := hfits
  obtain ⟨p1, p2, p3, p4, p5, p6, p7, p8⟩ := hparts
  obtain ⟨q1, q2, q3, q4, q5, q6⟩ := hlp
  obtain ⟨z, hz⟩ : ∃ z, (1 : UInt8) :: encSpan ⟨hi, lo, id, par, name, start, stop, bad, l, rv⟩ = z := ⟨_, rfl⟩
  obtain ⟨m, hm⟩ : ∃ m, z.length = m := ⟨_, rfl⟩
  obtain ⟨y, hy⟩ : ∃ y, (2 : UInt8) :: encLog ⟨key, weight, a, body⟩ = y := ⟨_, rfl⟩
  obtain ⟨j, hj⟩ : ∃ j, y.length = j := ⟨_, rfl⟩
  have HS := Lib.hid hS
  have HG := Lib.hid hG
  have HRI := Lib.hid hright
  have HLR := Lib.hid hlr
  have HZ := Lib.hid hz
  have HM := Lib.hid hm
  have HY := Lib.hid hy
  have HJ := Lib.hid hj
  have HW0 : Hid (weight ≠ 0) := Lib.hid (by omega)
  have HNO : Hid (noSpan ⟨hi, lo, id, par, name, start, stop, bad, l, rv⟩ = false) := Lib.hid (by
    unfold noSpan
    dsimp only
    rw [decide_eq_false b5]; simp)
  have d1 : ((k : Int) == 1) = false := by simp; omega
  have d2 : ((k : Int) == 2) = false := by simp; omega
  clear hS hG hright hlr hz hm hy hj hsp hkey hweight ha hbody hA hB hlc hld p2 p3 p4 p5 p7 p8 b5
  go_enter Try.func9, Try.ntmps9
  go_wp2_with fail
  refine (HS.out w (Below.refl _ _)).mono ?_
  rintro e w1 ⟨A1, n1, c1, rfl, hn1, hA1, hb1⟩
  have HN1 := Lib.hid hn1.symm
  have hl1 : n1 ≤ 8 := by omega
  have HA1 := Lib.hid hA1
  have HB1 := Lib.hid hb1
  clear hn1 hA1 hb1
  go_wp2_with fail
  refine (HG.out w1 HB1.out).mono ?_
  rintro e w2 ⟨rfl, hb2⟩
  have HA2 := Lib.hid (HA1.out.later hb2)
  have HB2 := Lib.hid (HB1.out.trans (hb2.mono HB1.out.size))
  clear hb2
  go_wp2_with fail
  refine (encode_kind k hi lo id par rv name start stop bad A1 l n1 c1 key body weight a w2 h1 h2 h3).mono ?_
  rintro e w3 ⟨rfl, hb3⟩
  have HB3 := Lib.hid (HB2.out.trans (hb3.mono HB2.out.size))
  clear hb3
  go_wp2_with fail
  refine (HS.out w3 HB3.out).mono ?_
  rintro e w4 ⟨A4, n4, c4, rfl, hn4, hA4, hb4⟩
  have HN4 := Lib.hid hn4.symm
  have hl4 : n4 ≤ 8 := by omega
  have HA4 := Lib.hid hA4
  have HB4 := Lib.hid (HB3.out.trans (hb4.mono HB3.out.size))
  clear hn4 hA4 hb4
  go_wp2_with fail
  refine (encode_kind k hi lo id par rv name start stop bad A4 l n4 c4 ⟨#[]⟩ ⟨#[]⟩ 0 0 w4 h1 h2 h3).mono ?_
  rintro e w5 ⟨rfl, hb5⟩
  have HB5 := Lib.hid (HB4.out.trans (hb5.mono HB4.out.size))
  clear hb5
  go_wp2_with fail
  refine (HG.out w5 HB5.out).mono ?_
  rintro e w6 ⟨rfl, hb6⟩
  have HB6 := Lib.hid (HB5.out.trans (hb6.mono HB5.out.size))
  clear hb6
  go_wp2_with fail
  refine (encode_kind k 0 0 0 0 0 ⟨#[]⟩ 0 0 false none [] 0 0 key body weight a w6 h1 h2 h3).mono ?_
  rintro e w7 ⟨rfl, hb7⟩
  have HB7 := Lib.hid (HB6.out.trans (hb7.mono HB6.out.size))
  clear hb7
  go_wp2_with fail
  refine (known_any w7).mono ?_
  rintro e w8 ⟨rfl, hb8⟩
  have HB8 := Lib.hid (HB7.out.trans (hb8.mono HB7.out.size))
  clear hb8
  go_wp2_with fail
  go_ret
  exact ⟨rfl, HB8.out⟩

theorem kinds_walk (k : Nat) (A B : Option Addr) (cs ds : List UInt8) (lc cc ld cd : Nat) (w : World) (hlc : cs.length = lc) (hA : Holds8 w.heap.size w A cs) (hld : ds.length = ld) (hB : Holds8 w.heap.size w B ds) (h3 : k < 256) :
    Calls Try.prog 9 #[.slice A lc cc, .slice B ld cd, .int .u8 (k : Int)] w fun e w' => e = .returned (.bool true) ∧ Below w.heap.size w w' := by
  by_cases h1 : k = 1
  · subst h1
    exact kinds_1 A B cs ds lc cc ld cd w hlc hA hld hB
  by_cases h2 : k = 2
  · subst h2
    exact kinds_2 A B cs ds lc cc ld cd w hlc hA hld hB
  exact kinds_no k A B cs ds lc cc ld cd w hlc hA hld hB h1 h2 h3

namespace ItemKinds
set_option linter.unusedSimpArgs false in
set_option maxRecDepth 100000 in
theorem lifted (os : Os) (started : os.Started) (H : Type) (enc : TypeId × Value → H) :
    ReturnsInHanded {} Try.checked os 9 .any (Rows.itemKindsSpec.pre6 enc Try.prog Try.f9 Rows.itemKindsRow.domain false) (Rows.itemKindsSpec.post enc Try.prog Try.f9 false true false false) := by
  refine returnsInHanded_of_change (C := Try.checked) own started (by kernel_rfl) Try.func9
    (ChangeSpec.witness6 (enc := enc) (C := Try.checked) false ⟨#[], #[.slice none 0 0, .slice none 0 0, .int .u8 0], []⟩ 8 (by kernel_rfl) (by kernel_rfl) (by kernel_rfl) (by kernel_rfl)) ?_
  intro W base args ds gs before hval0 hW _ _
  have hval : ∀ (j : Nat) t v, Try.f9.params[j]? = some t → args[j]? = some v → Value.okWide Try.prog W .any base t v := hval0
  have hW' := hW
  obtain ⟨p, q, hA0, hV, rfl, _, _⟩ := hW
  have hA : DataW.TrodAll enc Try.prog W 0 (fun _ => true) true Try.f9.params.toList args.toList ds p := hA0
  rw [Try.params9] at hA hval
  obtain ⟨v0, vs0, d0, ds0, p0, q0, hargs, rfl, rfl, h0, r0⟩ := trodAll_cons hA
  obtain ⟨v1, vs1, d1, ds1, p1, q1, rfl, rfl, rfl, h1, r1⟩ := trodAll_cons r0
  obtain ⟨v2, vs2, d2, ds2, p2, q2, rfl, rfl, rfl, h2, r2⟩ := trodAll_cons r1
  obtain ⟨rfl, rfl, rfl⟩ := trodAll_nil r2
  obtain rfl : args = #[v0, v1, v2] := by cases args; simp_all
  obtain ⟨rfl, rfl⟩ := trodVars_none hV
  obtain ⟨A0, cs0, cap0, rfl, l0, m0, b0, again0⟩ := arg_bytes (hval 0 22 v0 rfl rfl) h0
  have x0 := arg_extra h0
  obtain ⟨A1, cs1, cap1, rfl, l1, m1, b1, again1⟩ := arg_bytes (hval 1 22 v1 rfl rfl) h1
  have x1 := arg_extra h1
  obtain ⟨a2, rfl, rfl, rfl, w2⟩ := open_int Try.underlying5 (hval 2 5 v2 rfl rfl) h2
  have k2 := wf_u8 w2
  obtain ⟨n2, rfl⟩ : ∃ u : UInt8, a2 = (u.toNat : Int) := ⟨UInt8.ofNat a2.toNat, by simp; omega⟩
  clear hA0 hval0
  simp only [List.append_nil] at hW'
  refine (kinds_walk n2.toNat A0 A1 cs0 cs1 _ cap0 _ cap1 W rfl b0 rfl b1 n2.toNat_lt).mono fun e W' ⟨he, hg⟩ => ?_
  subst he
  exact ⟨_, rfl, true_last hW' rfl (by kernel_rfl) Try.underlying4 rfl rfl rfl (of_decide_eq_true (by kernel_rfl)) hg⟩

/-- **ItemKinds, at every input.** -/
theorem proved : Rows.ItemKindsSaid :=
  OpenClaim.holds_of_wide 9 Try.f9 rfl rfl rfl rfl rfl rfl rfl ⟨rfl, rfl, rfl, rfl, rfl⟩ rfl rfl rfl rfl rfl (by kernel_rfl) Try.func9 (by kernel_rfl)
    (of_decide_eq_true (by kernel_rfl)) (by unfold Func.isWrapper; first | (rw [if_pos (by decide +kernel)]; kernel_rfl) | (rw [if_neg (by decide +kernel)]; exact ⟨rfl, rfl⟩))
    (fun os started H enc _ => lifted os started H enc)
end ItemKinds

end Go.Proofs.Ytkkojjebggmcfaa
