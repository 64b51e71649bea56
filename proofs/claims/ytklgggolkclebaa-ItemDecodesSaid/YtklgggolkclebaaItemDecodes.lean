/-
  Proved: ItemDecodes returns true for all bytes: Decode of any bytes, and of an item's that are bent in one byte, or cut, is what the chapter says. No condition.
-/
import Derived.Test.YtklgggolkclebaaItemReads
import Derived.Test.YtklgggolkclebaaItemOne
namespace Go.Proofs.Ytklgggolkclebaa
open Go.ChangeShapes Go.WideShapes Go.ChangeAt Go.RowKit Go.Proofs.NumMath Go.Proofs.ItemMath

theorem cut_head (W : World) (g len cap k : Nat) (hk : k ≤ len) (hc : len ≤ cap) : (Instr.slice 22 (.slice (some ⟨g, 0, none⟩) len cap) none (some (.int .i64 (k : Int))) none).run Try.prog W = .ok (.slice (some ⟨g, 0, none⟩) k cap) W := by
  rw [run_slice_h W 22 (some ⟨g, 0, none⟩) len cap (by kernel_rfl) .i64 (k : Int) (by omega) (by omega)]
  have hz : (sizeOf (Try.prog.elem 22)).run Try.prog W = .ok 1 W := by kernel_rfl
  rw [hz]
  have e0 : ((some ⟨g, 0, none⟩ : Option Addr).map fun x => x.add (0 * 1)) = some ⟨g, 0, none⟩ := by simp [Addr.add]
  simp only [sliced, Result.andThen, Int.toNat_natCast, e0, ite_self, Nat.sub_zero]
set_option linter.unusedSimpArgs false in
set_option linter.unusedVariables false in
set_option maxRecDepth 100000 in
set_option maxHeartbeats 8000000 in
theorem decodes_walk (A : Option Addr) (bs : List UInt8) (lb cb : Nat) (C : Option Addr) (cs : List UInt8) (lc cc : Nat) (a : Nat) (v : UInt8) (cut : Bool) (w : World) (ha : a < 256) (hlb : bs.length = lb) (hl1 : lb ≤ cb) (hcb : cb ≤ 9223372036854775807) (hA : Holds8 w.heap.size w A bs) (hlc : cs.length = lc) (hl2 : lc ≤ cc) (hcc : cc ≤ 9223372036854775807) (hC : Holds8 w.heap.size w C cs) :
    Calls Try.prog 6 #[.slice A lb cb, .slice C lc cc, .int .u8 (a : Int), .int .u8 (v.toNat : Int), .bool cut] w fun e w' => e = .returned (.bool true) ∧ Below w.heap.size w w' := by
  by_cases h3 : 300 < lb
  · have d1 : decide ((300 : Int) < (lb : Int)) = true := by simp; omega
    clear hA hC
    go_enter Try.func6, Try.ntmps6
    go_wp2_with fail
    refine (known_any _).mono ?_
    rintro e w1 ⟨rfl, hb1⟩
    go_wp2_with fail
    go_ret
    exact ⟨rfl, hb1⟩
  have d1 : decide ((300 : Int) < (lb : Int)) = false := by simp; omega
  have HA := Lib.hid hA
  have HC := Lib.hid hC
  have HLB := Lib.hid hlb
  have HLC := Lib.hid hlc
  have hv := v.toNat_lt
  clear hA hC hlb hlc
  go_enter Try.func6, Try.ntmps6
  go_wp2_with fail
  refine (known_any _).mono ?_
  rintro e w1 ⟨rfl, hb1⟩
  have HB1 := Lib.hid hb1
  clear hb1
  go_wp2_with fail
  refine (made_any C cs lc cc _ HLC.out hl2 hcc (HC.out.later HB1.out)).mono ?_
  rintro e w2 ⟨d0, d1', d2, d3, d4, d5, d6, d7, d8, d9, d10, d11, d12, d13, d14, z, rfl, hz0, hz1, hb2, henc⟩
  have HB2 := Lib.hid (HB1.out.trans (hb2.mono HB1.out.size))
  have HE := Lib.hid henc
  obtain ⟨m, hm⟩ : ∃ m, z.length = m := ⟨_, rfl⟩
  rw [hm] at hz0 hz1
  have HM := Lib.hid hm
  clear hb2 henc hm
  go_wp2_with fail
  refine (HE.out _ (Below.refl _ _)).mono ?_
  rintro e w3 ⟨A3, c3, rfl, o3, b3⟩
  have HB3 := Lib.hid (HB2.out.trans (b3.mono HB2.out.size))
  have HO3 := Lib.hid (own_lower0 o3 HB2.out.size)
  rw [HM.out] at HO3
  obtain ⟨g, hA3, hg, hcell, hfroz⟩ := own_parts' (cs := z) (by rw [HM.out]; exact HO3.out) (by rw [HM.out]; exact hz0)
  subst hA3
  obtain ⟨k, hk, hkm⟩ : ∃ k : Nat, (a : Int) % (m : Int) = (k : Int) ∧ k < m := ⟨a % m, by simp, Nat.mod_lt _ hz0⟩
  have dm : ((m : Int) == 0) = false := by simp; omega
  have hck := hcell k (by rw [HM.out]; exact hkm)
  have hfk := hfroz k (by rw [HM.out]; exact hkm)
  obtain ⟨xq, hxq⟩ : ∃ xq, z.getD k 0 = xq := ⟨_, rfl⟩
  rw [hxq] at hck
  unfold b8 at hck
  have hc3 := (own_facts (cs := z) (by rw [HM.out]; exact HO3.out)).1
  rw [HM.out] at hc3
  have HS3 := own_set' (cs := z) (by rw [HM.out]; exact HO3.out) HM.out.symm hg HB3.out k v
  have HO4 := Lib.hid HS3.1
  have HB4 := Lib.hid HS3.2
  obtain ⟨z2, hz2⟩ : ∃ z2, z.set k v = z2 := ⟨_, rfl⟩
  rw [hz2] at HO4
  have HL2 : Hid (z2.length = m) := Lib.hid (by rw [← hz2, List.length_set, HM.out])
  have hcm := (own_facts (cs := z2) HO4.out).2.1
  rw [HM.out]
  have HQ4 := Lib.hid (own_facts HO4.out).2.2
  have hsk : ∀ W : World, (Instr.slice 22 (.slice (some ⟨g, 0, none⟩) m c3) none (some (.int .i64 (k : Int))) none).run Try.prog W = .ok (.slice (some ⟨g, 0, none⟩) k c3) W := fun W => cut_head W g m c3 k (by omega) (by omega)
  clear HS3 hcell hfroz hxq hz2 o3 b3 HO3 HE
  cases cut
  · go_wp2_with fail
    refine (reads_any A bs lb cb _ HLB.out hl1 hcb (by omega) (HA.out.later HB4.out)).mono ?_
    rintro e w5 ⟨rfl, hb5⟩
    have HB5 := Lib.hid (HB4.out.trans (hb5.mono HB4.out.size))
    have HQ5 := Lib.hid (HQ4.out.later hb5)
    clear hb5
    go_wp2_with fail
    refine (reads_any (some ⟨g, 0, none⟩) z2 m c3 _ HL2.out hc3 hcm (by omega) HQ5.out).mono ?_
    rintro e w6 ⟨rfl, hb6⟩
    have HB6 := Lib.hid (HB5.out.trans (hb6.mono HB5.out.size))
    clear hb6
    go_wp2_with fail
    go_ret
    exact ⟨rfl, HB6.out⟩
  · go_wp2_with fail
    refine (reads_any A bs lb cb _ HLB.out hl1 hcb (by omega) (HA.out.later HB4.out)).mono ?_
    rintro e w5 ⟨rfl, hb5⟩
    have HB5 := Lib.hid (HB4.out.trans (hb5.mono HB4.out.size))
    have HQ5 := Lib.hid ((HQ4.out.take k).later hb5)
    clear hb5
    go_wp2_with fail
    refine (reads_any (some ⟨g, 0, none⟩) (z2.take k) k c3 _ (by rw [List.length_take, HL2.out]; omega) (by omega) hcm (by omega) HQ5.out).mono ?_
    rintro e w6 ⟨rfl, hb6⟩
    have HB6 := Lib.hid (HB5.out.trans (hb6.mono HB5.out.size))
    clear hb6
    go_wp2_with fail
    go_ret
    exact ⟨rfl, HB6.out⟩

namespace ItemDecodes
set_option linter.unusedSimpArgs false in
set_option maxRecDepth 100000 in
theorem lifted (os : Os) (started : os.Started) (H : Type) (enc : TypeId × Value → H) :
    ReturnsInHanded {} Try.checked os 6 .any (Rows.itemDecodesSpec.pre6 enc Try.prog Try.f6 Rows.itemDecodesRow.domain false) (Rows.itemDecodesSpec.post enc Try.prog Try.f6 false true false false) := by
  refine returnsInHanded_of_change (C := Try.checked) own started (by kernel_rfl) Try.func6
    (ChangeSpec.witness6 (enc := enc) (C := Try.checked) false ⟨#[], #[.slice none 0 0, .slice none 0 0, .int .u8 0, .int .u8 0, .bool false], []⟩ 8 (by kernel_rfl) (by kernel_rfl) (by kernel_rfl) (by kernel_rfl)) ?_
  intro W base args ds gs before hval0 hW _ _
  have hval : ∀ (j : Nat) t v, Try.f6.params[j]? = some t → args[j]? = some v → Value.okWide Try.prog W .any base t v := hval0
  have hW' := hW
  obtain ⟨p, q, hA0, hV, rfl, _, _⟩ := hW
  have hA : DataW.TrodAll enc Try.prog W 0 (fun _ => true) true Try.f6.params.toList args.toList ds p := hA0
  rw [Try.params6] at hA hval
  obtain ⟨v0, vs0, d0, ds0, p0, q0, hargs, rfl, rfl, h0, r0⟩ := trodAll_cons hA
  obtain ⟨v1, vs1, d1, ds1, p1, q1, rfl, rfl, rfl, h1, r1⟩ := trodAll_cons r0
  obtain ⟨v2, vs2, d2, ds2, p2, q2, rfl, rfl, rfl, h2, r2⟩ := trodAll_cons r1
  obtain ⟨v3, vs3, d3, ds3, p3, q3, rfl, rfl, rfl, h3, r3⟩ := trodAll_cons r2
  obtain ⟨v4, vs4, d4, ds4, p4, q4, rfl, rfl, rfl, h4, r4⟩ := trodAll_cons r3
  obtain ⟨rfl, rfl, rfl⟩ := trodAll_nil r4
  obtain rfl : args = #[v0, v1, v2, v3, v4] := by cases args; simp_all
  obtain ⟨rfl, rfl⟩ := trodVars_none hV
  obtain ⟨A0, cs0, cap0, rfl, l0, m0, b0, again0⟩ := arg_bytes (hval 0 22 v0 rfl rfl) h0
  have x0 := arg_extra h0
  obtain ⟨A1, cs1, cap1, rfl, l1, m1, b1, again1⟩ := arg_bytes (hval 1 22 v1 rfl rfl) h1
  have x1 := arg_extra h1
  obtain ⟨a2, rfl, rfl, rfl, w2⟩ := open_int Try.underlying5 (hval 2 5 v2 rfl rfl) h2
  have k2 := wf_u8 w2
  obtain ⟨n2, rfl⟩ : ∃ u : UInt8, a2 = (u.toNat : Int) := ⟨UInt8.ofNat a2.toNat, by simp; omega⟩
  obtain ⟨a3, rfl, rfl, rfl, w3⟩ := open_int Try.underlying5 (hval 3 5 v3 rfl rfl) h3
  have k3 := wf_u8 w3
  obtain ⟨n3, rfl⟩ : ∃ u : UInt8, a3 = (u.toNat : Int) := ⟨UInt8.ofNat a3.toNat, by simp; omega⟩
  obtain ⟨pick, rfl, rfl, rfl⟩ := open_bool Try.underlying4 (hval 4 4 v4 rfl rfl) h4
  clear hA0 hval0
  simp only [List.append_nil] at hW'
  refine (decodes_walk A0 cs0 _ cap0 A1 cs1 _ cap1 n2.toNat n3 pick W n2.toNat_lt rfl l0 m0 b0 rfl l1 m1 b1).mono fun e W' ⟨he, hg⟩ => ?_
  subst he
  exact ⟨_, rfl, true_last hW' rfl (by kernel_rfl) Try.underlying4 rfl rfl rfl (of_decide_eq_true (by kernel_rfl)) hg⟩

/-- **ItemDecodes, at every input.** -/
theorem proved : Rows.ItemDecodesSaid :=
  OpenClaim.holds_of_wide 6 Try.f6 rfl rfl rfl rfl rfl rfl rfl ⟨rfl, rfl, rfl, rfl, rfl⟩ rfl rfl rfl rfl rfl (by kernel_rfl) Try.func6 (by kernel_rfl)
    (of_decide_eq_true (by kernel_rfl)) (by unfold Func.isWrapper; first | (rw [if_pos (by decide +kernel)]; kernel_rfl) | (rw [if_neg (by decide +kernel)]; exact ⟨rfl, rfl⟩))
    (fun os started H enc _ => lifted os started H enc)
end ItemDecodes

end Go.Proofs.Ytklgggolkclebaa
