/-
  Proved: FrameBends returns true for every slice of bytes, place and byte: bytes of which one is another one have another sum; a frame of which a byte behind its length is another one is told to be wrong. No condition.
-/
import Derived.Laws.OwnMore
import Derived.Test.YtibmiffiinninaaBytesLift
import Derived.Test.YtibmiffiinninaaFrameKnown
namespace Go.Proofs.Ytibmiffiinninaa
open Go.ChangeShapes Go.WideShapes Go.ChangeAt Go.RowKit Go.Proofs.NumMath Go.Proofs.FrameMath

theorem set_split {cs : List UInt8} {k : Nat} (h : k < cs.length) (y : UInt8) : cs = cs.take k ++ cs.getD k 0 :: cs.drop (k + 1) ∧ cs.set k y = cs.take k ++ y :: cs.drop (k + 1) := by
  refine ⟨?_, List.set_eq_take_append_cons_drop ▸ by rw [if_pos h]⟩
  have e : cs.getD k 0 = cs[k] := by simp [h]
  rw [e, ← List.drop_eq_getElem_cons h, List.take_append_drop]
theorem sum_set {cs : List UInt8} {k : Nat} (h : k < cs.length) {y : UInt8} (hy : y ≠ cs.getD k 0) : sum (cs.set k y) ≠ sum cs := by
  obtain ⟨h1, h2⟩ := set_split h y
  intro he
  rw [h2] at he
  have e : sum cs = sum (cs.take k ++ cs.getD k 0 :: cs.drop (k + 1)) := by rw [← h1]
  rw [e] at he
  exact hy (sum_bent _ _ _ _ he)
theorem set_ne {cs : List UInt8} {k : Nat} (h : k < cs.length) {y : UInt8} (hy : y ≠ cs.getD k 0) : cs.set k y ≠ cs := fun he => by
  have : (cs.set k y).getD k 0 = cs.getD k 0 := by rw [he]
  simp [h] at this
  simp [h] at hy
  exact hy this
/-- **A frame of which a byte behind its length is another one is told to be wrong.** -/
theorem take_bent {cs : List UInt8} {p : Nat} (hp : p < 4 + cs.length) (hl : cs.length ≤ 4096) {y : UInt8} (hy : y ≠ (frame cs).getD ((put cs.length).length + p) 0) :
    take ((frame cs).set ((put cs.length).length + p) y) 0 = ([], 0, 30) := by
  have hf : frame cs = put cs.length ++ (four (sum cs) ++ cs) := rfl
  have e0 : (frame cs).set ((put cs.length).length + p) y = put cs.length ++ ((four (sum cs) ++ cs).set p y) := by
    rw [hf, List.set_append_right _ _ (by omega), Nat.add_sub_cancel_left]
  have e1 : (frame cs).getD ((put cs.length).length + p) 0 = (four (sum cs) ++ cs).getD p 0 := by
    rw [hf]; simp [List.getElem?_append_right]
  rw [e1] at hy
  rw [e0]
  by_cases h4 : p < 4
  · have e2 : (four (sum cs) ++ cs).set p y = (four (sum cs)).set p y ++ cs := List.set_append_left _ _ (by rw [four_length]; exact h4)
    have e3 : (four (sum cs) ++ cs).getD p 0 = (four (sum cs)).getD p 0 := by simp [List.getElem?_append_left (show p < (four (sum cs)).length by rw [four_length]; exact h4)]
    rw [e3] at hy
    rw [e2]
    have h := take_at [] ((four (sum cs)).set p y) cs [] (by simp [four_length]) hl
    rw [if_neg (set_ne (by rw [four_length]; exact h4) hy)] at h
    simpa using h
  · have e2 : (four (sum cs) ++ cs).set p y = four (sum cs) ++ cs.set (p - 4) y := List.set_append_right _ _ (by rw [four_length]; omega)
    have e3 : (four (sum cs) ++ cs).getD p 0 = cs.getD (p - 4) 0 := by simp [List.getElem?_append_right (show (four (sum cs)).length ≤ p by rw [four_length]; omega), four_length]
    rw [e3] at hy
    rw [e2]
    have h := take_at [] (four (sum cs)) (cs.set (p - 4) y) [] (four_length _) (by simpa using hl)
    rw [if_neg (fun he => sum_set (by omega) hy (four_inj (sum_lt _) (sum_lt _) he).symm)] at h
    simpa using h

/-- Another byte. -/
theorem bend (x v : UInt8) (hv : v.toNat ≠ 0) : ∃ y : UInt8, bits .xor .u8 (x.toNat : Int) (v.toNat : Int) = (y.toNat : Int) ∧ y ≠ x := by
  refine ⟨x ^^^ v, by rw [u8_xor_nat _ _ x.toNat_lt v.toNat_lt]; simp, fun h => hv ?_⟩
  have h1 := congrArg UInt8.toNat h
  rw [UInt8.toNat_xor] at h1
  have h2 : v.toNat = 0 := xor_cancel_left (c := x.toNat) (by simpa using h1)
  exact h2

theorem take_wrong (A : Option Addr) (cs : List UInt8) (fl pl cap p : Nat) (y : UInt8) (w : World) (hfl : (frame cs).length = fl) (hpl : (put cs.length).length = pl) (hl : cs.length ≤ 4096) (hp : p < 4 + cs.length) (hc : fl ≤ cap) (hm : cap ≤ 9223372036854775807) (hy : y ≠ (frame cs).getD (pl + p) 0)
    (hr : Holds8 w.heap.size w A ((frame cs).set (pl + p) y)) :
    Calls Try.prog 11 #[.slice A fl cap, .int .i64 0] w fun e w' => ∃ A' c', e = .returned (.tuple #[.slice A' 0 c', .int .i64 0, .int .u16 30]) ∧ Below w.heap.size w w' := by
  have hlen : ((frame cs).set (pl + p) y).length = fl := by simpa using hfl
  have h := take_any A ((frame cs).set (pl + p) y) cap 0 w (by omega) hm hr
  subst hpl
  rw [hlen, take_bent hp hl hy] at h
  exact h.mono fun _ _ ⟨A', c', he, _, hb⟩ => ⟨A', c', he, hb⟩
theorem sum_held (A : Option Addr) (cs : List UInt8) (len cap : Nat) (w : World) (hlen : cs.length = len) (hl : len ≤ 9223372036854775807) (hr : Holds8 w.heap.size w A cs) :
    Calls Try.prog 15 #[.slice A len cap] w fun e w' => e = .returned (.int .u32 (sum cs : Int)) ∧ w = w' := by
  subst hlen
  exact sum_any A cs cap w hl hr

set_option maxRecDepth 100000 in
set_option maxHeartbeats 2000000 in
theorem bends_walk (A : Option Addr) (cs : List UInt8) (cap n : Nat) (v : UInt8) (w : World) (hn : n ≤ 65535) (_hl : cs.length ≤ cap) (_hm : cap ≤ 9223372036854775807) (hr : Holds8 w.heap.size w A cs) (hA : A = none → cap = 0) :
    Calls Try.prog 8 #[.slice A cs.length cap, .int .u16 (n : Int), .int .u8 (v.toNat : Int)] w fun e w' => e = .returned (.bool true) ∧ Below w.heap.size w w' := by
  obtain ⟨len, hlen⟩ : ∃ len, cs.length = len := ⟨_, rfl⟩
  rw [hlen] at _hl ⊢
  have HL := Lib.hid hlen
  have HR := Lib.hid hr
  have HA := Lib.hid hA
  have hvl := v.toNat_lt
  clear hlen hr hA
  by_cases h0 : len = 0
  · have d0 : ((len : Int) == 0) = true := by simp; exact h0
    go_enter Try.func8, Try.ntmps8
    go_wp2_with fail
    refine (known_any _).mono ?_
    rintro e w1 ⟨rfl, hb1⟩
    go_wp2_with fail
    go_ret
    exact ⟨rfl, hb1⟩
  have d0 : ((len : Int) == 0) = false := by simp; exact h0
  by_cases h1 : 300 < len
  · have d1 : decide ((300 : Int) < (len : Int)) = true := by simp; omega
    go_enter Try.func8, Try.ntmps8
    go_wp2_with fail
    refine (known_any _).mono ?_
    rintro e w1 ⟨rfl, hb1⟩
    go_wp2_with fail
    go_ret
    exact ⟨rfl, hb1⟩
  have d1 : decide ((300 : Int) < (len : Int)) = false := by simp; omega
  by_cases h2 : v.toNat = 0
  · have d2 : ((v.toNat : Int) == 0) = true := by simp; exact h2
    go_enter Try.func8, Try.ntmps8
    go_wp2_with fail
    refine (known_any _).mono ?_
    rintro e w1 ⟨rfl, hb1⟩
    go_wp2_with fail
    go_ret
    exact ⟨rfl, hb1⟩
  have d2 : ((v.toNat : Int) == 0) = false := by simp; exact h2
  have H2 := Lib.hid h2
  have t1 : (n : Int).tmod (len : Int) = ((n % len : Nat) : Int) := by rw [Int.tmod_eq_emod_of_nonneg (by omega)]; simp
  have t2 : (n : Int).tmod ((len : Int) + 4) = ((n % (len + 4) : Nat) : Int) := by rw [Int.tmod_eq_emod_of_nonneg (by omega)]; simp
  obtain ⟨k, hk, hkl⟩ : ∃ k, n % len = k ∧ k < len := ⟨_, rfl, Nat.mod_lt _ (by omega)⟩
  obtain ⟨q, hq, hql⟩ : ∃ q, n % (len + 4) = q ∧ q < len + 4 := ⟨_, rfl, Nat.mod_lt _ (by omega)⟩
  rw [hk] at t1
  rw [hq] at t2
  clear hk hq h2
  go_enter Try.func8, Try.ntmps8
  go_wp2_with fail
  refine (known_any _).mono ?_
  rintro e w1 ⟨rfl, hB1⟩
  have hS1 := hB1.size
  obtain ⟨x, hx⟩ : ∃ x, cs.getD k 0 = x := ⟨_, rfl⟩
  obtain ⟨y, hy, hyx⟩ := bend x v H2.out
  have HYX := Lib.hid hyx
  have HX := Lib.hid hx
  clear hyx hx
  go_wp2_with (at_builtin; refine app_bytes rfl (.tmp 31) (.tmp 32) rfl w.heap.size w.heap.size (.slice none 0 0) [] cs cs len rfl HL.out rfl own_none A len cap rfl HL.out (HR.out.below hB1) HA.out (by omega) hS1 ?_; intro A2 c2 w2 hown2 hg2; have hB2 := below_grown hB1 hS1 own_none hg2; have hS2 := hB2.size; obtain ⟨g, hA2, hg, hcell, hfroz⟩ := own_parts hown2 (by rw [HL.out]; omega); subst hA2; have hck := hcell k (by rw [HL.out]; exact hkl); have hfk := hfroz k (by rw [HL.out]; exact hkl); rw [HX.out] at hck; unfold b8 at hck; have hxl := x.toNat_lt; have hc2 := (own_facts hown2).1; rw [HL.out] at hc2; have HO2 := Lib.hid hown2; clear hown2 hg2 hcell hfroz)
  have HG := Lib.hid (own_set HO2.out HL.out.symm hg hB2 k y)
  have HLc : Hid ((cs.set k y).length = len) := Lib.hid (by rw [List.length_set, HL.out])
  have hneq : sum (cs.set k y) ≠ sum cs := sum_set (by rw [HL.out]; exact hkl) (by rw [HX.out]; exact HYX.out)
  have HNE := Lib.hid hneq
  clear hneq
  have hb2 := HG.out.2
  have hS2' := hb2.size
  clear hB2 hS2 hck hfk hy t1
  obtain ⟨pl, hpl⟩ : ∃ pl, (put len).length = pl := ⟨_, rfl⟩
  have hpp := put_pos len
  have hp10 := put_len10 (n := len) (by omega)
  have hfl : (frame cs).length = pl + 4 + len := by rw [frame_length, HL.out, hpl]
  rw [hpl] at hpp hp10
  have HP : Hid ((put cs.length).length = pl) := Lib.hid (by rw [HL.out]; exact hpl)
  have HF := Lib.hid hfl
  clear hpl hfl
  refine (frame_fits A cs len cap (pl + 4 + len) _ HL.out HF.out (by omega) (HR.out.later hb2) HA.out).mono ?_
  rintro e w3 ⟨A3, c3, rfl, hown3, hb3⟩
  have hB3 := hb2.trans (hb3.mono hS2')
  have HC3 := Lib.hid ((own_facts HG.out.1).2.2.later hb3)
  obtain ⟨g3, hA3, hg3, hcell3, hfroz3⟩ := own_parts hown3 (by rw [HF.out]; omega)
  subst hA3
  obtain ⟨p, hp, hpl⟩ : ∃ p, p = len + 3 - q ∧ p < 4 + len := ⟨_, rfl, by omega⟩
  have hpi : ((pl + 4 + len : Nat) : Int) - 1 - (q : Int) = ((pl + p : Nat) : Int) := by omega
  have hpj : (pl : Int) + 4 + (len : Int) - 1 - (q : Int) = (pl : Int) + (p : Int) := by omega
  have hcp := hcell3 (pl + p) (by rw [HF.out]; omega)
  have hfp := hfroz3 (pl + p) (by rw [HF.out]; omega)
  obtain ⟨x3, hx3⟩ : ∃ x3, (frame cs).getD (pl + p) 0 = x3 := ⟨_, rfl⟩
  rw [hx3] at hcp
  unfold b8 at hcp
  obtain ⟨y3, hy3, hyx3⟩ := bend x3 v H2.out
  have HX3 := Lib.hid hx3
  have HYX3 := Lib.hid hyx3
  have HG3 := Lib.hid (own_set hown3 HF.out.symm hg3 (Below.refl _ _ |>.trans hb3) (pl + p) y3)
  have hc3 := (own_facts hown3).1
  have hm3 := (own_facts hown3).2.1
  rw [HF.out] at hc3
  have hx3l := x3.toNat_lt
  have d3 : decide ((pl : Int) + 4 + (len : Int) < (len : Int) + 5) = false := by simp; omega
  clear hown3 hcell3 hfroz3 hx3 hyx3 hp
  go_wp2_with fail
  have hB3' := hb2.trans (HG3.out.2.mono hS2')
  have HC4 := Lib.hid ((own_facts HG.out.1).2.2.later HG3.out.2)
  refine (take_wrong (some ⟨g3, 0, none⟩) cs (pl + 4 + len) pl c3 p y3 _ HF.out HP.out (by rw [HL.out]; omega) (by rw [HL.out]; exact hpl) hc3 hm3 (by rw [HX3.out]; exact HYX3.out) (own_facts HG3.out.1).2.2).mono ?_
  rintro e w4 ⟨A4, c4, rfl, hb4⟩
  have HC5 := Lib.hid (HC4.out.later hb4)
  have hB4 := hB3'.trans (hb4.mono hB3'.size)
  have hneq : ((sum (cs.set k y) : Int) != (sum cs : Int)) = true := by have := HNE.out; simp; omega
  have HSC := Lib.hid (sum_held (some ⟨g, 0, none⟩) (cs.set k y) len c2 w4 HLc.out (by omega) HC5.out)
  have HSB := Lib.hid (sum_held A cs len cap w4 HL.out (by omega) (HR.out.later hB4))
  generalize sum (cs.set k y) = s1 at hneq HSC
  generalize sum cs = s2 at hneq HSB
  clear hb4 hB3' HC4 HG3 HC3 hb3 hB3 hcp hfp hy3 hpi hpj t2 hg3 HG HC5
  go_wp2_with fail
  refine HSC.out.mono ?_
  rintro e w5 ⟨rfl, rfl⟩
  go_wp2_with fail
  refine HSB.out.mono ?_
  rintro e w5 ⟨rfl, rfl⟩
  go_wp2_with fail
  go_ret
  exact ⟨rfl, hB4⟩

namespace FrameBends
set_option linter.unusedSimpArgs false in
set_option maxRecDepth 100000 in
theorem lifted (os : Os) (started : os.Started) (H : Type) (enc : TypeId × Value → H) :
    ReturnsInHanded {} Try.checked os 8 .any (Rows.frameBendsSpec.pre6 enc Try.prog Try.f8 Rows.frameBendsRow.domain false) (Rows.frameBendsSpec.post enc Try.prog Try.f8 false true false false) := by
  refine returnsInHanded_of_change (C := Try.checked) own started (by kernel_rfl) Try.func8
    (ChangeSpec.witness6 (enc := enc) (C := Try.checked) false ⟨#[], #[.slice none 0 0, .int .u16 0, .int .u8 0], []⟩ 8 (by kernel_rfl) (by kernel_rfl) (by kernel_rfl) (by kernel_rfl)) ?_
  intro W base args ds gs before hval0 hW _ _
  have hval : ∀ (j : Nat) t v, Try.f8.params[j]? = some t → args[j]? = some v → Value.okWide Try.prog W .any base t v := hval0
  have hW' := hW
  obtain ⟨p, q, hA0, hV, rfl, _, _⟩ := hW
  have hA : DataW.TrodAll enc Try.prog W 0 (fun _ => true) true Try.f8.params.toList args.toList ds p := hA0
  rw [Try.params8] at hA hval
  obtain ⟨v0, vs0, d0, ds0, p0, q0, hargs, rfl, rfl, h0, r0⟩ := trodAll_cons hA
  obtain ⟨v1, vs1, d1, ds1, p1, q1, rfl, rfl, rfl, h1, r1⟩ := trodAll_cons r0
  obtain ⟨v2, vs2, d2, ds2, p2, q2, rfl, rfl, rfl, h2, r2⟩ := trodAll_cons r1
  obtain ⟨rfl, rfl, rfl⟩ := trodAll_nil r2
  obtain rfl : args = #[v0, v1, v2] := by cases args; simp_all
  obtain ⟨rfl, rfl⟩ := trodVars_none hV
  obtain ⟨A0, cs0, cap0, rfl, l0, m0, b0, again0⟩ := arg_bytes (hval 0 23 v0 rfl rfl) h0
  have x0 := arg_extra h0
  obtain ⟨a1, rfl, rfl, rfl, w1⟩ := open_int Try.underlying22 (hval 1 22 v1 rfl rfl) h1
  have k1 := wf_u16 w1
  obtain ⟨n1, rfl⟩ : ∃ n : Nat, a1 = n := ⟨a1.toNat, by omega⟩
  obtain ⟨a2, rfl, rfl, rfl, w2⟩ := open_int Try.underlying5 (hval 2 5 v2 rfl rfl) h2
  have k2 := wf_u8 w2
  obtain ⟨n2, rfl⟩ : ∃ u : UInt8, a2 = (u.toNat : Int) := ⟨UInt8.ofNat a2.toNat, by simp; omega⟩
  clear hA0 hval0
  simp only [List.append_nil] at hW'
  refine (bends_walk A0 cs0 cap0 n1 n2 W (by omega) l0 m0 b0 x0.1).mono fun e W' ⟨he, hg⟩ => ?_
  subst he
  exact ⟨_, rfl, true_post hW' rfl (by kernel_rfl) Try.underlying4 rfl rfl (fun sp hsp => by have h := (trodAll_cons_mk (again0 W' sp hg (fun x hx => hsp x (by simp [hx]))) (trodAll_cons_mk (shut_int Try.underlying22 w1) (trodAll_cons_mk (shut_int Try.underlying5 w2) trodAll_mk0))); simp only [List.append_nil, List.nil_append] at h; exact h) hg⟩

/-- **FrameBends, at every input.** -/
theorem proved : Rows.FrameBendsSaid :=
  OpenClaim.holds_of_wide 8 Try.f8 rfl rfl rfl rfl rfl rfl rfl ⟨rfl, rfl, rfl, rfl, rfl⟩ rfl rfl rfl rfl rfl (by kernel_rfl) Try.func8 (by kernel_rfl)
    (of_decide_eq_true (by kernel_rfl)) (by unfold Func.isWrapper; first | (rw [if_pos (by decide +kernel)]; kernel_rfl) | (rw [if_neg (by decide +kernel)]; exact ⟨rfl, rfl⟩))
    (fun os started H enc _ => lifted os started H enc)
end FrameBends

end Go.Proofs.Ytibmiffiinninaa
