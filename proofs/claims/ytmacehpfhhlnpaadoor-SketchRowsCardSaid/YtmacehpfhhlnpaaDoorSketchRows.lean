/-
  Proved: SketchRows returns true for every seed, shape and keys: a sketch with more rows, the first of which is the same, counts no key higher. No condition but the card's own: hash's table of steps, tied to the program's text, holds at the start what that text lays.
-/
import Derived.Test.YtmacehpfhhlnpaaDoorSkOn
namespace Go.Proofs.YtmacehpfhhlnpaaDoor
open Go.ChangeShapes Go.WideShapes Go.ChangeAt Go.RowKit Go.Proofs.HashMath Go.Proofs.SkMath

theorem least_first {r : Nat} {p : Nat → Nat} {f g : Nat → Nat → Nat} (hr : 1 ≤ r) (h : ∀ j, f 0 j ≤ g 0 j) (hg : ∀ i j, g i j < 18446744073709551616) : least p f r ≤ least p g 1 := by
  have h1 := least_le (p := p) (f := f) (k := r) (i := 0) (by omega)
  have h2 := h (p 0)
  have h3 := hg 0 (p 0)
  have h4 : least p g 1 = min 18446744073709551615 (g 0 (p 0)) := rfl
  omega

set_option maxRecDepth 100000 in
set_option maxHeartbeats 2000000 in
theorem sketchRows_walk (seed : Nat) (a b : Nat) (A0 : Option Addr) (cs : List UInt8) (cap : Nat) (hx : seed < 18446744073709551616) (ha : a ≤ 255) (hb : b ≤ 255) (hcap : cs.length ≤ cap) (w : World) (hH : Holds8 w.heap.size w A0 cs) (hS : Steps w) :
    Calls Tryd.prog 6 #[.int .u64 (seed : Int), .int .u8 (a : Int), .int .u8 (b : Int), .slice A0 cs.length cap] w fun e w' => e = .returned (.bool true) ∧ Below w.heap.size w w' := by
  obtain ⟨N, hN⟩ : ∃ N, cs.length = N := ⟨_, rfl⟩
  rw [hN] at hcap ⊢
  obtain ⟨r, hr, hr1, hr8⟩ : ∃ r : Nat, (1 : Int) + (a : Int) % 4 = (r : Int) ∧ 1 ≤ r ∧ r ≤ 8 := ⟨1 + a % 4, by omega, by omega, by omega⟩
  obtain ⟨m, hm, hm1, hm2⟩ : ∃ m : Nat, (1 : Int) + (b : Int) % 10 = (m : Int) ∧ 1 ≤ m ∧ m ≤ 1024 := ⟨1 + b % 10, by omega, by omega, by omega⟩
  have hlt := hS.lt
  obtain ⟨n0, hn0⟩ : ∃ n0, w.heap.size = n0 := ⟨_, rfl⟩
  rw [hn0] at hH hlt ⊢
  have hNew := on_new (w := w) (W := w) r m seed hS hlt (by omega) (Below.refl _ _) hr1 hr8 hm1 hm2 hx
  have hNew2 := fun W (h1 : n0 ≤ W.heap.size) (h2 : Below n0 w W) => on_new (w := w) (W := W) 1 m seed hS hlt h1 h2 (by omega) (by omega) hm1 hm2 hx
  have HNEW := Lib.hid hNew
  have HNEW2 := Lib.hid hNew2
  have HN := Lib.hid hN
  have HH := Lib.hid hH
  clear hNew hNew2 hN hn0 hH hS
  by_cases hbig : 60 < N
  · have d1 : decide ((60 : Int) < (N : Int)) = true := by simp; omega
    go_enter Tryd.func6, Tryd.ntmps6
    go_wp2_with fail
    refine HNEW.out.mono ?_
    rintro e w1 ⟨S, A, G, rfl, g, _, _, _, hO⟩
    have HO := Lib.hid hO
    clear hO
    go_wp2_with fail
    refine (HNEW2.out _ HO.out.le HO.out.b).mono ?_
    rintro e w2 ⟨S2, A2, G2, rfl, g2, _, _, _, hO2⟩
    have HO2 := Lib.hid hO2
    clear hO2
    go_wp2_with fail
    refine (known_any _ HO2.out.steps).mono ?_
    rintro e w3 ⟨rfl, g3⟩
    have hB := Lib.hid (HO2.out.later g3).b
    clear g g2 g3
    go_wp2_with fail
    go_ret
    exact ⟨rfl, hB.out⟩
  have d1 : decide ((60 : Int) < (N : Int)) = false := by simp; omega
  go_enter Tryd.func6, Tryd.ntmps6
  go_wp2_with fail
  refine HNEW.out.mono ?_
  rintro e w1 ⟨S, A, G, rfl, _, _, _, _, hO⟩
  have HO := Lib.hid hO
  clear hO
  go_wp2_with fail
  refine (HNEW2.out _ HO.out.le HO.out.b).mono ?_
  rintro e w2 ⟨S2, A2, G2, rfl, g2, hs2, ha2, hg2, hO2⟩
  have hd : Hid ((S2 ∉ [S, G] ∧ A2 ∉ [S, G] ∧ G2 ∉ [S, G]) ∧ (S ∉ [S2, G2] ∧ A ∉ [S2, G2] ∧ G ∉ [S2, G2])) := Lib.hid (by
    have h1 := HO.out.k.own.lt
    have h2 := HO.out.k.ltA
    have h3 := HO.out.k.ltG
    simp
    omega)
  have HO1 := Lib.hid (HO.out.later g2)
  have HO2 := Lib.hid hO2
  clear hO2 g2 hs2 ha2 hg2 HO
  go_wp2_with fail
  refine (known_any _ HO2.out.steps).mono ?_
  rintro e w3 ⟨rfl, g3⟩
  have HA := Lib.hid (HO1.out.later g3)
  have HB := Lib.hid (HO2.out.later g3)
  clear g3 HO1 HO2
  go_wp2_with fail
  go_loopw [12] (fun kv wr => ∃ k : Nat, k ≤ N ∧ kv = .int .i64 (k : Int) ∧ Hid (∃ f g t u, On n0 w wr S A G r m seed f t ∧ On n0 w wr S2 A2 G2 1 m seed g u ∧ ∀ j, f 0 j ≤ g 0 j)) (fun kv _ => N - (intOf kv).toNat)
  case atStart => exact ⟨0, by omega, rfl, Lib.hid ⟨_, _, _, _, HA.out, HB.out, fun _ => Nat.le_refl _⟩⟩
  case round =>
    obtain ⟨k, hk, rfl, HF⟩ := hrel
    by_cases hlt : k < N
    · have dl : decide ((k : Int) < (N : Int)) = true := by simp; omega
      obtain ⟨f, g, t, u, hO, hP, hf⟩ := HF.out
      obtain ⟨bb, off, rfl, hbl, hc⟩ := HH.out (by rw [HN.out]; omega)
      have hcl := hc k (by rw [HN.out]; exact hlt)
      obtain ⟨c, hcv⟩ : ∃ c, cs.getD k 0 = c := ⟨_, rfl⟩
      rw [hcv] at hcl
      unfold b8 at hcl
      have hcu := c.toNat_lt
      obtain ⟨y, hy⟩ : ∃ y : Nat, (c.toNat : Int) = (y : Int) := ⟨_, rfl⟩
      have hyl : y ≤ 255 := by omega
      rw [hy] at hcl
      have HCL := Lib.hid hcl
      have hcl1 : wr.cell? ⟨bb, off + k, none⟩ = some (.int .u8 (y : Int)) := (hO.b.cell (p := ⟨bb, off + k, none⟩) hbl).trans hcl
      have HO := Lib.hid hO
      have HP := Lib.hid hP
      have HFL := Lib.hid hf
      clear hO hP hf hc hcv hy HF hcl
      go_wp2_with fail
      refine (key_any y _ hyl).mono ?_
      rintro e w4 ⟨rfl, g4⟩
      have HO4 := Lib.hid (HO.out.later g4)
      have HP4 := Lib.hid (HP.out.later g4)
      clear g4
      go_wp2_with fail
      refine (HO4.out.add (keyT (y % 12)) (keyT_size _) 1 (by omega)).mono ?_
      rintro e w5 ⟨rfl, g5, hO5⟩
      have HP5 := Lib.hid (HP4.out.mut g5 (by have := hO5.sn; have := hO5.gn; simp; omega) hd.out.1.1 hd.out.1.2.1 hd.out.1.2.2)
      have HO5 := Lib.hid hO5
      have hcl5 : w5.cell? ⟨bb, off + k, none⟩ = some (.int .u8 (y : Int)) := (hO5.b.cell (p := ⟨bb, off + k, none⟩) hbl).trans HCL.out
      clear g5 hO5
      go_wp2_with fail
      refine (key_any y _ hyl).mono ?_
      rintro e w6 ⟨rfl, g6⟩
      have HO6 := Lib.hid (HO5.out.later g6)
      have HP6 := Lib.hid (HP5.out.later g6)
      clear g6
      go_wp2_with fail
      refine (HP6.out.add (keyT (y % 12)) (keyT_size _) 1 (by omega)).mono ?_
      rintro e w7 ⟨rfl, g7, hP7⟩
      have HO7 := Lib.hid (HO6.out.mut g7 (by have := hP7.sn; have := hP7.gn; simp; omega) hd.out.2.1 hd.out.2.2.1 hd.out.2.2.2)
      have HP7 := Lib.hid hP7
      clear g7 hP7
      go_wp2_with fail
      go_roundw
      case rel => exact ⟨k + 1, by omega, by go_num, Lib.hid ⟨_, _, _, _, HO7.out, HP7.out, fun j => add_first hr1 rfl HP6.out.k.fLt HFL.out j⟩⟩
      case measure => simp [intOf]; omega
    · obtain rfl : k = N := by omega
      have dl : decide ((k : Int) < (k : Int)) = false := by simp
      obtain ⟨f, g, t, u, hO, hP, hf⟩ := HF.out
      have HO := Lib.hid hO
      have HP := Lib.hid hP
      have HFL := Lib.hid hf
      clear hO hP hf HF
      go_wp2_with fail
      go_loopw [13] (fun kv wx => ∃ i : Nat, i ≤ 12 ∧ kv = .int .i64 (i : Int) ∧ Hid (On n0 w wx S A G r m seed f t ∧ On n0 w wx S2 A2 G2 1 m seed g u)) (fun kv _ => 12 - (intOf kv).toNat)
      case atStart => exact ⟨0, by omega, rfl, Lib.hid ⟨HO.out, HP.out⟩⟩
      case round =>
        obtain ⟨i, hi, rfl, HR⟩ := hrel
        by_cases hlt : i < 12
        · have dl : decide ((i : Int) < 12) = true := by simp; omega
          have hi2 : i ≤ 255 := by omega
          obtain ⟨x, hx⟩ : ∃ x, least (placeOf seed (keyT (i % 12)).data.toList m) f r = x := ⟨_, rfl⟩
          obtain ⟨z, hz⟩ : ∃ z, least (placeOf seed (keyT (i % 12)).data.toList m) g 1 = z := ⟨_, rfl⟩
          have hxz : x ≤ z := hx ▸ hz ▸ least_first hr1 HFL.out HP.out.k.fLt
          have e1 : decide (z < x) = false := by simp; omega
          have HX := Lib.hid hx
          have HZ := Lib.hid hz
          clear hx hz hxz
          go_wp2_with fail
          refine (key_any i _ hi2).mono ?_
          rintro e w4 ⟨rfl, g4⟩
          have HR4 := Lib.hid (And.intro (HR.out.1.later g4) (HR.out.2.later g4))
          clear g4
          go_wp2_with fail
          refine (HR4.out.1.count (keyT (i % 12)) (keyT_size _) HX.out).mono ?_
          rintro e w5 ⟨rfl, g5⟩
          have HR5 := Lib.hid (And.intro (HR4.out.1.later g5) (HR4.out.2.later g5))
          clear g5
          go_wp2_with fail
          refine (key_any i _ hi2).mono ?_
          rintro e w6 ⟨rfl, g6⟩
          have HR6 := Lib.hid (And.intro (HR5.out.1.later g6) (HR5.out.2.later g6))
          clear g6
          go_wp2_with fail
          refine (HR6.out.2.count (keyT (i % 12)) (keyT_size _) HZ.out).mono ?_
          rintro e w7 ⟨rfl, g7⟩
          have HR7 := Lib.hid (And.intro (HR6.out.1.later g7) (HR6.out.2.later g7))
          clear g7
          go_wp2_with fail
          go_roundw
          case rel => exact ⟨i + 1, by omega, by go_num, HR7⟩
          case measure => simp [intOf]; omega
        · obtain rfl : i = 12 := by omega
          have hB := Lib.hid HR.out.1.b
          go_wp2
          go_ret
          exact ⟨rfl, hB.out⟩
namespace SketchRows
set_option linter.unusedSimpArgs false in
set_option maxRecDepth 100000 in
theorem lifted (os : Os) (started : os.Started) (H : Type) (enc : TypeId × Value → H) :
    ReturnsInHanded {} Tryd.checked os 6 .any (fun w args => (Rows.sketchRowsSpec.pre enc Tryd.prog Tryd.f6 [] false w args ∧ laidMetH Tryd.prog laidL w) ∧ sizedMet enc Tryd.prog Tryd.f6 (OpenSpec.ofChange Rows.sketchRowsSpec) false w args)
      (Rows.sketchRowsSpec.post enc Tryd.prog Tryd.f6 false true false false) := by
  refine returnsInHanded_of_change_and (C := Tryd.checked) (X := fun w _ => laidMetH Tryd.prog laidL w) (fun _ _ _ hh h => h.of_heap hh) own started (by kernel_rfl) Tryd.func6
    (ChangeSpec.witness_shaped (enc := enc) (C := Tryd.checked) (os := os) (X := fun w _ => laidMetH Tryd.prog laidL w) false (World.doorLaid Tryd.prog 400 os) #[.int .u64 0, .int .u8 0, .int .u8 0, .slice none 0 0] 8 rfl (World.shaped_of_RefB (by kernel_rfl) (by kernel_rfl)) (by kernel_rfl) (by kernel_rfl) (by kernel_rfl) (door_met os _)) ?_
  intro W base args ds gs before hval0 hW _ _ hL _
  have hS := of_laid hL
  have hval : ∀ (j : Nat) t v, Tryd.f6.params[j]? = some t → args[j]? = some v → Value.okWide Tryd.prog W .any base t v := hval0
  have hW' := hW
  obtain ⟨p, q, hA0, hV, rfl, _, _⟩ := hW
  have hA : DataW.TrodAll enc Tryd.prog W 0 (fun _ => true) true Tryd.f6.params.toList args.toList ds p := hA0
  rw [Tryd.params6] at hA hval
  obtain ⟨v0, vs0, d0, ds0, p0, q0, hargs, rfl, rfl, h0, r0⟩ := trodAll_cons hA
  obtain ⟨v1, vs1, d1, ds1, p1, q1, rfl, rfl, rfl, h1, r1⟩ := trodAll_cons r0
  obtain ⟨v2, vs2, d2, ds2, p2, q2, rfl, rfl, rfl, h2, r2⟩ := trodAll_cons r1
  obtain ⟨v3, vs3, d3, ds3, p3, q3, rfl, rfl, rfl, h3, r3⟩ := trodAll_cons r2
  obtain ⟨rfl, rfl, rfl⟩ := trodAll_nil r3
  obtain rfl : args = #[v0, v1, v2, v3] := by cases args; simp_all
  obtain ⟨rfl, rfl⟩ := trodVars_none hV
  obtain ⟨a0, rfl, rfl, rfl, w0⟩ := open_int Tryd.underlying22 (hval 0 22 v0 rfl rfl) h0
  have k0 := wf_u64 w0
  obtain ⟨n0, rfl⟩ : ∃ n : Nat, a0 = n := ⟨a0.toNat, by omega⟩
  obtain ⟨a1, rfl, rfl, rfl, w1⟩ := open_int Tryd.underlying5 (hval 1 5 v1 rfl rfl) h1
  have k1 := wf_u8 w1
  obtain ⟨n1, rfl⟩ : ∃ u : UInt8, a1 = (u.toNat : Int) := ⟨UInt8.ofNat a1.toNat, by simp; omega⟩
  obtain ⟨a2, rfl, rfl, rfl, w2⟩ := open_int Tryd.underlying5 (hval 2 5 v2 rfl rfl) h2
  have k2 := wf_u8 w2
  obtain ⟨n2, rfl⟩ : ∃ u : UInt8, a2 = (u.toNat : Int) := ⟨UInt8.ofNat a2.toNat, by simp; omega⟩
  obtain ⟨A3, cs3, cap3, rfl, l3, m3, b3, again3⟩ := arg_bytes (hval 3 23 v3 rfl rfl) h3
  have x3 := arg_extra h3
  clear hA0 hval0
  simp only [List.append_nil] at hW'
  refine (sketchRows_walk n0 n1.toNat n2.toNat A3 cs3 cap3 (by omega) (by have := n1.toNat_lt; omega) (by have := n2.toNat_lt; omega) l3 W b3 hS).mono fun e W' ⟨he, hg⟩ => ?_
  subst he
  exact ⟨_, rfl, true_last hW' rfl (by kernel_rfl) Tryd.underlying4 rfl rfl rfl (of_decide_eq_true (by kernel_rfl)) hg⟩

/-- The row. -/
theorem said : Rows.SketchRowsSaid :=
  OpenClaim.holds_of_wide 6 Tryd.f6 rfl rfl rfl rfl rfl rfl rfl ⟨rfl, rfl, rfl, rfl, rfl⟩ rfl rfl rfl rfl rfl (by kernel_rfl) Tryd.func6 (by kernel_rfl)
    (of_decide_eq_true (by kernel_rfl)) (by unfold Func.isWrapper; first | (rw [if_pos (by decide +kernel)]; kernel_rfl) | (rw [if_neg (by decide +kernel)]; exact ⟨rfl, rfl⟩))
    (fun os started H enc _ => lifted os started H enc)
/-- **SketchRows, at every input: the card, its listed variables tied to the program's text.** -/
theorem proved : Rows.SketchRowsCardSaid :=
  Claim7.holds_tied_plain_at .later [] [.wider] true Rows.sketchRowsCard.stood.harness false
    said (fun _ h => by cases h) (by kernel_rfl) (fun _ h => by cases h) sketchRows_row_tie rfl ⟨rfl, rfl⟩ (by kernel_rfl) rfl
    (fun f fn hf hfn => by
      obtain rfl : f = 6 := Option.some.inj ((show Tryd.prog.funcNamed "telemeter/telemeterlaw07.SketchRows" = some 6 by kernel_rfl).symm.trans hf) |>.symm
      obtain rfl : fn = Tryd.f6 := (Option.some.inj (Tryd.func6.symm.trans hfn)).symm
      exact ⟨by kernel_rfl, fun j t ht => by
        rw [Tryd.params6] at ht
        have hm : t ∈ [22, 5, 5, 23] := by simpa using Array.mem_of_getElem? ht
        have hall : ([22, 5, 5, 23].all fun u => !Tryd.prog.wantsStandIn u) = true := by kernel_rfl
        exact (show Tryd.prog.wantsStandIn t = false by simpa using List.all_eq_true.1 hall t hm)⟩)
    (by kernel_rfl)
end SketchRows

end Go.Proofs.YtmacehpfhhlnpaaDoor
