/-
  Proved: SketchZero returns true for every seed, shape and keys: what is added no times changes nothing, and no count is above all together. No condition but the card's own: hash's table of steps, tied to the program's text, holds at the start what that text lays.
-/
import Derived.Test.YtmacehpfhhlnpaaDoorSkOn
namespace Go.Proofs.YtmacehpfhhlnpaaDoor
open Go.ChangeShapes Go.WideShapes Go.ChangeAt Go.RowKit Go.Proofs.HashMath Go.Proofs.SkMath

set_option maxRecDepth 100000 in
set_option maxHeartbeats 2000000 in
theorem sketchZero_walk (seed : Nat) (a b : Nat) (A0 : Option Addr) (cs : List UInt8) (cap : Nat) (hx : seed < 18446744073709551616) (ha : a ≤ 255) (hb : b ≤ 255) (hcap : cs.length ≤ cap) (w : World) (hH : Holds8 w.heap.size w A0 cs) (hS : Steps w) :
    Calls Tryd.prog 3 #[.int .u64 (seed : Int), .int .u8 (a : Int), .int .u8 (b : Int), .slice A0 cs.length cap] w fun e w' => e = .returned (.bool true) ∧ Below w.heap.size w w' := by
  obtain ⟨N, hN⟩ : ∃ N, cs.length = N := ⟨_, rfl⟩
  rw [hN] at hcap ⊢
  obtain ⟨r, hr, hr1, hr8⟩ : ∃ r : Nat, (1 : Int) + (a : Int) % 5 = (r : Int) ∧ 1 ≤ r ∧ r ≤ 8 := ⟨1 + a % 5, by omega, by omega, by omega⟩
  obtain ⟨m, hm, hm1, hm2⟩ : ∃ m : Nat, (1 : Int) + (b : Int) % 30 = (m : Int) ∧ 1 ≤ m ∧ m ≤ 1024 := ⟨1 + b % 30, by omega, by omega, by omega⟩
  have hlt := hS.lt
  obtain ⟨n0, hn0⟩ : ∃ n0, w.heap.size = n0 := ⟨_, rfl⟩
  rw [hn0] at hH hlt ⊢
  have hNew := on_new (w := w) (W := w) r m seed hS hlt (by omega) (Below.refl _ _) hr1 hr8 hm1 hm2 hx
  have HNEW := Lib.hid hNew
  have HN := Lib.hid hN
  have HN0 := Lib.hid hn0
  have HH := Lib.hid hH
  clear hNew hN hn0 hH hS
  by_cases hbig : 60 < N
  · have d1 : decide ((60 : Int) < (N : Int)) = true := by simp; omega
    go_enter Tryd.func3, Tryd.ntmps3
    go_wp2_with fail
    refine HNEW.out.mono ?_
    rintro e w1 ⟨S, A, G, rfl, g, _, _, _, hO⟩
    go_wp2_with fail
    refine (known_any _ hO.steps).mono ?_
    rintro e w2 ⟨rfl, g2⟩
    have hB := Lib.hid (hO.later g2).b
    clear hO g g2
    go_wp2_with fail
    go_ret
    exact ⟨rfl, hB.out⟩
  have d1 : decide ((60 : Int) < (N : Int)) = false := by simp; omega
  obtain ⟨px, hpx⟩ : ∃ px, placeOf seed (⟨#[120]⟩ : ByteArray).data.toList m = px := ⟨_, rfl⟩
  go_enter Tryd.func3, Tryd.ntmps3
  go_wp2_with fail
  refine HNEW.out.mono ?_
  rintro e w1 ⟨S, A, G, rfl, _, _, _, _, hO⟩
  have HO := Lib.hid hO
  clear hO
  go_wp2_with fail
  refine (HO.out.count ⟨#[110, 101, 118, 101, 114]⟩ (by decide) (least_0 _ hr1)).mono ?_
  rintro e w2 ⟨rfl, g⟩
  have HO2 := Lib.hid (HO.out.later g)
  clear g
  go_wp2_with fail
  refine HO2.out.total.mono ?_
  rintro e w3 ⟨rfl, rfl⟩
  go_wp2_with fail
  go_loopw [10] (fun kv wr => ∃ k tot : Nat, k ≤ N ∧ kv = .int .i64 (k : Int) ∧ Hid (tot = 2 * k) ∧ Hid (∃ f, On n0 w wr S A G r m seed f tot ∧ ∀ i j, f i j ≤ tot)) (fun kv _ => N - (intOf kv).toNat)
  case atStart => exact ⟨0, 0, by omega, rfl, rfl, Lib.hid ⟨_, HO2.out, fun _ _ => Nat.le_refl _⟩⟩
  case round =>
    obtain ⟨k, tot, hk, rfl, HT, HF⟩ := hrel
    by_cases hlt : k < N
    · have dl : decide ((k : Int) < (N : Int)) = true := by simp; omega
      obtain ⟨f, hO, hf⟩ := HF.out
      obtain ⟨bb, off, rfl, hbl, hc⟩ := HH.out (by rw [HN.out]; omega)
      have hcl := hc k (by rw [HN.out]; exact hlt)
      rw [← hO.b.cell (p := ⟨bb, off + k, none⟩) hbl] at hcl
      obtain ⟨c, hcv⟩ : ∃ c, cs.getD k 0 = c := ⟨_, rfl⟩
      rw [hcv] at hcl
      unfold b8 at hcl
      have hcu := c.toNat_lt
      obtain ⟨y, hy⟩ : ∃ y : Nat, (c.toNat : Int) = (y : Int) := ⟨_, rfl⟩
      have hyl : y ≤ 255 := by omega
      rw [hy] at hcl
      have HO := Lib.hid hO
      have HFL := Lib.hid hf
      clear hO hf hc hcv hy HF
      go_wp2_with fail
      refine (key_any y _ hyl).mono ?_
      rintro e w4 ⟨rfl, g⟩
      have HO4 := Lib.hid (HO.out.later g)
      clear g
      go_wp2_with fail
      refine (HO4.out.add (keyT (y % 12)) (keyT_size _) 2 (by omega)).mono ?_
      rintro e w5 ⟨rfl, _, hO5⟩
      have ht2 : plus tot 2 = tot + 2 := plus_small (by have := HT.out; omega)
      have hf5 := add_all (r := r) (p := placeOf seed (keyT (y % 12)).data.toList m) (n := 2) HFL.out
      obtain ⟨f5, hf5e⟩ : ∃ f5, add r (placeOf seed (keyT (y % 12)).data.toList m) 2 f = f5 := ⟨_, rfl⟩
      rw [hf5e, ht2] at hO5
      rw [hf5e] at hf5
      obtain ⟨x, hx⟩ : ∃ x, least px f5 r = x := ⟨_, rfl⟩
      have hxl : x ≤ tot + 2 := hx ▸ least_all hr1 hf5
      obtain ⟨t5, ht5⟩ : ∃ t5, tot + 2 = t5 := ⟨_, rfl⟩
      rw [ht5] at hO5 hf5 hxl
      have HT5 : Hid (t5 = 2 * (k + 1)) := Lib.hid (by have := HT.out; omega)
      have HO5 := Lib.hid hO5
      have HF5 := Lib.hid hf5
      have HX := Lib.hid (show least (placeOf seed (⟨#[120]⟩ : ByteArray).data.toList m) f5 r = x by rw [hpx]; exact hx)
      have e1 : decide (t5 < x) = false := by simp; omega
      clear hO5 hf5 hx hxl ht5 ht2 hf5e
      go_wp2_with fail
      refine (HO5.out.count ⟨#[120]⟩ (by decide) HX.out).mono ?_
      rintro e w6 ⟨rfl, g⟩
      have HO6 := Lib.hid (HO5.out.later g)
      clear g
      go_wp2_with fail
      refine (HO6.out.add ⟨#[120]⟩ (by decide) 0 (by omega)).mono ?_
      rintro e w7 ⟨rfl, _, hO7⟩
      have HO7 := Lib.hid (hO7.to add_none (plus_zero HO6.out.k.totLt))
      clear hO7
      go_wp2_with fail
      refine (HO7.out.count ⟨#[120]⟩ (by decide) HX.out).mono ?_
      rintro e w8 ⟨rfl, g⟩
      have HO8 := Lib.hid (HO7.out.later g)
      clear g
      go_wp2_with fail
      refine HO8.out.total.mono ?_
      rintro e w9 ⟨rfl, rfl⟩
      go_wp2_with fail
      go_roundw
      case rel => exact ⟨k + 1, t5, by omega, by go_num, HT5, Lib.hid ⟨_, HO8.out, HF5.out⟩⟩
      case measure => simp [intOf]; omega
    · obtain rfl : k = N := by omega
      have dl : decide ((k : Int) < (k : Int)) = false := by simp
      obtain ⟨f, hO, hf⟩ := HF.out
      have HO := Lib.hid hO
      have ht : 2 * (k : Int) = (tot : Int) := by have := HT.out; omega
      clear hO hf HF HT
      go_wp2_with fail
      refine (known_any _ HO.out.steps).mono ?_
      rintro e w4 ⟨rfl, g⟩
      have HO4 := Lib.hid (HO.out.later g)
      clear g
      go_wp2_with fail
      refine HO4.out.total.mono ?_
      rintro e w5 ⟨rfl, rfl⟩
      go_wp2_with fail
      go_ret
      exact ⟨rfl, HO4.out.b⟩
namespace SketchZero
set_option linter.unusedSimpArgs false in
set_option maxRecDepth 100000 in
theorem lifted (os : Os) (started : os.Started) (H : Type) (enc : TypeId × Value → H) :
    ReturnsInHanded {} Tryd.checked os 3 .any (fun w args => (Rows.sketchZeroSpec.pre enc Tryd.prog Tryd.f3 [] false w args ∧ laidMetH Tryd.prog laidL w) ∧ sizedMet enc Tryd.prog Tryd.f3 (OpenSpec.ofChange Rows.sketchZeroSpec) false w args)
      (Rows.sketchZeroSpec.post enc Tryd.prog Tryd.f3 false true false false) := by
  refine returnsInHanded_of_change_and (C := Tryd.checked) (X := fun w _ => laidMetH Tryd.prog laidL w) (fun _ _ _ hh h => h.of_heap hh) own started (by kernel_rfl) Tryd.func3
    (ChangeSpec.witness_shaped (enc := enc) (C := Tryd.checked) (os := os) (X := fun w _ => laidMetH Tryd.prog laidL w) false (World.doorLaid Tryd.prog 400 os) #[.int .u64 0, .int .u8 0, .int .u8 0, .slice none 0 0] 8 rfl (World.shaped_of_RefB (by kernel_rfl) (by kernel_rfl)) (by kernel_rfl) (by kernel_rfl) (by kernel_rfl) (door_met os _)) ?_
  intro W base args ds gs before hval0 hW _ _ hL _
  have hS := of_laid hL
  have hval : ∀ (j : Nat) t v, Tryd.f3.params[j]? = some t → args[j]? = some v → Value.okWide Tryd.prog W .any base t v := hval0
  have hW' := hW
  obtain ⟨p, q, hA0, hV, rfl, _, _⟩ := hW
  have hA : DataW.TrodAll enc Tryd.prog W 0 (fun _ => true) true Tryd.f3.params.toList args.toList ds p := hA0
  rw [Tryd.params3] at hA hval
  obtain ⟨v0, vs0, d0, ds0, p0, q0, hargs, rfl, rfl, h0, r0⟩ := trodAll_cons hA
  obtain ⟨v1, vs1, d1, ds1, p1, q1, rfl, rfl, rfl, h1, r1⟩ := trodAll_cons r0
  obtain ⟨v2, vs2, d2, ds2, p2, q2, rfl, rfl, rfl, h2, r2⟩ := trodAll_cons r1
  obtain ⟨v3, vs3, d3, ds3, p3, q3, rfl, rfl, rfl, h3, r3⟩ := trodAll_cons r2
  obtain ⟨rfl, rfl, rfl⟩ := trodAll_nil r3
  obtain rfl : args = #[v0, v1, v2, v3] := by cases args; simp_all
  obtain ⟨rfl, rfl⟩ := trodVars_none hV
  obtain ⟨a0, rfl, rfl, rfl, w0⟩ := open_int Tryd.underlying22 (hval 0 22 v0 rfl rfl) h0
  have k0 := wf_u64 w0
  obtain ⟨n0, rfl⟩ : ∃ n : Nat, a0 = n := ⟨a0.toNat, by omega⟩
  obtain ⟨a1, rfl, rfl, rfl, w1⟩ := open_int Tryd.underlying5 (hval 1 5 v1 rfl rfl) h1
  have k1 := wf_u8 w1
  obtain ⟨n1, rfl⟩ : ∃ u : UInt8, a1 = (u.toNat : Int) := ⟨UInt8.ofNat a1.toNat, by simp; omega⟩
  obtain ⟨a2, rfl, rfl, rfl, w2⟩ := open_int Tryd.underlying5 (hval 2 5 v2 rfl rfl) h2
  have k2 := wf_u8 w2
  obtain ⟨n2, rfl⟩ : ∃ u : UInt8, a2 = (u.toNat : Int) := ⟨UInt8.ofNat a2.toNat, by simp; omega⟩
  obtain ⟨A3, cs3, cap3, rfl, l3, m3, b3, again3⟩ := arg_bytes (hval 3 23 v3 rfl rfl) h3
  have x3 := arg_extra h3
  clear hA0 hval0
  simp only [List.append_nil] at hW'
  refine (sketchZero_walk n0 n1.toNat n2.toNat A3 cs3 cap3 (by omega) (by have := n1.toNat_lt; omega) (by have := n2.toNat_lt; omega) l3 W b3 hS).mono fun e W' ⟨he, hg⟩ => ?_
  subst he
  exact ⟨_, rfl, true_last hW' rfl (by kernel_rfl) Tryd.underlying4 rfl rfl rfl (of_decide_eq_true (by kernel_rfl)) hg⟩

/-- The row. -/
theorem said : Rows.SketchZeroSaid :=
  OpenClaim.holds_of_wide 3 Tryd.f3 rfl rfl rfl rfl rfl rfl rfl ⟨rfl, rfl, rfl, rfl, rfl⟩ rfl rfl rfl rfl rfl (by kernel_rfl) Tryd.func3 (by kernel_rfl)
    (of_decide_eq_true (by kernel_rfl)) (by unfold Func.isWrapper; first | (rw [if_pos (by decide +kernel)]; kernel_rfl) | (rw [if_neg (by decide +kernel)]; exact ⟨rfl, rfl⟩))
    (fun os started H enc _ => lifted os started H enc)
/-- **SketchZero, at every input: the card, its listed variables tied to the program's text.** -/
theorem proved : Rows.SketchZeroCardSaid :=
  Claim7.holds_tied_plain_at .later [] [.wider] true Rows.sketchZeroCard.stood.harness false
    said (fun _ h => by cases h) (by kernel_rfl) (fun _ h => by cases h) sketchZero_row_tie rfl ⟨rfl, rfl⟩ (by kernel_rfl) rfl
    (fun f fn hf hfn => by
      obtain rfl : f = 3 := Option.some.inj ((show Tryd.prog.funcNamed "telemeter/telemeterlaw07.SketchZero" = some 3 by kernel_rfl).symm.trans hf) |>.symm
      obtain rfl : fn = Tryd.f3 := (Option.some.inj (Tryd.func3.symm.trans hfn)).symm
      exact ⟨by kernel_rfl, fun j t ht => by
        rw [Tryd.params3] at ht
        have hm : t ∈ [22, 5, 5, 23] := by simpa using Array.mem_of_getElem? ht
        have hall : ([22, 5, 5, 23].all fun u => !Tryd.prog.wantsStandIn u) = true := by kernel_rfl
        exact (show Tryd.prog.wantsStandIn t = false by simpa using List.all_eq_true.1 hall t hm)⟩)
    (by kernel_rfl)
end SketchZero

end Go.Proofs.YtmacehpfhhlnpaaDoor
