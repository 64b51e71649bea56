/-
  Proved: SketchAlone returns true for every seed, shape and numbers: one key alone is counted right, up to the greatest number. No condition but the card's own: hash's table of steps, tied to the program's text, holds at the start what that text lays.
-/
import Derived.Test.YtmacehpfhhlnpaaDoorSkOn
import Derived.Test.YtmacehpfhhlnpaaDoorNums0
namespace Go.Proofs.YtmacehpfhhlnpaaDoor
open Go.ChangeShapes Go.WideShapes Go.ChangeAt Go.RowKit Go.Proofs.HashMath Go.Proofs.SkMath

set_option maxRecDepth 100000 in
set_option maxHeartbeats 2000000 in
theorem sketchAlone_walk (seed : Nat) (a b : Nat) (A0 : Option Addr) (cs : List Nat) (cap : Nat) (hx : seed < 18446744073709551616) (ha : a ≤ 255) (hb : b ≤ 255) (hcap : cs.length ≤ cap) (w : World) (hH : Holds64 w.heap.size w A0 cs) (hS : Steps w) :
    Calls Tryd.prog 7 #[.int .u64 (seed : Int), .int .u8 (a : Int), .int .u8 (b : Int), .slice A0 cs.length cap] w fun e w' => e = .returned (.bool true) ∧ Below w.heap.size w w' := by
  obtain ⟨N, hN⟩ : ∃ N, cs.length = N := ⟨_, rfl⟩
  rw [hN] at hcap ⊢
  obtain ⟨r, hr, hr1, hr8⟩ : ∃ r : Nat, (1 : Int) + (a : Int) % 8 = (r : Int) ∧ 1 ≤ r ∧ r ≤ 8 := ⟨1 + a % 8, by omega, by omega, by omega⟩
  obtain ⟨m, hm, hm1, hm2⟩ : ∃ m : Nat, (1 : Int) + (b : Int) = (m : Int) ∧ 1 ≤ m ∧ m ≤ 1024 := ⟨1 + b, by omega, by omega, by omega⟩
  have hlt := hS.lt
  obtain ⟨n0, hn0⟩ : ∃ n0, w.heap.size = n0 := ⟨_, rfl⟩
  rw [hn0] at hH hlt ⊢
  have hNew := on_new (w := w) (W := w) r m seed hS hlt (by omega) (Below.refl _ _) hr1 hr8 hm1 hm2 hx
  have HNEW := Lib.hid hNew
  have HN := Lib.hid hN
  have HH := Lib.hid hH
  clear hNew hN hn0 hH hS
  by_cases hbig : 40 < N
  · have d1 : decide ((40 : Int) < (N : Int)) = true := by simp; omega
    go_enter Tryd.func7, Tryd.ntmps7
    go_wp2_with fail
    refine HNEW.out.mono ?_
    rintro e w1 ⟨S, A, G, rfl, g, _, _, _, hO⟩
    have HO := Lib.hid hO
    clear hO
    go_wp2_with fail
    refine (known_any _ HO.out.steps).mono ?_
    rintro e w3 ⟨rfl, g3⟩
    have hB := Lib.hid (HO.out.later g3).b
    clear g g3
    go_wp2_with fail
    go_ret
    exact ⟨rfl, hB.out⟩
  have d1 : decide ((40 : Int) < (N : Int)) = false := by simp; omega
  obtain ⟨px, hpx⟩ : ∃ px, placeOf seed (⟨#[120]⟩ : ByteArray).data.toList m = px := ⟨_, rfl⟩
  have HPX := Lib.hid hpx
  clear hpx
  go_enter Tryd.func7, Tryd.ntmps7
  go_wp2_with fail
  refine HNEW.out.mono ?_
  rintro e w1 ⟨S, A, G, rfl, _, _, _, _, hO⟩
  have HO := Lib.hid hO
  clear hO
  go_wp2_with fail
  go_loopw [10, 11] (fun av kv wr => ∃ k all : Nat, k ≤ N ∧ kv = .int .i64 (k : Int) ∧ av = .int .u64 (all : Int) ∧ all < 18446744073709551616 ∧ Hid (∃ f, On n0 w wr S A G r m seed f all ∧ ∀ i, i < r → f i (px i) = all)) (fun _ kv _ => N - (intOf kv).toNat)
  case atStart => exact ⟨0, 0, by omega, rfl, rfl, by omega, Lib.hid ⟨_, HO.out, fun _ _ => rfl⟩⟩
  case round =>
    obtain ⟨k, all, hk, rfl, rfl, hal, HF⟩ := hrel
    by_cases hlt : k < N
    · have dl : decide ((k : Int) < (N : Int)) = true := by simp; omega
      obtain ⟨f, hO, hf⟩ := HF.out
      obtain ⟨bb, off, rfl, hbb, hc⟩ := HH.out (by rw [HN.out]; omega)
      obtain ⟨hcl, hvl⟩ := hc k (by rw [HN.out]; exact hlt)
      obtain ⟨v, hcv⟩ : ∃ v, cs.getD k 0 = v := ⟨_, rfl⟩
      rw [hcv] at hcl hvl
      have HCL := Lib.hid hcl
      have hcl1 : wr.cell? ⟨bb, off + k, none⟩ = some (.int .u64 (v : Int)) := (hO.b.cell (p := ⟨bb, off + k, none⟩) hbb).trans hcl
      have hadd : ∀ i, i < r → add r px v f i (px i) = plus all v := fun i hi => add_alone hr1 hal hf hi
      obtain ⟨t, ht, htl⟩ : ∃ t : Nat, IntKind.u64.wrap ((all : Int) + (v : Int)) = (t : Int) ∧ t = (all + v) % 18446744073709551616 := ⟨(all + v) % 18446744073709551616, by rw [IntKind.wrap_u64]; omega, rfl⟩
      have HADD := Lib.hid hadd
      have HO := Lib.hid hO
      clear hO hf hc hcv HF hcl hadd
      by_cases hov : all + v < 18446744073709551616
      · have ht2 : t = all + v := by omega
        have e1 : decide (t < all) = false := by simp; omega
        have hpl : plus all v = t := by rw [ht2]; exact plus_small hov
        have htx : t < 18446744073709551616 := by omega
        have HPL := Lib.hid hpl
        clear ht2 htl hpl hov
        go_wp2_with fail
        refine (HO.out.add ⟨#[120]⟩ (by decide) v hvl).mono ?_
        rintro e w5 ⟨rfl, _, hO5⟩
        rw [HPX.out, HPL.out] at hO5
        have hcl5 : w5.cell? ⟨bb, off + k, none⟩ = some (.int .u64 (v : Int)) := (hO5.b.cell (p := ⟨bb, off + k, none⟩) hbb).trans HCL.out
        have HO5 := Lib.hid hO5
        clear hO5
        go_wp2_with fail
        go_roundw
        case rel => exact ⟨k + 1, t, by omega, by go_num, rfl, htx, Lib.hid ⟨_, HO5.out, fun i hi => (HADD.out i hi).trans HPL.out⟩⟩
        case measure => simp [intOf]; omega
      · have e1 : decide (t < all) = true := by simp; omega
        have hpl : plus all v = 18446744073709551615 := if_neg hov
        have HPL := Lib.hid hpl
        clear htl hpl hov
        go_wp2_with fail
        refine (HO.out.add ⟨#[120]⟩ (by decide) v hvl).mono ?_
        rintro e w5 ⟨rfl, _, hO5⟩
        rw [HPX.out, HPL.out] at hO5
        have hcl5 : w5.cell? ⟨bb, off + k, none⟩ = some (.int .u64 (v : Int)) := (hO5.b.cell (p := ⟨bb, off + k, none⟩) hbb).trans HCL.out
        have HO5 := Lib.hid hO5
        clear hO5
        go_wp2_with fail
        go_roundw
        case rel => exact ⟨k + 1, 18446744073709551615, by omega, by go_num, rfl, by omega, Lib.hid ⟨_, HO5.out, fun i hi => (HADD.out i hi).trans HPL.out⟩⟩
        case measure => simp [intOf]; omega
    · obtain rfl : k = N := by omega
      have dl : decide ((k : Int) < (k : Int)) = false := by simp
      obtain ⟨f, hO, hf⟩ := HF.out
      have HO := Lib.hid hO
      have HX := Lib.hid (show least (placeOf seed (⟨#[120]⟩ : ByteArray).data.toList m) f r = all by rw [HPX.out]; exact least_alone hr1 hal hf)
      clear hO hf HF
      go_wp2_with fail
      refine (known_any _ HO.out.steps).mono ?_
      rintro e w4 ⟨rfl, g⟩
      have HO4 := Lib.hid (HO.out.later g)
      clear g
      go_wp2_with fail
      refine (HO4.out.count ⟨#[120]⟩ (by decide) HX.out).mono ?_
      rintro e w5 ⟨rfl, g⟩
      have HO5 := Lib.hid (HO4.out.later g)
      clear g
      go_wp2_with fail
      refine HO5.out.total.mono ?_
      rintro e w6 ⟨rfl, rfl⟩
      go_wp2_with fail
      go_ret
      exact ⟨rfl, HO5.out.b⟩
namespace SketchAlone
set_option linter.unusedSimpArgs false in
set_option maxRecDepth 100000 in
theorem lifted (os : Os) (started : os.Started) (H : Type) (enc : TypeId × Value → H) :
    ReturnsInHanded {} Tryd.checked os 7 .any (fun w args => (Rows.sketchAloneSpec.pre enc Tryd.prog Tryd.f7 [] false w args ∧ laidMetH Tryd.prog laidL w) ∧ sizedMet enc Tryd.prog Tryd.f7 (OpenSpec.ofChange Rows.sketchAloneSpec) false w args)
      (Rows.sketchAloneSpec.post enc Tryd.prog Tryd.f7 false true false false) := by
  refine returnsInHanded_of_change_and (C := Tryd.checked) (X := fun w _ => laidMetH Tryd.prog laidL w) (fun _ _ _ hh h => h.of_heap hh) own started (by kernel_rfl) Tryd.func7
    (ChangeSpec.witness_shaped (enc := enc) (C := Tryd.checked) (os := os) (X := fun w _ => laidMetH Tryd.prog laidL w) false (World.doorLaid Tryd.prog 400 os) #[.int .u64 0, .int .u8 0, .int .u8 0, .slice none 0 0] 8 rfl (World.shaped_of_RefB (by kernel_rfl) (by kernel_rfl)) (by kernel_rfl) (by kernel_rfl) (by kernel_rfl) (door_met os _)) ?_
  intro W base args ds gs before hval0 hW _ _ hL _
  have hS := of_laid hL
  have hval : ∀ (j : Nat) t v, Tryd.f7.params[j]? = some t → args[j]? = some v → Value.okWide Tryd.prog W .any base t v := hval0
  have hW' := hW
  obtain ⟨p, q, hA0, hV, rfl, _, _⟩ := hW
  have hA : DataW.TrodAll enc Tryd.prog W 0 (fun _ => true) true Tryd.f7.params.toList args.toList ds p := hA0
  rw [Tryd.params7] at hA hval
  obtain ⟨v0, vs0, d0, ds0, p0, q0, hargs, rfl, rfl, h0, r0⟩ := trodAll_cons hA
  obtain ⟨v1, vs1, d1, ds1, p1, q1, rfl, rfl, rfl, h1, r1⟩ := trodAll_cons r0
  obtain ⟨v2, vs2, d2, ds2, p2, q2, rfl, rfl, rfl, h2, r2⟩ := trodAll_cons r1
  obtain ⟨v3, vs3, d3, ds3, p3, q3, rfl, rfl, rfl, h3, r3⟩ := trodAll_cons r2
  obtain ⟨rfl, rfl, rfl⟩ := trodAll_nil r3
  obtain rfl : args = #[v0, v1, v2, v3] := by cases args; simp_all
  obtain ⟨rfl, rfl⟩ := trodVars_none hV
  obtain ⟨a0, rfl, rfl, rfl, w0⟩ := open_int Tryd.underlying22 (hval 0 22 v0 rfl rfl) h0
  have k0 := wf_u64 w0
  obtain ⟨n0, rfl⟩ : ∃ n : Nat, a0 = n := ⟨a0.toNat, by omega⟩
  obtain ⟨a1, rfl, rfl, rfl, w1⟩ := open_int Tryd.underlying5 (hval 1 5 v1 rfl rfl) h1
  have k1 := wf_u8 w1
  obtain ⟨n1, rfl⟩ : ∃ u : UInt8, a1 = (u.toNat : Int) := ⟨UInt8.ofNat a1.toNat, by simp; omega⟩
  obtain ⟨a2, rfl, rfl, rfl, w2⟩ := open_int Tryd.underlying5 (hval 2 5 v2 rfl rfl) h2
  have k2 := wf_u8 w2
  obtain ⟨n2, rfl⟩ : ∃ u : UInt8, a2 = (u.toNat : Int) := ⟨UInt8.ofNat a2.toNat, by simp; omega⟩
  obtain ⟨A3, cs3, cap3, rfl, l3, m3, b3⟩ := arg_nums (hval 3 32 v3 rfl rfl) h3
  clear hA0 hval0
  simp only [List.append_nil] at hW'
  refine (sketchAlone_walk n0 n1.toNat n2.toNat A3 cs3 cap3 (by omega) (by have := n1.toNat_lt; omega) (by have := n2.toNat_lt; omega) l3 W b3 hS).mono fun e W' ⟨he, hg⟩ => ?_
  subst he
  exact ⟨_, rfl, true_last hW' rfl (by kernel_rfl) Tryd.underlying4 rfl rfl rfl (of_decide_eq_true (by kernel_rfl)) hg⟩

/-- The row. -/
theorem said : Rows.SketchAloneSaid :=
  OpenClaim.holds_of_wide 7 Tryd.f7 rfl rfl rfl rfl rfl rfl rfl ⟨rfl, rfl, rfl, rfl, rfl⟩ rfl rfl rfl rfl rfl (by kernel_rfl) Tryd.func7 (by kernel_rfl)
    (of_decide_eq_true (by kernel_rfl)) (by unfold Func.isWrapper; first | (rw [if_pos (by decide +kernel)]; kernel_rfl) | (rw [if_neg (by decide +kernel)]; exact ⟨rfl, rfl⟩))
    (fun os started H enc _ => lifted os started H enc)
/-- **SketchAlone, at every input: the card, its listed variables tied to the program's text.** -/
theorem proved : Rows.SketchAloneCardSaid :=
  Claim7.holds_tied_plain_at .later [] [.wider] true Rows.sketchAloneCard.stood.harness false
    said (fun _ h => by cases h) (by kernel_rfl) (fun _ h => by cases h) sketchAlone_row_tie rfl ⟨rfl, rfl⟩ (by kernel_rfl) rfl
    (fun f fn hf hfn => by
      obtain rfl : f = 7 := Option.some.inj ((show Tryd.prog.funcNamed "telemeter/telemeterlaw07.SketchAlone" = some 7 by kernel_rfl).symm.trans hf) |>.symm
      obtain rfl : fn = Tryd.f7 := (Option.some.inj (Tryd.func7.symm.trans hfn)).symm
      exact ⟨by kernel_rfl, fun j t ht => by
        rw [Tryd.params7] at ht
        have hm : t ∈ [22, 5, 5, 32] := by simpa using Array.mem_of_getElem? ht
        have hall : ([22, 5, 5, 32].all fun u => !Tryd.prog.wantsStandIn u) = true := by kernel_rfl
        exact (show Tryd.prog.wantsStandIn t = false by simpa using List.all_eq_true.1 hall t hm)⟩)
    (by kernel_rfl)
end SketchAlone

end Go.Proofs.YtmacehpfhhlnpaaDoor
