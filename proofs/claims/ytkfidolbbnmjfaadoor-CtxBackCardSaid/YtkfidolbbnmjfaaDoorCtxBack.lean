/-
  Proved: CtxBack returns true for all choices and numbers: marks that are laid are read; laid again the state is the same. No condition.
-/
import Derived.Test.YtkfidolbbnmjfaaDoorCtxState2
import Derived.Test.YtkfidolbbnmjfaaDoorCtxBackS
import Derived.Deep.RegionHeld
namespace Go.Proofs.YtkfidolbbnmjfaaDoor
open Go.ChangeShapes Go.WideShapes Go.ChangeAt Go.RowKit Go.Proofs.CtxState

set_option linter.unusedSimpArgs false in
set_option maxRecDepth 100000 in
set_option maxHeartbeats 8000000 in
theorem back_walk (A : Option Addr) (cs : List UInt8) (len cap : Nat) (a b t r : Nat) (ha : a < 256) (w : World) (hlen : cs.length = len) (hr : Holds8 w.heap.size w A cs) (hS : Shape w) :
    Calls Tryd.prog 7 #[.slice A len cap, .int .u8 (a : Int), .int .u8 (b : Int), .int .u64 (t : Int), .int .u64 (r : Int)] w fun e w' => e = .returned (.bool true) ∧ Below w.heap.size w w' := by
  have HM := Lib.hid (fun W => lawMarks_any a b t r ha W)
  have HR := Lib.hid hr
  have HL := Lib.hid hlen
  have HS := Lib.hid hS
  clear hr hlen hS ha
  go_enter Tryd.func7, Tryd.ntmps7
  go_wp2_with fail
  refine (HM.out _).mono ?_
  rintro e w1 ⟨⟨A0, T0, B0, R0, rfl⟩, hb1⟩
  obtain ⟨g, hg⟩ : ∃ g, w1.heap.size = g := ⟨_, rfl⟩
  have hB1 := hb1.alloc hb1.size (.cells #[.bool A0, .int .u64 (T0 : Int), .bool B0, .int .u64 (R0 : Int)] 29)
  have hK1 := blk_new w1 #[.bool A0, .int .u64 (T0 : Int), .bool B0, .int .u64 (R0 : Int)] 29
  rw [hg] at hK1
  have HB1 := Lib.hid hB1
  have HK1 := Lib.hid hK1
  clear hb1 hB1 hK1
  go_wp2_with fail
  refine wp_region_held_drew (S := fun W => Blk W g #[.bool A0, .int .u64 (T0 : Int), .bool B0, .int .u64 (R0 : Int)] 29 ∧ Below w.heap.size w W) (by kernel_rfl) ?_ (fun hHeld => ?_)
  · exact ⟨HK1.out, HB1.out.drew⟩
  refine wpAnyH_take (i := 0) (v := ?_) rfl (by kernel_rfl) (by kernel_rfl) (by kernel_rfl) (fun _ _ _ h => h) (Or.inl ⟨by rfl, ?_⟩) (by assumption) ?_
  rotate_left
  · intro wq hSw; (try dsimp only at hSw); go_simp; (try with_reducible rfl)
  simp only [Act.put, List.getElem_toArray, List.getElem_cons_succ, List.getElem_cons_zero, List.setIfInBounds_toArray, List.set_cons_zero, List.set_cons_succ]
  refine wpAnyH_take (i := 2) (v := ?_) rfl (by kernel_rfl) (by kernel_rfl) (by kernel_rfl) (fun _ _ _ h => h) (Or.inl ⟨by rfl, ?_⟩) (by assumption) ?_
  rotate_left
  · intro wq hSw; (try dsimp only at hSw); have q0 := hSw.1.cell 0 rfl; have q1 := hSw.1.cell 1 rfl; have q2 := hSw.1.cell 2 rfl; have q3 := hSw.1.cell 3 rfl; go_simp; (try with_reducible rfl)
  simp only [Act.put, List.getElem_toArray, List.getElem_cons_succ, List.getElem_cons_zero, List.setIfInBounds_toArray, List.set_cons_zero, List.set_cons_succ]
  refine wpAnyH_ready (rs := [1]) (by kernel_rfl) (by simp) ?_
  refine AllReadyH.cons rfl (fun K hK => ?_) AllReadyH.nil
  go_simp
  refine (state_any A cs len cap _ HL.out ((HR.out.below hHeld.2).mono hHeld.2.size)).mono ?_
  rintro e wx ⟨⟨s, rfl⟩, hbx⟩
  (try go_wp2_with fail)
  refine hK.out _ _ ?_ (fun hHeld => ?_)
  · exact ⟨hHeld.1.later hbx, hHeld.2.trans (hbx.mono hHeld.2.size)⟩
  clear hK K
  try simp only [Act.put, List.getElem_toArray, List.getElem_cons_succ, List.getElem_cons_zero, List.setIfInBounds_toArray, List.set_cons_zero, List.set_cons_succ]
  refine wpAnyH_ready (rs := [3]) (by kernel_rfl) (by simp) ?_
  refine AllReadyH.cons rfl (fun K hK => ?_) AllReadyH.nil
  go_simp
  refine (with_any s A0 T0 B0 R0 _).mono ?_
  rintro e wy ⟨rfl, hby⟩
  unfold withV
  (try go_wp2_with fail)
  refine hK.out _ _ ?_ (fun hHeld => ?_)
  · exact ⟨hHeld.1.later hby, hHeld.2.trans (hby.mono hHeld.2.size)⟩
  clear hK K
  try simp only [Act.put, List.getElem_toArray, List.getElem_cons_succ, List.getElem_cons_zero, List.setIfInBounds_toArray, List.set_cons_zero, List.set_cons_succ]
  refine wpAnyH_take (i := 4) (v := ?_) rfl (by kernel_rfl) (by kernel_rfl) (by kernel_rfl) (fun _ _ _ h => h) (Or.inl ⟨by rfl, ?_⟩) (by assumption) ?_
  rotate_left
  · intro wq hSw; (try dsimp only at hSw); go_simp; (try with_reducible rfl)
  simp only [Act.put, List.getElem_toArray, List.getElem_cons_succ, List.getElem_cons_zero, List.setIfInBounds_toArray, List.set_cons_zero, List.set_cons_succ]
  refine wpAnyH_take (i := 5) (v := ?_) rfl (by kernel_rfl) (by kernel_rfl) (by kernel_rfl) (fun _ _ _ h => h) (Or.inl ⟨by rfl, ?_⟩) (by assumption) ?_
  rotate_left
  · intro wq hSw; (try dsimp only at hSw); go_simp; (try with_reducible rfl)
  simp only [Act.put, List.getElem_toArray, List.getElem_cons_succ, List.getElem_cons_zero, List.setIfInBounds_toArray, List.set_cons_zero, List.set_cons_succ]
  refine wpAnyH_take (i := 6) (v := ?_) rfl (by kernel_rfl) (by kernel_rfl) (by kernel_rfl) (fun _ _ _ h => h) (Or.inl ⟨by rfl, ?_⟩) (by assumption) ?_
  rotate_left
  · intro wq hSw; (try dsimp only at hSw); go_simp; (try with_reducible rfl)
  simp only [Act.put, List.getElem_toArray, List.getElem_cons_succ, List.getElem_cons_zero, List.setIfInBounds_toArray, List.set_cons_zero, List.set_cons_succ]
  refine wpAnyH_take (i := 7) (v := ?_) rfl (by kernel_rfl) (by kernel_rfl) (by kernel_rfl) (fun _ _ _ h => h) (Or.inl ⟨by rfl, ?_⟩) (by assumption) ?_
  rotate_left
  · intro wq hSw; (try dsimp only at hSw); go_simp; (try with_reducible rfl)
  simp only [Act.put, List.getElem_toArray, List.getElem_cons_succ, List.getElem_cons_zero, List.setIfInBounds_toArray, List.set_cons_zero, List.set_cons_succ]
  refine wpAnyH_take (i := 8) (v := ?_) rfl (by kernel_rfl) (by kernel_rfl) (by kernel_rfl) (fun _ _ _ h => h) (Or.inl ⟨by rfl, ?_⟩) (by assumption) ?_
  rotate_left
  · intro wq hSw; (try dsimp only at hSw); go_simp; (try with_reducible rfl)
  simp only [Act.put, List.getElem_toArray, List.getElem_cons_succ, List.getElem_cons_zero, List.setIfInBounds_toArray, List.set_cons_zero, List.set_cons_succ]
  have hBf := hHeld.2
  have hKf := hHeld.1
  refine wpAnyH_done (by kernel_rfl) ?_ _
  clear hHeld
  have HBf := Lib.hid hBf
  have HKf := Lib.hid hKf
  clear hBf hKf HB1 HK1
  rcases with_err s.data.toList A0 T0 B0 R0 with ⟨out, hout⟩ | ⟨er, hout, hne, her⟩
  · obtain ⟨hread, hagain⟩ := back hout
    rw [hout]
    obtain ⟨ob, hob⟩ : ∃ ob, bs out = ob := ⟨_, rfl⟩
    have hR1 := fun W => read_any ob W
    have hW1 := fun W => with_any ob A0 T0 B0 R0 W
    rw [← hob, list_bs, hread, hob] at hR1
    rw [← hob, list_bs, hagain] at hW1
    dsimp only [mkRow, withV] at hR1 hW1
    rw [hob] at hW1
    have hse : (ob.toList == ob.toList) = true := by simp
    have HR1 := Lib.hid hR1
    have HW1 := Lib.hid hW1
    dsimp only
    rw [hob]
    clear hR1 hW1 hout hread hagain hob
    have k1 := HKf.out
    go_wp2_with fail
    refine (HR1.out _).mono ?_
    rintro e w2 ⟨rfl, hb2⟩
    have hB2 := (HBf.out.trans (hb2.mono HBf.out.size)).alloc (HBf.out.trans (hb2.mono HBf.out.size)).size (.cells #[.bool A0, .int .u64 (T0 : Int), .bool B0, .int .u64 (R0 : Int)] 29)
    have hK2 := (HKf.out.later hb2).later (box_below (.cells #[.bool A0, .int .u64 (T0 : Int), .bool B0, .int .u64 (R0 : Int)] 29))
    have hN2 := blk_new w2 #[.bool A0, .int .u64 (T0 : Int), .bool B0, .int .u64 (R0 : Int)] 29
    obtain ⟨g2, hg2⟩ : ∃ g2, w2.heap.size = g2 := ⟨_, rfl⟩
    rw [hg2] at hN2
    have HB2 := Lib.hid hB2
    have HK2 := Lib.hid hK2
    have HN2 := Lib.hid hN2
    have c0 := hK2.cell 0 rfl
    have c1 := hK2.cell 1 rfl
    have c2 := hK2.cell 2 rfl
    have c3 := hK2.cell 3 rfl
    clear hb2 hB2 hK2 hN2 k1 HBf HKf
    go_wp2_with fail
    refine (HW1.out _).mono ?_
    rintro e w3 ⟨rfl, hb3⟩
    have HB3 := Lib.hid (HB2.out.trans (hb3.mono HB2.out.size))
    have HK3 := Lib.hid (HK2.out.later hb3)
    have HN3 := Lib.hid (HN2.out.later hb3)
    clear hb3 c0 c1 c2 c3 HB2 HK2 HN2
    go_wp2_with fail
    refine (known_any _ (HS.out.later HB3.out)).mono ?_
    rintro e w4 ⟨rfl, hb4⟩
    have HB4 := Lib.hid (HB3.out.trans (hb4.mono HB3.out.size))
    have k4 := HK3.out.later hb4
    have n4 := HN3.out.later hb4
    have c0 := k4.cell 0 rfl
    have c1 := k4.cell 1 rfl
    have c2 := k4.cell 2 rfl
    have c3 := k4.cell 3 rfl
    have d0 := n4.cell 0 rfl
    have d1 := n4.cell 1 rfl
    have d2 := n4.cell 2 rfl
    have d3 := n4.cell 3 rfl
    clear hb4 HB3 HK3 HN3 k4 n4
    go_wp2_with fail
    go_ret
    exact ⟨rfl, HB4.out⟩
  · rw [hout]
    dsimp only
    rw [show bs [] = (⟨#[]⟩ : ByteArray) from rfl]
    clear hout hne
    rcases her with rfl | rfl | rfl <;>
    · go_wp2_with fail
      refine (known_any _ (HS.out.later HBf.out)).mono ?_
      rintro e w2 ⟨rfl, hb2⟩
      have HB2 := Lib.hid (HBf.out.trans (hb2.mono HBf.out.size))
      clear hb2
      go_wp2_with fail
      go_ret
      exact ⟨rfl, HB2.out⟩

namespace CtxBack
set_option linter.unusedSimpArgs false in
set_option maxRecDepth 100000 in
theorem lifted (os : Os) (started : os.Started) (H : Type) (enc : TypeId × Value → H) :
    ReturnsInHanded {} Tryd.checked os 7 .any (fun w args => (Rows.ctxBackSpec.pre enc Tryd.prog Tryd.f7 [] false w args ∧ laidMetH Tryd.prog laidL w) ∧ sizedMet enc Tryd.prog Tryd.f7 (OpenSpec.ofChange Rows.ctxBackSpec) false w args)
      (Rows.ctxBackSpec.post enc Tryd.prog Tryd.f7 false true false false) := by
  refine returnsInHanded_of_change_and (C := Tryd.checked) (X := fun w _ => laidMetH Tryd.prog laidL w) (fun _ _ _ hh h => h.of_heap hh) own started (by kernel_rfl) Tryd.func7
    (ChangeSpec.witness_shaped (enc := enc) (C := Tryd.checked) (os := os) (X := fun w _ => laidMetH Tryd.prog laidL w) false (World.laidAll Tryd.prog os laidL) #[.slice none 0 0, .int .u8 0, .int .u8 0, .int .u64 0, .int .u64 0] 8 (World.laidAll_os _ _ _) (World.shaped_of_ZipB (by kernel_rfl) (by kernel_rfl)) (by kernel_rfl) (by kernel_rfl) (by kernel_rfl) (door_met os _)) ?_
  intro W base args ds gs before hval0 hW _ _ hL _
  have hS := of_laid hL
  have hval : ∀ (j : Nat) t v, Tryd.f7.params[j]? = some t → args[j]? = some v → Value.okWide Tryd.prog W .any base t v := hval0
  have hW' := hW
  obtain ⟨p, q, hA0, hV, rfl, _, _⟩ := hW
  have hA : DataW.TrodAll enc Tryd.prog W 0 (fun _ => true) true Tryd.f7.params.toList args.toList ds p := hA0
  rw [Tryd.params7] at hA hval
  obtain ⟨v0, vs0, d0, ds0, p0, q0, hargs, rfl, rfl, h0, r0⟩ := trodAll_cons hA
  obtain ⟨v1, vs1, d1, ds1, p1, q1, rfl, rfl, rfl, h1, r1⟩ := trodAll_cons r0
  obtain ⟨v2, vs2, d2, ds2, p2, q2, rfl, rfl, rfl, h2, r2⟩ := trodAll_cons r1
  obtain ⟨v3, vs3, d3, ds3, p3, q3, rfl, rfl, rfl, h3, r3⟩ := trodAll_cons r2
  obtain ⟨v4, vs4, d4, ds4, p4, q4, rfl, rfl, rfl, h4, r4⟩ := trodAll_cons r3
  obtain ⟨rfl, rfl, rfl⟩ := trodAll_nil r4
  obtain rfl : args = #[v0, v1, v2, v3, v4] := by cases args; simp_all
  obtain ⟨rfl, rfl⟩ := trodVars_none hV
  obtain ⟨A0, cs0, cap0, rfl, l0, m0, b0, again0⟩ := arg_bytes (hval 0 23 v0 rfl rfl) h0
  have x0 := arg_extra h0
  obtain ⟨a1, rfl, rfl, rfl, w1⟩ := open_int Tryd.underlying5 (hval 1 5 v1 rfl rfl) h1
  have k1 := wf_u8 w1
  obtain ⟨n1, rfl⟩ : ∃ u : UInt8, a1 = (u.toNat : Int) := ⟨UInt8.ofNat a1.toNat, by simp; omega⟩
  obtain ⟨a2, rfl, rfl, rfl, w2⟩ := open_int Tryd.underlying5 (hval 2 5 v2 rfl rfl) h2
  have k2 := wf_u8 w2
  obtain ⟨n2, rfl⟩ : ∃ u : UInt8, a2 = (u.toNat : Int) := ⟨UInt8.ofNat a2.toNat, by simp; omega⟩
  obtain ⟨a3, rfl, rfl, rfl, w3⟩ := open_int Tryd.underlying22 (hval 3 22 v3 rfl rfl) h3
  have k3 := wf_u64 w3
  obtain ⟨n3, rfl⟩ : ∃ n : Nat, a3 = n := ⟨a3.toNat, by omega⟩
  obtain ⟨a4, rfl, rfl, rfl, w4⟩ := open_int Tryd.underlying22 (hval 4 22 v4 rfl rfl) h4
  have k4 := wf_u64 w4
  obtain ⟨n4, rfl⟩ : ∃ n : Nat, a4 = n := ⟨a4.toNat, by omega⟩
  clear hA0 hval0
  simp only [List.append_nil] at hW'
  refine (back_walk A0 cs0 _ cap0 n1.toNat n2.toNat n3 n4 n1.toNat_lt W rfl b0 hS).mono fun e W' ⟨he, hg⟩ => ?_
  subst he
  exact ⟨_, rfl, true_last hW' rfl (by kernel_rfl) Tryd.underlying4 rfl rfl rfl (of_decide_eq_true (by kernel_rfl)) hg⟩

/-- The row. -/
theorem said : Rows.CtxBackSaid :=
  OpenClaim.holds_of_wide 7 Tryd.f7 rfl rfl rfl rfl rfl rfl rfl ⟨rfl, rfl, rfl, rfl, rfl⟩ rfl rfl rfl rfl rfl (by kernel_rfl) Tryd.func7 (by kernel_rfl)
    (of_decide_eq_true (by kernel_rfl)) (by unfold Func.isWrapper; first | (rw [if_pos (by decide +kernel)]; kernel_rfl) | (rw [if_neg (by decide +kernel)]; exact ⟨rfl, rfl⟩))
    (fun os started H enc _ => lifted os started H enc)
/-- **CtxBack, at every input: the card, its listed variables tied to the program's text.** -/
theorem proved : Rows.CtxBackCardSaid :=
  Claim7.holds_tied_plain_at .later [] [.data, .data, .pinned] true Rows.ctxBackCard.stood.harness false
    said (fun _ h => by cases h) (by kernel_rfl) (fun _ h => by cases h) ctxBack_row_tie rfl ⟨rfl, rfl⟩ (by kernel_rfl) rfl
    (fun f fn hf hfn => by
      obtain rfl : f = 7 := Option.some.inj ((show Tryd.prog.funcNamed "telemeter/telemeterlaw04.CtxBack" = some 7 by kernel_rfl).symm.trans hf) |>.symm
      obtain rfl : fn = Tryd.f7 := (Option.some.inj (Tryd.func7.symm.trans hfn)).symm
      exact ⟨by kernel_rfl, fun j t ht => by
        rw [Tryd.params7] at ht
        have hm : t ∈ [23, 5, 5, 22, 22] := by simpa using Array.mem_of_getElem? ht
        have hall : ([23, 5, 5, 22, 22].all fun u => !Tryd.prog.wantsStandIn u) = true := by kernel_rfl
        exact (show Tryd.prog.wantsStandIn t = false by simpa using List.all_eq_true.1 hall t hm)⟩)
    (by kernel_rfl)
end CtxBack

end Go.Proofs.YtkfidolbbnmjfaaDoor
