/-
  What ctx.Read and ctx.With tell, whatever the text and the marks.
-/
import Derived.Test.YtkfidolbbnmjfaaDoorCtxWith
namespace Go.Proofs.YtkfidolbbnmjfaaDoor
open Go.RowKit Go.Shelf Go.Proofs.CtxState Go.Proofs.SeqOwn

theorem read_err (cs : List UInt8) : (readSt cs).1 = 3 ∨ (readSt cs).1 = 31 ∨ (readSt cs).1 = 0 := by
  unfold readSt
  split
  · exact .inl rfl
  · split
    · exact .inr (.inl rfl)
    · exact .inr (.inr rfl)

set_option maxRecDepth 100000 in
set_option maxHeartbeats 4000000 in
theorem read_any (s : ByteArray) (w : World) :
    Calls Tryd.prog 19 #[.string s] w fun e w' => e = .returned (.tuple #[.agg (mkRow (readSt s.data.toList).2.1), .int .u16 ((readSt s.data.toList).1 : Int)]) ∧ Below w.heap.size w w' := by
  have hR := readState_any s (w.alloc (.cells #[.bool false, .int .u64 0, .bool false, .int .u64 0] 29))
  obtain ⟨⟨er, ⟨a0, a1, a2, a3, a4⟩, oth⟩, hr⟩ : ∃ R, readSt s.data.toList = R := ⟨_, rfl⟩
  rw [hr] at hR ⊢
  clear hr
  have hK0 := blk_new w #[.bool false, .int .u64 0, .bool false, .int .u64 0] 29
  have hB0 := box_below (W := w) (.cells #[.bool false, .int .u64 0, .bool false, .int .u64 0] 29)
  dsimp only [mkRow] at hR ⊢
  have HR := Lib.hid hR
  clear hR
  go_enter Tryd.func19, Tryd.ntmps19
  go_wp2_with fail
  refine HR.out.mono ?_
  rintro e w1 ⟨hb1, sl, rfl, _⟩
  have B1 := (hB0.trans (hb1.mono hB0.size)).alloc (hB0.trans (hb1.mono hB0.size)).size (.cells #[.bool a0, .int .u64 (a1 : Int), .bool a2, .int .u64 (a3 : Int)] 29)
  have k1 := (hK0.later hb1).later (box_below (.cells #[.bool a0, .int .u64 (a1 : Int), .bool a2, .int .u64 (a3 : Int)] 29))
  clear hb1 hB0 hK0
  have c0 := k1.cell 0 rfl
  have c1 := k1.cell 1 rfl
  have c2 := k1.cell 2 rfl
  have c3 := k1.cell 3 rfl
  have f0 := k1.free 0
  have f1 := k1.free 1
  have f2 := k1.free 2
  have f3 := k1.free 3
  have HK := Lib.hid k1
  have HB := Lib.hid B1
  clear k1 B1
  go_wp2_with fail
  have hq := ((((HK.out.set 0 (.bool a0)).set 1 (.int .u64 (a1 : Int))).set 2 (.bool a2)).set 3 (.int .u64 (a3 : Int)))
  have hB := (((HB.out.setCell (p := ⟨w.heap.size, 0, none⟩) (Nat.le_refl _) (.bool a0)).setCell (p := ⟨w.heap.size, 1, none⟩) (Nat.le_refl _) (.int .u64 (a1 : Int))).setCell (p := ⟨w.heap.size, 2, none⟩) (Nat.le_refl _) (.bool a2)).setCell (p := ⟨w.heap.size, 3, none⟩) (Nat.le_refl _) (.int .u64 (a3 : Int))
  revert hq hB
  generalize (((((w1.alloc (.cells #[.bool a0, .int .u64 (a1 : Int), .bool a2, .int .u64 (a3 : Int)] 29)).setCell ⟨w.heap.size, 0, none⟩ (.bool a0)).setCell ⟨w.heap.size, 1, none⟩ (.int .u64 (a1 : Int))).setCell ⟨w.heap.size, 2, none⟩ (.bool a2)).setCell ⟨w.heap.size, 3, none⟩ (.int .u64 (a3 : Int))) = W5
  intro hq hB
  have r0 := hq.cell 0 rfl
  have r1 := hq.cell 1 rfl
  have r2 := hq.cell 2 rfl
  have r3 := hq.cell 3 rfl
  exact bodyPost_ret (v := .tuple #[.agg #[.bool a0, .int .u64 (a1 : Int), .bool a2, .int .u64 (a3 : Int)], .int .u16 (er : Int)]) (by simp [results, Tryd.results19, go_sem, r0, r1, r2, r3]) rfl ⟨rfl, hB⟩

def withV (p : List UInt8 × Nat) : Value := .tuple #[.string (bs p.1), .int .u16 (p.2 : Int)]
set_option maxRecDepth 100000 in
set_option maxHeartbeats 4000000 in
theorem with_any (s : ByteArray) (a : Bool) (t : Nat) (b : Bool) (r : Nat) (w : World) :
    Calls Tryd.prog 10 #[.string s, .agg #[.bool a, .int .u64 (t : Int), .bool b, .int .u64 (r : Int)]] w fun e w' => e = .returned (withV (withOf s.data.toList a t b r)) ∧ Below w.heap.size w w' := by
  have hR := readState_any s (w.alloc (.cells #[.bool a, .int .u64 (t : Int), .bool b, .int .u64 (r : Int)] 29))
  have hE := read_err s.data.toList
  have hL := membersW_lens a t b r s.data.toList
  obtain ⟨wo, hwo⟩ : ∃ wo, withOf s.data.toList a t b r = wo := ⟨_, rfl⟩
  rw [hwo]
  unfold withOf at hwo
  obtain ⟨⟨er, ⟨a0, a1, a2, a3, a4⟩, oth⟩, hr⟩ : ∃ R, readSt s.data.toList = R := ⟨_, rfl⟩
  rw [hr] at hR hE hL hwo
  clear hr
  have hK0 := blk_new w #[.bool a, .int .u64 (t : Int), .bool b, .int .u64 (r : Int)] 29
  have hB0 := box_below (W := w) (.cells #[.bool a, .int .u64 (t : Int), .bool b, .int .u64 (r : Int)] 29)
  dsimp only [mkRow] at hR hE hL hwo
  rcases hE with rfl | rfl | rfl
  · have hwo2 : wo = ([], 3) := by rw [← hwo]; rfl
    subst hwo2
    have HR := Lib.hid hR
    clear hR hL hwo hK0
    go_enter Tryd.func10, Tryd.ntmps10
    go_wp2_with fail
    refine HR.out.mono ?_
    rintro e w1 ⟨hb1, sl, rfl, _⟩
    have B1 := (hB0.trans (hb1.mono hB0.size)).alloc (hB0.trans (hb1.mono hB0.size)).size (.cells #[.bool a0, .int .u64 (a1 : Int), .bool a2, .int .u64 (a3 : Int)] 29)
    have HB1 := Lib.hid B1
    clear hb1 hB0 B1
    go_wp2_with fail
    go_ret2
    exact ⟨rfl, HB1.out⟩
  · have hwo2 : wo = ([], 31) := by rw [← hwo]; rfl
    subst hwo2
    have HR := Lib.hid hR
    clear hR hL hwo hK0
    go_enter Tryd.func10, Tryd.ntmps10
    go_wp2_with fail
    refine HR.out.mono ?_
    rintro e w1 ⟨hb1, sl, rfl, _⟩
    have B1 := (hB0.trans (hb1.mono hB0.size)).alloc (hB0.trans (hb1.mono hB0.size)).size (.cells #[.bool a0, .int .u64 (a1 : Int), .bool a2, .int .u64 (a3 : Int)] 29)
    have HB1 := Lib.hid B1
    clear hb1 hB0 B1
    go_wp2_with fail
    go_ret2
    exact ⟨rfl, HB1.out⟩
  · rw [if_neg (by simp)] at hwo
    have HR := Lib.hid hR
    have hA := fun W => areMarks_any a t b r W
    cases hare : areM a t b r with
    | false =>
      rw [hare] at hA hwo
      have hwo2 : wo = ([], 1) := by rw [← hwo]; rfl
      subst hwo2
      have HA := Lib.hid hA
      clear hR hL hwo hA hare
      go_enter Tryd.func10, Tryd.ntmps10
      go_wp2_with fail
      refine HR.out.mono ?_
      rintro e w1 ⟨hb1, sl, rfl, _⟩
      have B1 := (hB0.trans (hb1.mono hB0.size)).alloc (hB0.trans (hb1.mono hB0.size)).size (.cells #[.bool a0, .int .u64 (a1 : Int), .bool a2, .int .u64 (a3 : Int)] 29)
      have k1 := (hK0.later hb1).later (box_below (.cells #[.bool a0, .int .u64 (a1 : Int), .bool a2, .int .u64 (a3 : Int)] 29))
      have c0 := k1.cell 0 rfl
      have c1 := k1.cell 1 rfl
      have c2 := k1.cell 2 rfl
      have c3 := k1.cell 3 rfl
      have HB1 := Lib.hid B1
      clear hb1 hB0 B1 k1 hK0
      go_wp2_with fail
      refine (HA.out _).mono ?_
      rintro e w2 ⟨rfl, hb2⟩
      have HB2 := Lib.hid (HB1.out.trans (hb2.mono HB1.out.size))
      clear hb2
      go_wp2_with fail
      go_ret2
      exact ⟨rfl, HB2.out⟩
    | true =>
      rw [hare] at hA hwo
      rw [if_neg (by simp)] at hwo
      have HA := Lib.hid hA
      obtain ⟨J, hJ⟩ : ∃ J, Lib.join (membersW a t b r oth) [44] = J := ⟨_, rfl⟩
      rw [hJ] at hwo hL
      have HJ := Lib.hid hJ
      obtain ⟨hL1, hL2⟩ := hL
      have hIL := fun W => isLong_any (bs J) W
      rw [list_bs] at hIL
      have HIL := Lib.hid hIL
      have HL1 := Lib.hid hL1
      have HL2 := Lib.hid hL2
      have HLM := Lib.hid (fun W => laidMarks_any a t b r W)
      have HWO := Lib.hid hwo
      clear hR hwo hA hare hJ hIL hL1 hL2
      have hol : oth.length ≤ 514 := by have := HL2.out; unfold membersW at this; rw [List.length_append] at this; omega
      go_enter Tryd.func10, Tryd.ntmps10
      go_wp2_with fail
      refine HR.out.mono ?_
      rintro e w1 ⟨hb1, sl, rfl, hown⟩
      have B1 := (hB0.trans (hb1.mono hB0.size)).alloc (hB0.trans (hb1.mono hB0.size)).size (.cells #[.bool a0, .int .u64 (a1 : Int), .bool a2, .int .u64 (a3 : Int)] 29)
      have k1 := (hK0.later hb1).later (box_below (.cells #[.bool a0, .int .u64 (a1 : Int), .bool a2, .int .u64 (a3 : Int)] 29))
      have s1 : SL (w1.alloc (.cells #[.bool a0, .int .u64 (a1 : Int), .bool a2, .int .u64 (a3 : Int)] 29)) w.heap.size sl oth := SL.lower (SL.later (b := (w.alloc (.cells #[.bool a, .int .u64 (t : Int), .bool b, .int .u64 (r : Int)] 29)).heap.size) hown (box_below _)) (by simp)
      have c0 := k1.cell 0 rfl
      have c1 := k1.cell 1 rfl
      have c2 := k1.cell 2 rfl
      have c3 := k1.cell 3 rfl
      have HB1 := Lib.hid B1
      have HK1 := Lib.hid k1
      have HS1 := Lib.hid s1
      clear hb1 hB0 B1 k1 hK0 hown s1
      go_wp2_with fail
      refine (HA.out _).mono ?_
      rintro e w2 ⟨rfl, hb2⟩
      have HB2 := Lib.hid (HB1.out.trans (hb2.mono HB1.out.size))
      have k2 := HK1.out.later hb2
      have HS2 := Lib.hid (HS1.out.later hb2)
      have HK2 := Lib.hid k2
      clear hb2 c0 c1 c2 c3 HB1 HK1 HS1
      have c0 := k2.cell 0 rfl
      have c1 := k2.cell 1 rfl
      have c2 := k2.cell 2 rfl
      have c3 := k2.cell 3 rfl
      clear k2
      cases a with
      | true =>
        cases b with
        | true =>
          have HMW := Lib.hid (show membersW true t true r oth = ([] ++ [laidM true t true r]) ++ oth from rfl)
          go_wp2_with fail
          refine (HLM.out _).mono ?_
          rintro e w3 ⟨rfl, hb3⟩
          have HB3 := Lib.hid (HB2.out.trans (hb3.mono HB2.out.size))
          have HS3 := Lib.hid (HS2.out.later hb3)
          obtain ⟨lm, hlm⟩ : ∃ lm, bs (laidM true t true r) = lm := ⟨_, rfl⟩
          rw [hlm]
          have HLL := Lib.hid hlm.symm
          clear hb3 HB2 HK2 HS2 c0 c1 c2 c3 hlm
          go_wp2_with (first | (at_builtin; refine app_strs rfl _ _ rfl w.heap.size _ (.slice none 0 0) _ [] [laidM true t true r] rfl (SL.nil _ _) rfl (SL.one w3 lm _ HLL.out) (by simp) (by have := HB3.out.size; simp; omega) ?_; intro m4 w4 hm4 hg4; have HM4 := Lib.hid hm4; have HB4 := Lib.hid ((HB3.out.alloc HB3.out.size (.cells #[.string lm] 9)).grown hg4 (by simp; have := HB3.out.size; omega) (fun j e => by cases e)); have HS4 := Lib.hid (SL.grown (HS3.out.later (box_below (.cells #[.string lm] 9))) hg4 (by cases sl.ownBlock <;> simp [Value.ownBlock])); clear hm4 hg4) | (at_builtin; refine app_strs rfl _ _ rfl w.heap.size w.heap.size m4 sl ([] ++ [laidM true t true r]) oth rfl HM4.out rfl HS4.out (by simp; omega) HB4.out.size ?_; intro v5 w5 hv5 hg5; have HV5 := Lib.hid hv5; have HB5 := Lib.hid (HB4.out.grown hg5 HB4.out.size (fun j e => (World.ownsRow.lt HM4.out j e).1)); clear hv5 hg5))
          refine (join_any v5 _ 44 w.heap.size w5 HV5.out (by rw [← HMW.out, HJ.out]; exact Nat.le_trans HL1.out (by decide)) (by rw [← HMW.out]; exact Nat.le_trans HL2.out (by decide))).mono ?_
          rintro e w6 ⟨rfl, hb6⟩
          rw [← HMW.out, HJ.out]
          have HB6 := Lib.hid (HB5.out.trans (hb6.mono HB5.out.size))
          clear hb6
          obtain ⟨jb, hjb⟩ : ∃ jb, bs J = jb := ⟨_, rfl⟩
          rw [hjb] at HIL ⊢
          have HJB := Lib.hid hjb
          clear hjb
          cases htl : tooLong J with
          | true =>
            have hw := HWO.out
            rw [htl] at HIL hw
            have HW := Lib.hid (show ([], 3) = wo from hw)
            clear htl hw
            go_wp2_with fail
            refine (HIL.out _).mono ?_
            rintro e w7 ⟨rfl, rfl⟩
            go_wp2_with fail
            go_ret2
            exact ⟨by rw [← HW.out]; rfl, HB6.out⟩
          | false =>
            have hw := HWO.out
            rw [htl] at HIL hw
            have HW := Lib.hid (show (J, 0) = wo from hw)
            clear htl hw
            go_wp2_with fail
            refine (HIL.out _).mono ?_
            rintro e w7 ⟨rfl, rfl⟩
            go_wp2_with fail
            go_ret2
            exact ⟨by rw [← HW.out]; show _ = Ending.returned (.tuple #[.string (bs J), .int .u16 0]); rw [HJB.out]; rfl, HB6.out⟩
        | false =>
          have HMW := Lib.hid (show membersW true t false r oth = ([] ++ [laidM true t false r]) ++ oth from rfl)
          go_wp2_with fail
          refine (HLM.out _).mono ?_
          rintro e w3 ⟨rfl, hb3⟩
          have HB3 := Lib.hid (HB2.out.trans (hb3.mono HB2.out.size))
          have HS3 := Lib.hid (HS2.out.later hb3)
          obtain ⟨lm, hlm⟩ : ∃ lm, bs (laidM true t false r) = lm := ⟨_, rfl⟩
          rw [hlm]
          have HLL := Lib.hid hlm.symm
          clear hb3 HB2 HK2 HS2 c0 c1 c2 c3 hlm
          go_wp2_with (first | (at_builtin; refine app_strs rfl _ _ rfl w.heap.size _ (.slice none 0 0) _ [] [laidM true t false r] rfl (SL.nil _ _) rfl (SL.one w3 lm _ HLL.out) (by simp) (by have := HB3.out.size; simp; omega) ?_; intro m4 w4 hm4 hg4; have HM4 := Lib.hid hm4; have HB4 := Lib.hid ((HB3.out.alloc HB3.out.size (.cells #[.string lm] 9)).grown hg4 (by simp; have := HB3.out.size; omega) (fun j e => by cases e)); have HS4 := Lib.hid (SL.grown (HS3.out.later (box_below (.cells #[.string lm] 9))) hg4 (by cases sl.ownBlock <;> simp [Value.ownBlock])); clear hm4 hg4) | (at_builtin; refine app_strs rfl _ _ rfl w.heap.size w.heap.size m4 sl ([] ++ [laidM true t false r]) oth rfl HM4.out rfl HS4.out (by simp; omega) HB4.out.size ?_; intro v5 w5 hv5 hg5; have HV5 := Lib.hid hv5; have HB5 := Lib.hid (HB4.out.grown hg5 HB4.out.size (fun j e => (World.ownsRow.lt HM4.out j e).1)); clear hv5 hg5))
          refine (join_any v5 _ 44 w.heap.size w5 HV5.out (by rw [← HMW.out, HJ.out]; exact Nat.le_trans HL1.out (by decide)) (by rw [← HMW.out]; exact Nat.le_trans HL2.out (by decide))).mono ?_
          rintro e w6 ⟨rfl, hb6⟩
          rw [← HMW.out, HJ.out]
          have HB6 := Lib.hid (HB5.out.trans (hb6.mono HB5.out.size))
          clear hb6
          obtain ⟨jb, hjb⟩ : ∃ jb, bs J = jb := ⟨_, rfl⟩
          rw [hjb] at HIL ⊢
          have HJB := Lib.hid hjb
          clear hjb
          cases htl : tooLong J with
          | true =>
            have hw := HWO.out
            rw [htl] at HIL hw
            have HW := Lib.hid (show ([], 3) = wo from hw)
            clear htl hw
            go_wp2_with fail
            refine (HIL.out _).mono ?_
            rintro e w7 ⟨rfl, rfl⟩
            go_wp2_with fail
            go_ret2
            exact ⟨by rw [← HW.out]; rfl, HB6.out⟩
          | false =>
            have hw := HWO.out
            rw [htl] at HIL hw
            have HW := Lib.hid (show (J, 0) = wo from hw)
            clear htl hw
            go_wp2_with fail
            refine (HIL.out _).mono ?_
            rintro e w7 ⟨rfl, rfl⟩
            go_wp2_with fail
            go_ret2
            exact ⟨by rw [← HW.out]; show _ = Ending.returned (.tuple #[.string (bs J), .int .u16 0]); rw [HJB.out]; rfl, HB6.out⟩
      | false =>
        cases b with
        | true =>
          have HMW := Lib.hid (show membersW false t true r oth = ([] ++ [laidM false t true r]) ++ oth from rfl)
          go_wp2_with fail
          refine (HLM.out _).mono ?_
          rintro e w3 ⟨rfl, hb3⟩
          have HB3 := Lib.hid (HB2.out.trans (hb3.mono HB2.out.size))
          have HS3 := Lib.hid (HS2.out.later hb3)
          obtain ⟨lm, hlm⟩ : ∃ lm, bs (laidM false t true r) = lm := ⟨_, rfl⟩
          rw [hlm]
          have HLL := Lib.hid hlm.symm
          clear hb3 HB2 HK2 HS2 c0 c1 c2 c3 hlm
          go_wp2_with (first | (at_builtin; refine app_strs rfl _ _ rfl w.heap.size _ (.slice none 0 0) _ [] [laidM false t true r] rfl (SL.nil _ _) rfl (SL.one w3 lm _ HLL.out) (by simp) (by have := HB3.out.size; simp; omega) ?_; intro m4 w4 hm4 hg4; have HM4 := Lib.hid hm4; have HB4 := Lib.hid ((HB3.out.alloc HB3.out.size (.cells #[.string lm] 9)).grown hg4 (by simp; have := HB3.out.size; omega) (fun j e => by cases e)); have HS4 := Lib.hid (SL.grown (HS3.out.later (box_below (.cells #[.string lm] 9))) hg4 (by cases sl.ownBlock <;> simp [Value.ownBlock])); clear hm4 hg4) | (at_builtin; refine app_strs rfl _ _ rfl w.heap.size w.heap.size m4 sl ([] ++ [laidM false t true r]) oth rfl HM4.out rfl HS4.out (by simp; omega) HB4.out.size ?_; intro v5 w5 hv5 hg5; have HV5 := Lib.hid hv5; have HB5 := Lib.hid (HB4.out.grown hg5 HB4.out.size (fun j e => (World.ownsRow.lt HM4.out j e).1)); clear hv5 hg5))
          refine (join_any v5 _ 44 w.heap.size w5 HV5.out (by rw [← HMW.out, HJ.out]; exact Nat.le_trans HL1.out (by decide)) (by rw [← HMW.out]; exact Nat.le_trans HL2.out (by decide))).mono ?_
          rintro e w6 ⟨rfl, hb6⟩
          rw [← HMW.out, HJ.out]
          have HB6 := Lib.hid (HB5.out.trans (hb6.mono HB5.out.size))
          clear hb6
          obtain ⟨jb, hjb⟩ : ∃ jb, bs J = jb := ⟨_, rfl⟩
          rw [hjb] at HIL ⊢
          have HJB := Lib.hid hjb
          clear hjb
          cases htl : tooLong J with
          | true =>
            have hw := HWO.out
            rw [htl] at HIL hw
            have HW := Lib.hid (show ([], 3) = wo from hw)
            clear htl hw
            go_wp2_with fail
            refine (HIL.out _).mono ?_
            rintro e w7 ⟨rfl, rfl⟩
            go_wp2_with fail
            go_ret2
            exact ⟨by rw [← HW.out]; rfl, HB6.out⟩
          | false =>
            have hw := HWO.out
            rw [htl] at HIL hw
            have HW := Lib.hid (show (J, 0) = wo from hw)
            clear htl hw
            go_wp2_with fail
            refine (HIL.out _).mono ?_
            rintro e w7 ⟨rfl, rfl⟩
            go_wp2_with fail
            go_ret2
            exact ⟨by rw [← HW.out]; show _ = Ending.returned (.tuple #[.string (bs J), .int .u16 0]); rw [HJB.out]; rfl, HB6.out⟩
        | false =>
          have HMW := Lib.hid (show membersW false t false r oth = [] ++ oth from rfl)
          go_wp2_with (at_builtin; refine app_strs rfl _ _ rfl w.heap.size w.heap.size (.slice none 0 0) sl [] oth rfl (SL.nil _ _) rfl HS2.out (by simp; omega) HB2.out.size ?_; intro v5 w5 hv5 hg5; have HV5 := Lib.hid hv5; have HB5 := Lib.hid (HB2.out.grown hg5 HB2.out.size (fun j e => by cases e)); clear hv5 hg5)
          refine (join_any v5 _ 44 w.heap.size w5 HV5.out (by rw [← HMW.out, HJ.out]; exact Nat.le_trans HL1.out (by decide)) (by rw [← HMW.out]; exact Nat.le_trans HL2.out (by decide))).mono ?_
          rintro e w6 ⟨rfl, hb6⟩
          rw [← HMW.out, HJ.out]
          have HB6 := Lib.hid (HB5.out.trans (hb6.mono HB5.out.size))
          clear hb6
          obtain ⟨jb, hjb⟩ : ∃ jb, bs J = jb := ⟨_, rfl⟩
          rw [hjb] at HIL ⊢
          have HJB := Lib.hid hjb
          clear hjb
          cases htl : tooLong J with
          | true =>
            have hw := HWO.out
            rw [htl] at HIL hw
            have HW := Lib.hid (show ([], 3) = wo from hw)
            clear htl hw
            go_wp2_with fail
            refine (HIL.out _).mono ?_
            rintro e w7 ⟨rfl, rfl⟩
            go_wp2_with fail
            go_ret2
            exact ⟨by rw [← HW.out]; rfl, HB6.out⟩
          | false =>
            have hw := HWO.out
            rw [htl] at HIL hw
            have HW := Lib.hid (show (J, 0) = wo from hw)
            clear htl hw
            go_wp2_with fail
            refine (HIL.out _).mono ?_
            rintro e w7 ⟨rfl, rfl⟩
            go_wp2_with fail
            go_ret2
            exact ⟨by rw [← HW.out]; show _ = Ending.returned (.tuple #[.string (bs J), .int .u16 0]); rw [HJB.out]; rfl, HB6.out⟩
end Go.Proofs.YtkfidolbbnmjfaaDoor
