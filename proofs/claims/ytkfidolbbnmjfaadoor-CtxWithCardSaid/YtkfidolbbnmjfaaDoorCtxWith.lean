/-
  What ctx.laidMarks, ctx.Read and ctx.With tell, whatever the text and the marks.
-/
import Derived.Test.YtkfidolbbnmjfaaDoorCtxStrs
import Derived.Test.YtkfidolbbnmjfaaDoorCtxNum
namespace Go.Proofs.YtkfidolbbnmjfaaDoor
open Go.RowKit Go.Shelf Go.Proofs.CtxState Go.Proofs.SeqOwn

theorem addOk2 {a : List UInt8} {l m : Nat} (h : a.length ≤ l) (hl : l + m ≤ 9223372036854775807) : ¬ 9223372036854775807 < m + (bs a).size := by rw [size_bs]; omega

set_option maxRecDepth 100000 in
set_option maxHeartbeats 4000000 in
theorem laidMarks_any (a : Bool) (t : Nat) (b : Bool) (r : Nat) (w : World) :
    Calls Tryd.prog 24 #[.agg #[.bool a, .int .u64 (t : Int), .bool b, .int .u64 (r : Int)]] w fun e w' => e = .returned (.string (bs (laidM a t b r))) ∧ Below w.heap.size w w' := by
  have hK0 := blk_new w #[.bool a, .int .u64 (t : Int), .bool b, .int .u64 (r : Int)] 29
  have hB0 := box_below (W := w) (.cells #[.bool a, .int .u64 (t : Int), .bool b, .int .u64 (r : Int)] 29)
  obtain ⟨hp1, hp2⟩ := parts_len a t b r
  have hjl := (laidM_len a t b r).1
  have hsl := short_len t
  have htl := CtxMath.last_len t 14 (by omega)
  have hrl := CtxMath.last_len r 14 (by omega)
  -- the threshold's digits
  obtain ⟨dd, hdd⟩ : ∃ dd : ByteArray, (⟨(CtxMath.last t 14).toArray⟩ : ByteArray) = dd := ⟨_, rfl⟩
  have hds : dd.size = 14 := by rw [← hdd]; exact (size_bs _).trans htl
  obtain ⟨x1, hx1⟩ : ∃ x1, dd.extract 0 1 = x1 := ⟨_, rfl⟩
  obtain ⟨x2, hx2⟩ : ∃ x2, dd.extract 1 14 = x2 := ⟨_, rfl⟩
  have ex1 : x1 = bs ((CtxMath.last t 14).take 1) := by rw [← hx1, take_bs, ← hdd]
  have ex2 : x2 = bs ((CtxMath.last t 14).drop 1) := by rw [← hx2, ← hds, drop_bs, ← hdd]; rfl
  have hT := fun W => Tryd.strings_TrimRight_one x2 48 (by decide) W (by rw [ex2, size_bs]; simp; omega)
  obtain ⟨y, hy⟩ : ∃ y : ByteArray, (⟨(Lib.trimRightB x2.data.toList 48).toArray⟩ : ByteArray) = y := ⟨_, rfl⟩
  rw [hy] at hT
  have ey : y = bs (Lib.trimRightB ((CtxMath.last t 14).drop 1) 48) := by rw [← hy, ex2, list_bs]; rfl
  obtain ⟨z, hz⟩ : ∃ z, x1 ++ y = z := ⟨_, rfl⟩
  have ez : z = bs (shortL t) := by rw [← hz, ex1, ey, addStr]; rfl
  obtain ⟨zz, hzz⟩ : ∃ zz, (⟨#[116, 104, 58]⟩ : ByteArray) ++ z = zz := ⟨_, rfl⟩
  have ezz : zz = bs ([116, 104, 58] ++ shortL t) := by rw [← hzz, ez, ← addStr]; rfl
  have q1 : ¬ 9223372036854775807 < x1.size + y.size := by
    have := trim_len ((CtxMath.last t 14).drop 1) 48
    rw [ex1, ey, size_bs, size_bs]
    simp only [List.length_take, List.length_drop] at this ⊢
    omega
  have q2 : ¬ 9223372036854775807 < 3 + z.size := by rw [ez, size_bs]; omega
  -- the number's
  obtain ⟨rr, hrr⟩ : ∃ rr : ByteArray, (⟨(CtxMath.last r 14).toArray⟩ : ByteArray) = rr := ⟨_, rfl⟩
  obtain ⟨rz, hrz⟩ : ∃ rz, (⟨#[114, 118, 58]⟩ : ByteArray) ++ rr = rz := ⟨_, rfl⟩
  have erz : rz = bs ([114, 118, 58] ++ CtxMath.last r 14) := by rw [← hrz, ← addStr, ← hrr]; rfl
  have q3 : ¬ 9223372036854775807 < 3 + rr.size := by rw [← hrr]; show ¬ _ < 3 + (bs _).size; rw [size_bs]; omega
  -- the whole
  obtain ⟨jj, hjj⟩ : ∃ jj : ByteArray, bs (Lib.join (partsL a t b r) [59]) = jj := ⟨_, rfl⟩
  obtain ⟨lm, hlm⟩ : ∃ lm, (⟨#[111, 116, 61]⟩ : ByteArray) ++ jj = lm := ⟨_, rfl⟩
  have elm : bs (laidM a t b r) = lm := by rw [← hlm, ← hjj, laidM, ← addStr]; rfl
  have q4 : ¬ 9223372036854775807 < 3 + jj.size := by rw [← hjj, size_bs]; omega
  have HT := Lib.hid hT
  have HZZ := Lib.hid ezz
  have HRZ := Lib.hid erz
  have HLM := Lib.hid elm
  have HPL := Lib.hid hp1
  have HJL := Lib.hid hjl
  rw [elm]
  clear hT ez ezz erz elm hp2 hsl htl hrl ex1 ex2 ey hy
  cases a with
  | true =>
    cases b with
    | true =>
      go_enter Tryd.func24, Tryd.ntmps24
      go_wp2_with fail
      refine (laid_any t 14 _ (by decide) (by decide)).mono ?_
      rintro e w1 ⟨rfl, hb1⟩
      have B1 := hB0.trans (hb1.mono hB0.size)
      have k1 := hK0.later hb1
      rw [hdd]
      clear hb1 hK0 hB0
      have HK1 := Lib.hid k1
      have HB1 := Lib.hid B1
      clear k1 B1
      go_wp2_with fail
      go_quiet ((go_at_call 35; exact Calls.quiet_of_same (HT.out _)))
      have HK2 : Hid (Blk (w1.drewN nq) w.heap.size #[.bool true, .int .u64 (t : Int), .bool true, .int .u64 (r : Int)] 29) := HK1.out
      have HB2 : Hid (Below w.heap.size w (w1.drewN nq)) := below_drewN HB1.out nq
      revert HK2 HB2
      generalize w1.drewN nq = w2
      intro HK2 HB2
      clear HK1 HB1
      go_wp2_with (at_builtin; refine app_strs rfl _ _ rfl w.heap.size _ (.slice none 0 0) _ [] [[116, 104, 58] ++ shortL t] rfl (SL.nil _ _) rfl (SL.one w2 zz _ HZZ.out) (by simp) (by have := HB2.out.size; simp; omega) ?_; intro sl w3 hsl3 hg3; have B3 : Below w.heap.size w w3 := (HB2.out.alloc HB2.out.size _).grown hg3 (by simp; have := HB2.out.size; omega) (fun j e => by cases e); have k3 : Blk w3 w.heap.size #[.bool true, .int .u64 (t : Int), .bool true, .int .u64 (r : Int)] 29 := (HK2.out.later (box_below _)).same (hg3.block _ (by have := HK2.out.lt; simp; omega) (by intro e; cases e)); have HK3 := Lib.hid k3; have HB3 := Lib.hid B3; have HSL := Lib.hid hsl3; have g2 := k3.cell 2 rfl; have g3 := k3.cell 3 rfl; clear hg3 k3 B3 hsl3)
      refine (laid_any r 14 _ (by decide) (by decide)).mono ?_
      rintro e w4 ⟨rfl, hb4⟩
      have B4 := HB3.out.trans (hb4.mono HB3.out.size)
      have s4 := HSL.out.later hb4
      rw [hrr]
      have HB4 := Lib.hid B4
      have HS4 := Lib.hid s4
      clear hb4 B4 s4 g2 g3
      go_wp2_with (at_builtin; refine app_strs rfl _ _ rfl w.heap.size _ sl _ ([] ++ [[116, 104, 58] ++ shortL t]) [[114, 118, 58] ++ CtxMath.last r 14] rfl (HS4.out.later (box_below _)) rfl (SL.one w4 rz _ HRZ.out) (by simp) (by have := HB4.out.size; simp; omega) ?_; intro sl5 w5 hsl5 hg5; have B5 : Below w.heap.size w w5 := (HB4.out.alloc HB4.out.size _).grown hg5 (by simp; have := HB4.out.size; omega) (fun j e => (World.ownsRow.lt HS4.out j e).1); have HB5 := Lib.hid B5; have HS5 := Lib.hid hsl5; clear hg5 B5 hsl5)
      have hJ := join_any sl5 (partsL true t true r) 59 w.heap.size w5 HS5.out (Nat.le_trans HJL.out (by decide)) (Nat.le_trans HPL.out (by decide))
      refine hJ.mono ?_
      rintro e w6 ⟨rfl, hb6⟩
      have B6 := HB5.out.trans (hb6.mono HB5.out.size)
      rw [hjj]
      have HB6 := Lib.hid B6
      clear hb6 B6 hJ
      go_wp2_with fail
      go_ret
      exact ⟨HLM.out ▸ rfl, HB6.out⟩
    | false =>
      go_enter Tryd.func24, Tryd.ntmps24
      go_wp2_with fail
      refine (laid_any t 14 _ (by decide) (by decide)).mono ?_
      rintro e w1 ⟨rfl, hb1⟩
      have B1 := hB0.trans (hb1.mono hB0.size)
      have k1 := hK0.later hb1
      rw [hdd]
      clear hb1 hK0 hB0
      have HK1 := Lib.hid k1
      have HB1 := Lib.hid B1
      clear k1 B1
      go_wp2_with fail
      go_quiet ((go_at_call 35; exact Calls.quiet_of_same (HT.out _)))
      have HK2 : Hid (Blk (w1.drewN nq) w.heap.size #[.bool true, .int .u64 (t : Int), .bool false, .int .u64 (r : Int)] 29) := HK1.out
      have HB2 : Hid (Below w.heap.size w (w1.drewN nq)) := below_drewN HB1.out nq
      revert HK2 HB2
      generalize w1.drewN nq = w2
      intro HK2 HB2
      clear HK1 HB1
      go_wp2_with (at_builtin; refine app_strs rfl _ _ rfl w.heap.size _ (.slice none 0 0) _ [] [[116, 104, 58] ++ shortL t] rfl (SL.nil _ _) rfl (SL.one w2 zz _ HZZ.out) (by simp) (by have := HB2.out.size; simp; omega) ?_; intro sl w3 hsl3 hg3; have B3 : Below w.heap.size w w3 := (HB2.out.alloc HB2.out.size _).grown hg3 (by simp; have := HB2.out.size; omega) (fun j e => by cases e); have k3 : Blk w3 w.heap.size #[.bool true, .int .u64 (t : Int), .bool false, .int .u64 (r : Int)] 29 := (HK2.out.later (box_below _)).same (hg3.block _ (by have := HK2.out.lt; simp; omega) (by intro e; cases e)); have HK3 := Lib.hid k3; have HB3 := Lib.hid B3; have HSL := Lib.hid hsl3; have g2 := k3.cell 2 rfl; have g3 := k3.cell 3 rfl; clear hg3 k3 B3 hsl3)
      have HB5 := HB3
      have HS5 := HSL
      have hJ := join_any sl (partsL true t false r) 59 w.heap.size w3 HS5.out (Nat.le_trans HJL.out (by decide)) (Nat.le_trans HPL.out (by decide))
      refine hJ.mono ?_
      rintro e w6 ⟨rfl, hb6⟩
      have B6 := HB5.out.trans (hb6.mono HB5.out.size)
      rw [hjj]
      have HB6 := Lib.hid B6
      clear hb6 B6 hJ
      go_wp2_with fail
      go_ret
      exact ⟨HLM.out ▸ rfl, HB6.out⟩
  | false =>
    cases b with
    | true =>
      go_enter Tryd.func24, Tryd.ntmps24
      go_wp2_with fail
      obtain ⟨w3, hw3⟩ : ∃ w3, w.alloc (.cells #[.bool false, .int .u64 (t : Int), .bool true, .int .u64 (r : Int)] 29) = w3 := ⟨_, rfl⟩
      rw [hw3] at hK0 hB0 ⊢
      have HK3 := Lib.hid hK0
      have HB3 := Lib.hid hB0
      obtain ⟨sl, hsl⟩ : ∃ sl : Value, .slice none 0 0 = sl := ⟨_, rfl⟩
      have HSL : Hid (SL w3 w.heap.size sl []) := hsl ▸ SL.nil _ _
      rw [hsl]
      have g2 := hK0.cell 2 rfl
      have g3 := hK0.cell 3 rfl
      clear hw3 hK0 hB0 hsl
      refine (laid_any r 14 _ (by decide) (by decide)).mono ?_
      rintro e w4 ⟨rfl, hb4⟩
      have B4 := HB3.out.trans (hb4.mono HB3.out.size)
      have s4 := HSL.out.later hb4
      rw [hrr]
      have HB4 := Lib.hid B4
      have HS4 := Lib.hid s4
      clear hb4 B4 s4 g2 g3
      go_wp2_with (at_builtin; refine app_strs rfl _ _ rfl w.heap.size _ sl _ ([]) [[114, 118, 58] ++ CtxMath.last r 14] rfl (HS4.out.later (box_below _)) rfl (SL.one w4 rz _ HRZ.out) (by simp) (by have := HB4.out.size; simp; omega) ?_; intro sl5 w5 hsl5 hg5; have B5 : Below w.heap.size w w5 := (HB4.out.alloc HB4.out.size _).grown hg5 (by simp; have := HB4.out.size; omega) (fun j e => (World.ownsRow.lt HS4.out j e).1); have HB5 := Lib.hid B5; have HS5 := Lib.hid hsl5; clear hg5 B5 hsl5)
      have hJ := join_any sl5 (partsL false t true r) 59 w.heap.size w5 HS5.out (Nat.le_trans HJL.out (by decide)) (Nat.le_trans HPL.out (by decide))
      refine hJ.mono ?_
      rintro e w6 ⟨rfl, hb6⟩
      have B6 := HB5.out.trans (hb6.mono HB5.out.size)
      rw [hjj]
      have HB6 := Lib.hid B6
      clear hb6 B6 hJ
      go_wp2_with fail
      go_ret
      exact ⟨HLM.out ▸ rfl, HB6.out⟩
    | false =>
      go_enter Tryd.func24, Tryd.ntmps24
      go_wp2_with fail
      obtain ⟨w3, hw3⟩ : ∃ w3, w.alloc (.cells #[.bool false, .int .u64 (t : Int), .bool false, .int .u64 (r : Int)] 29) = w3 := ⟨_, rfl⟩
      rw [hw3] at hK0 hB0 ⊢
      have HK3 := Lib.hid hK0
      have HB3 := Lib.hid hB0
      obtain ⟨sl, hsl⟩ : ∃ sl : Value, .slice none 0 0 = sl := ⟨_, rfl⟩
      have HSL : Hid (SL w3 w.heap.size sl []) := hsl ▸ SL.nil _ _
      rw [hsl]
      have g2 := hK0.cell 2 rfl
      have g3 := hK0.cell 3 rfl
      clear hw3 hK0 hB0 hsl
      have HB5 := HB3
      have HS5 := HSL
      have hJ := join_any sl (partsL false t false r) 59 w.heap.size w3 HS5.out (Nat.le_trans HJL.out (by decide)) (Nat.le_trans HPL.out (by decide))
      refine hJ.mono ?_
      rintro e w6 ⟨rfl, hb6⟩
      have B6 := HB5.out.trans (hb6.mono HB5.out.size)
      rw [hjj]
      have HB6 := Lib.hid B6
      clear hb6 B6 hJ
      go_wp2_with fail
      go_ret
      exact ⟨HLM.out ▸ rfl, HB6.out⟩
end Go.Proofs.YtkfidolbbnmjfaaDoor
