/-
  What the document's own New of a rate does.
-/
import Derived.Test.YtkhbodlffhfmnaaDoorWinDocAdd
import Derived.Test.YtkhbodlffhfmnaaDoorStorePart
namespace Go.Proofs.YtkhbodlffhfmnaaDoor
open Go.RowKit Go.Proofs.HashMath Go.Proofs.SkMath

set_option linter.unusedSimpArgs false in
set_option maxRecDepth 100000 in
set_option maxHeartbeats 2000000 in
theorem refRNew_any (bs : List Nat) (r m seed long tg : Nat) (w : World) (hbs : ∀ k ∈ bs, k < w.heap.size) (r1 : 1 ≤ r) (r8 : r ≤ 8) (m1 : 1 ≤ m) (m2 : m ≤ 1024) (l1 : 1 ≤ long) (l2 : long ≤ 1099511627776) (t1 : 1 ≤ tg) :
    Calls Tryd.prog 17 #[.int .i64 (r : Int), .int .i64 (m : Int), .int .u64 (seed : Int), .int .i64 (long : Int), .int .u64 (tg : Int)] w fun e w' => ∃ cL ccL cT ccT, e = .returned (.tuple #[.agg #[.int .i64 (r : Int), .int .i64 (m : Int), .int .u64 (seed : Int), .int .i64 (long : Int), .int .i64 0, .slice (some ⟨cL, 0, none⟩) r ccL, .int .i64 (m : Int), .int .u64 (sdL seed 0 : Int), .int .u64 0, .slice (some ⟨cT, 0, none⟩) r ccT, .int .i64 (m : Int), .int .u64 (seed : Int), .int .u64 0, .int .u64 (tg : Int)], .bool true]) ∧ Doc bs w' r m Z Z cL ccL 0 cT ccT 0 ∧ Below w.heap.size w w' := by
  have d1 : decide ((0 : Int) < (tg : Int)) = true := by simp; omega
  have d1' : decide (0 < tg) = true := by simp; omega
  obtain ⟨n0, hn0⟩ : ∃ n0, w.heap.size = n0 := ⟨_, rfl⟩
  have hb0 : Blk (w.alloc (.cells #[.int .i64 0, .int .i64 0, .int .u64 0, .int .i64 0, .int .i64 0, .slice none 0 0, .int .i64 0, .int .u64 0, .int .u64 0, .slice none 0 0, .int .i64 0, .int .u64 0, .int .u64 0, .int .u64 0] 42)) n0 #[.int .i64 0, .int .i64 0, .int .u64 0, .int .i64 0, .int .i64 0, .slice none 0 0, .int .i64 0, .int .u64 0, .int .u64 0, .slice none 0 0, .int .i64 0, .int .u64 0, .int .u64 0, .int .u64 0] 42 := hn0 ▸ blk_new w _ _
  have hB := hn0 ▸ box_below (W := w) (.cells #[.int .i64 0, .int .i64 0, .int .u64 0, .int .i64 0, .int .i64 0, .slice none 0 0, .int .i64 0, .int .u64 0, .int .u64 0, .slice none 0 0, .int .i64 0, .int .u64 0, .int .u64 0, .int .u64 0] 42)
  have hsz : (w.alloc (.cells #[.int .i64 0, .int .i64 0, .int .u64 0, .int .i64 0, .int .i64 0, .slice none 0 0, .int .i64 0, .int .u64 0, .int .u64 0, .slice none 0 0, .int .i64 0, .int .u64 0, .int .u64 0, .int .u64 0] 42)).heap.size = n0 + 1 := by rw [World.size_alloc, hn0]
  have hN := refWNew_any (n0 :: bs) r m seed long (w.alloc (.cells #[.int .i64 0, .int .i64 0, .int .u64 0, .int .i64 0, .int .i64 0, .slice none 0 0, .int .i64 0, .int .u64 0, .int .u64 0, .slice none 0 0, .int .i64 0, .int .u64 0, .int .u64 0, .int .u64 0] 42)) (fun k hk => by
    rw [hsz]
    rcases List.mem_cons.1 hk with e | e
    · omega
    · have := hbs k e; omega) r1 r8 m1 m2 l1 l2
  obtain ⟨x, hx⟩ : ∃ x, sdL seed 0 = x := ⟨_, rfl⟩
  rw [hx] at hN ⊢
  rw [hn0]
  have HN := Lib.hid hN
  have HB := Lib.hid hB
  have HB0 := Lib.hid hb0
  have HSZ := Lib.hid hsz
  clear hbs hB hb0 hsz hx hN
  go_enter Tryd.func17, Tryd.ntmps17
  go_wp2_with fail
  refine HN.out.mono ?_
  rintro e w3 ⟨cL, ccL, cT, ccT, rfl, hd3, hb3⟩
  have hx3 := box_below (W := w3) (.cells #[.int .i64 (r : Int), .int .i64 (m : Int), .int .u64 (seed : Int), .int .i64 (long : Int), .int .i64 0, .slice (some ⟨cL, 0, none⟩) r ccL, .int .i64 (m : Int), .int .u64 (x : Int), .int .u64 0, .slice (some ⟨cT, 0, none⟩) r ccT, .int .i64 (m : Int), .int .u64 (seed : Int), .int .u64 0] 40)
  have G0 := Lib.hid ((HB0.out.later hb3).later hx3)
  have HBB := Lib.hid ((HB.out.trans (hb3.mono (by rw [HSZ.out]; omega))).trans (hx3.mono (by have := hb3.size; rw [HSZ.out] at this; omega)))
  have HD := Lib.hid (hd3.later hx3)
  clear hx3 hd3 hb3
  go_wp2_with (refine wpList_store_row rfl 42 (.tmp 10) _ rfl n0 #[.int .i64 (r : Int), .int .i64 (m : Int), .int .u64 (seed : Int), .int .i64 (long : Int), .int .i64 0, .slice (some ⟨cL, 0, none⟩) r ccL, .int .i64 (m : Int), .int .u64 (x : Int), .int .u64 0, .slice (some ⟨cT, 0, none⟩) r ccT, .int .i64 (m : Int), .int .u64 (seed : Int), .int .u64 0, .int .u64 (tg : Int)] rfl rfl 42 #[.int .i64 0, .int .i64 0, .int .u64 0, .int .i64 0, .int .i64 0, .slice none 0 0, .int .i64 0, .int .u64 0, .int .u64 0, .slice none 0 0, .int .i64 0, .int .u64 0, .int .u64 0, .int .u64 0] G0.out (by kernel_rfl) rfl (by simp [Value.oneCell']) ?_)
  have hrz := setRow_heap _ _ _ #[.int .i64 (r : Int), .int .i64 (m : Int), .int .u64 (seed : Int), .int .i64 (long : Int), .int .i64 0, .slice (some ⟨cL, 0, none⟩) r ccL, .int .i64 (m : Int), .int .u64 (x : Int), .int .u64 0, .slice (some ⟨cT, 0, none⟩) r ccT, .int .i64 (m : Int), .int .u64 (seed : Int), .int .u64 0, .int .u64 (tg : Int)] _ _ G0.out
  have r0 := cell_of_row _ _ 0 _ _ _ hrz
  have r1 := cell_of_row _ _ 1 _ _ _ hrz
  have r2 := cell_of_row _ _ 2 _ _ _ hrz
  have r3 := cell_of_row _ _ 3 _ _ _ hrz
  have r4 := cell_of_row _ _ 4 _ _ _ hrz
  have r5 := cell_of_row _ _ 5 _ _ _ hrz
  have r6 := cell_of_row _ _ 6 _ _ _ hrz
  have r7 := cell_of_row _ _ 7 _ _ _ hrz
  have r8 := cell_of_row _ _ 8 _ _ _ hrz
  have r9 := cell_of_row _ _ 9 _ _ _ hrz
  have r10 := cell_of_row _ _ 10 _ _ _ hrz
  have r11 := cell_of_row _ _ 11 _ _ _ hrz
  have r12 := cell_of_row _ _ 12 _ _ _ hrz
  have r13 := cell_of_row _ _ 13 _ _ _ hrz
  exact bodyPost_ret (v := .tuple #[.agg #[.int .i64 (r : Int), .int .i64 (m : Int), .int .u64 (seed : Int), .int .i64 (long : Int), .int .i64 0, .slice (some ⟨cL, 0, none⟩) r ccL, .int .i64 (m : Int), .int .u64 (x : Int), .int .u64 0, .slice (some ⟨cT, 0, none⟩) r ccT, .int .i64 (m : Int), .int .u64 (seed : Int), .int .u64 0, .int .u64 (tg : Int)], .bool true]) (by simp [results, Tryd.results17, go_sem, r0, r1, r2, r3, r4, r5, r6, r7, r8, r9, r10, r11, r12, r13]) rfl ⟨cL, ccL, cT, ccT, rfl, (HD.out.step ((Mut.setRow _ n0 _).wider (by simp)) (Ext.refl _ _)).sub (by simp +contextual), below_setRow HBB.out (Nat.le_refl _) _⟩
end Go.Proofs.YtkhbodlffhfmnaaDoor
