/-
  What the document's own New of a window does.
-/
import Derived.Test.YtkhbodlffhfmnaaDoorWinDoc
namespace Go.Proofs.YtkhbodlffhfmnaaDoor
open Go.RowKit Go.Proofs.HashMath Go.Proofs.SkMath

set_option linter.unusedSimpArgs false in
set_option maxRecDepth 100000 in
set_option maxHeartbeats 2000000 in
theorem refWNew_any (bs : List Nat) (r m seed long : Nat) (w : World) (hbs : ∀ k ∈ bs, k < w.heap.size) (r1 : 1 ≤ r) (r8 : r ≤ 8) (m1 : 1 ≤ m) (m2 : m ≤ 1024) (l1 : 1 ≤ long) (l2 : long ≤ 1099511627776) :
    Calls Tryd.prog 26 #[.int .i64 (r : Int), .int .i64 (m : Int), .int .u64 (seed : Int), .int .i64 (long : Int)] w fun e w' => ∃ cL ccL cT ccT, e = .returned (.tuple #[.agg #[.int .i64 (r : Int), .int .i64 (m : Int), .int .u64 (seed : Int), .int .i64 (long : Int), .int .i64 0, .slice (some ⟨cL, 0, none⟩) r ccL, .int .i64 (m : Int), .int .u64 (sdL seed 0 : Int), .int .u64 0, .slice (some ⟨cT, 0, none⟩) r ccT, .int .i64 (m : Int), .int .u64 (seed : Int), .int .u64 0], .bool true]) ∧ Doc bs w' r m Z Z cL ccL 0 cT ccT 0 ∧ Below w.heap.size w w' := by
  obtain ⟨x, hx, hxl⟩ : ∃ x, sdL seed 0 = x ∧ x < 18446744073709551616 := ⟨_, rfl, sdL_lt _ _⟩
  have e1 : IntKind.u64.wrap ((seed : Int) - 1) = (x : Int) := by rw [IntKind.wrap_u64, ← hx]; unfold sdL; omega
  rw [hx]
  have d1 : decide ((long : Int) < 1) = false := by simp; omega
  have d2 : decide (1099511627776 < (long : Int)) = false := by simp; omega
  obtain ⟨n0, hn0⟩ : ∃ n0, w.heap.size = n0 := ⟨_, rfl⟩
  have hb0 : Blk (w.alloc (.cells #[.int .i64 0, .int .i64 0, .int .u64 0, .int .i64 0, .int .i64 0, .slice none 0 0, .int .i64 0, .int .u64 0, .int .u64 0, .slice none 0 0, .int .i64 0, .int .u64 0, .int .u64 0] 40)) n0 #[.int .i64 0, .int .i64 0, .int .u64 0, .int .i64 0, .int .i64 0, .slice none 0 0, .int .i64 0, .int .u64 0, .int .u64 0, .slice none 0 0, .int .i64 0, .int .u64 0, .int .u64 0] 40 := hn0 ▸ blk_new w _ _
  have hB := hn0 ▸ box_below (W := w) (.cells #[.int .i64 0, .int .i64 0, .int .u64 0, .int .i64 0, .int .i64 0, .slice none 0 0, .int .i64 0, .int .u64 0, .int .u64 0, .slice none 0 0, .int .i64 0, .int .u64 0, .int .u64 0] 40)
  have hsz : (w.alloc (.cells #[.int .i64 0, .int .i64 0, .int .u64 0, .int .i64 0, .int .i64 0, .slice none 0 0, .int .i64 0, .int .u64 0, .int .u64 0, .slice none 0 0, .int .i64 0, .int .u64 0, .int .u64 0] 40)).heap.size = n0 + 1 := by rw [World.size_alloc, hn0]
  have HN := Lib.hid (fun s W => refNew_any r m s W r1 r8 m1 m2)
  rw [hn0] at hbs ⊢
  have HBS := Lib.hid hbs
  have HB := Lib.hid hB
  have HB0 := Lib.hid hb0
  have HSZ := Lib.hid hsz
  have HN0 := Lib.hid hn0
  clear hbs hB hb0 hsz hx
  go_enter Tryd.func26, Tryd.ntmps26
  go_wp2_with fail
  refine (HN.out seed _).mono ?_
  rintro e w3 ⟨cT, ccT, rfl, hR, hb3⟩
  obtain ⟨n3, hn3⟩ : ∃ n3, w3.heap.size = n3 := ⟨_, rfl⟩
  have hx3 := box_below (W := w3) (.cells #[.slice (some ⟨cT, 0, none⟩) r ccT, .int .i64 (m : Int), .int .u64 (seed : Int), .int .u64 0] 38)
  have g3 : Blk (w3.alloc (.cells #[.slice (some ⟨cT, 0, none⟩) r ccT, .int .i64 (m : Int), .int .u64 (seed : Int), .int .u64 0] 38)) n3 #[.slice (some ⟨cT, 0, none⟩) r ccT, .int .i64 (m : Int), .int .u64 (seed : Int), .int .u64 0] 38 := hn3 ▸ blk_new w3 _ _
  have s3 : (w3.alloc (.cells #[.slice (some ⟨cT, 0, none⟩) r ccT, .int .i64 (m : Int), .int .u64 (seed : Int), .int .u64 0] 38)).heap.size = n3 + 1 := by rw [World.size_alloc, hn3]
  have h3 : n0 + 1 ≤ n3 := by have := hb3.size; rw [HSZ.out, hn3] at this; exact this
  have HX3 := Lib.hid hx3
  have G3 := Lib.hid g3
  have S3 := Lib.hid s3
  have HB3 := Lib.hid hb3
  have HR3 := Lib.hid hR
  have HN3 := Lib.hid hn3
  clear hx3 g3 s3 hb3 hR
  go_wp2_with fail
  refine (HN.out x _).mono ?_
  rintro e w4 ⟨cL, ccL, rfl, hR4, hb4⟩
  obtain ⟨n4, hn4⟩ : ∃ n4, w4.heap.size = n4 := ⟨_, rfl⟩
  have h4 : n3 + 1 ≤ n4 := by have := hb4.size; rw [S3.out, hn4] at this; exact this
  have hx4 := box_below (W := w4) (.cells #[.slice (some ⟨cL, 0, none⟩) r ccL, .int .i64 (m : Int), .int .u64 (x : Int), .int .u64 0] 38)
  have g4 : Blk (w4.alloc (.cells #[.slice (some ⟨cL, 0, none⟩) r ccL, .int .i64 (m : Int), .int .u64 (x : Int), .int .u64 0] 38)) n4 #[.slice (some ⟨cL, 0, none⟩) r ccL, .int .i64 (m : Int), .int .u64 (x : Int), .int .u64 0] 38 := hn4 ▸ blk_new w4 _ _
  have g34 := (G3.out.later hb4).later hx4
  have g04 := ((((HB0.out.later HB3.out).later HX3.out).later hb4).later hx4)
  have p0 : (w4.alloc (.cells #[.slice (some ⟨cL, 0, none⟩) r ccL, .int .i64 (m : Int), .int .u64 (x : Int), .int .u64 0] 38)).cell? ⟨n3, 0, none⟩ = some (.slice (some ⟨cT, 0, none⟩) r ccT) := g34.cell 0 rfl
  have p1 : (w4.alloc (.cells #[.slice (some ⟨cL, 0, none⟩) r ccL, .int .i64 (m : Int), .int .u64 (x : Int), .int .u64 0] 38)).cell? ⟨n3, 1, none⟩ = some (.int .i64 (m : Int)) := g34.cell 1 rfl
  have p2 : (w4.alloc (.cells #[.slice (some ⟨cL, 0, none⟩) r ccL, .int .i64 (m : Int), .int .u64 (x : Int), .int .u64 0] 38)).cell? ⟨n3, 2, none⟩ = some (.int .u64 (seed : Int)) := g34.cell 2 rfl
  have p3 : (w4.alloc (.cells #[.slice (some ⟨cL, 0, none⟩) r ccL, .int .i64 (m : Int), .int .u64 (x : Int), .int .u64 0] 38)).cell? ⟨n3, 3, none⟩ = some (.int .u64 0) := g34.cell 3 rfl
  have q0 : (w4.alloc (.cells #[.slice (some ⟨cL, 0, none⟩) r ccL, .int .i64 (m : Int), .int .u64 (x : Int), .int .u64 0] 38)).cell? ⟨n4, 0, none⟩ = some (.slice (some ⟨cL, 0, none⟩) r ccL) := g4.cell 0 rfl
  have q1 : (w4.alloc (.cells #[.slice (some ⟨cL, 0, none⟩) r ccL, .int .i64 (m : Int), .int .u64 (x : Int), .int .u64 0] 38)).cell? ⟨n4, 1, none⟩ = some (.int .i64 (m : Int)) := g4.cell 1 rfl
  have q2 : (w4.alloc (.cells #[.slice (some ⟨cL, 0, none⟩) r ccL, .int .i64 (m : Int), .int .u64 (x : Int), .int .u64 0] 38)).cell? ⟨n4, 2, none⟩ = some (.int .u64 (x : Int)) := g4.cell 2 rfl
  have q3 : (w4.alloc (.cells #[.slice (some ⟨cL, 0, none⟩) r ccL, .int .i64 (m : Int), .int .u64 (x : Int), .int .u64 0] 38)).cell? ⟨n4, 3, none⟩ = some (.int .u64 0) := g4.cell 3 rfl
  have hm : Mut [n0] w (w4.alloc (.cells #[.slice (some ⟨cL, 0, none⟩) r ccL, .int .i64 (m : Int), .int .u64 (x : Int), .int .u64 0] 38)) := Mut.of_below (HN0.out ▸ ((((HB.out.trans (HB3.out.mono (by rw [HSZ.out]; omega))).trans (HX3.out.mono (by rw [HN3.out]; omega))).trans (hb4.mono (by rw [S3.out]; omega))).trans (hx4.mono (by omega))))
  have hRT := ((HR3.out.later HX3.out).later hb4).later hx4
  have hRL := hR4.later hx4
  have HEND := Lib.hid (show ∀ wf, Mut [n0] (w4.alloc (.cells #[.slice (some ⟨cL, 0, none⟩) r ccL, .int .i64 (m : Int), .int .u64 (x : Int), .int .u64 0] 38)) wf → Doc bs wf r m Z Z cL ccL 0 cT ccT 0 ∧ Below n0 w wf from fun wf hf => ⟨{ l := (hRL.mut hf (by rw [S3.out]; simp; omega) (Nat.le_refl _)).refA hf.size (fun k hk => by have := HBS.out k hk; rw [S3.out]; omega), t := (hRT.mut hf (by rw [HSZ.out]; simp) (Nat.le_refl _)).refA hf.size (fun k hk => by have := HBS.out k hk; rw [HSZ.out]; omega), lL := by omega, lT := by omega, fl := fun _ _ => by unfold Z; omega, gl := fun _ _ => by unfold Z; omega }, (hm.trans hf).below (by rw [HN0.out]; exact Nat.le_refl _) (by simp)⟩)
  have G04 := Lib.hid g04
  clear hm hRT hRL g34 g04 g4 hx4 hb4 hR4
  go_upto_region 5 with fail
  go_wp2_with (refine wpList_store_row rfl 40 (.tmp 8) _ rfl n0 #[.int .i64 (r : Int), .int .i64 (m : Int), .int .u64 (seed : Int), .int .i64 (long : Int), .int .i64 0, .slice (some ⟨cL, 0, none⟩) r ccL, .int .i64 (m : Int), .int .u64 (x : Int), .int .u64 0, .slice (some ⟨cT, 0, none⟩) r ccT, .int .i64 (m : Int), .int .u64 (seed : Int), .int .u64 0] rfl rfl 40 #[.int .i64 0, .int .i64 0, .int .u64 0, .int .i64 0, .int .i64 0, .slice none 0 0, .int .i64 0, .int .u64 0, .int .u64 0, .slice none 0 0, .int .i64 0, .int .u64 0, .int .u64 0] G04.out (by kernel_rfl) rfl (by simp [Value.oneCell']) ?_)
  have hrz := setRow_heap _ _ _ #[.int .i64 (r : Int), .int .i64 (m : Int), .int .u64 (seed : Int), .int .i64 (long : Int), .int .i64 0, .slice (some ⟨cL, 0, none⟩) r ccL, .int .i64 (m : Int), .int .u64 (x : Int), .int .u64 0, .slice (some ⟨cT, 0, none⟩) r ccT, .int .i64 (m : Int), .int .u64 (seed : Int), .int .u64 0] _ _ G04.out
  have r0 := cell_of_row _ _ 0 _ _ _ hrz
  have r1 := cell_of_row _ _ 1 _ _ _ hrz
  have r2 := cell_of_row _ _ 2 _ _ _ hrz
  have r3 := cell_of_row _ _ 3 _ _ _ hrz
  have r4 := cell_of_row _ _ 4 _ _ _ hrz
  have r5 := cell_of_row _ _ 5 _ _ _ hrz
  have r6 := cell_of_row _ _ 6 _ _ _ hrz
  have r7 := cell_of_row _ _ 7 _ _ _ hrz
  have r8 := cell_of_row _ _ 8 _ _ _ hrz
  have r9 := cell_of_row _ _ 9 _ _ _ hrz
  have r10 := cell_of_row _ _ 10 _ _ _ hrz
  have r11 := cell_of_row _ _ 11 _ _ _ hrz
  have r12 := cell_of_row _ _ 12 _ _ _ hrz
  exact bodyPost_ret (v := .tuple #[.agg #[.int .i64 (r : Int), .int .i64 (m : Int), .int .u64 (seed : Int), .int .i64 (long : Int), .int .i64 0, .slice (some ⟨cL, 0, none⟩) r ccL, .int .i64 (m : Int), .int .u64 (x : Int), .int .u64 0, .slice (some ⟨cT, 0, none⟩) r ccT, .int .i64 (m : Int), .int .u64 (seed : Int), .int .u64 0], .bool true]) (by simp [results, Tryd.results26, go_sem, r0, r1, r2, r3, r4, r5, r6, r7, r8, r9, r10, r11, r12]) rfl ⟨cL, ccL, cT, ccT, rfl, HEND.out _ (Mut.setRow _ n0 _)⟩
end Go.Proofs.YtkhbodlffhfmnaaDoor
