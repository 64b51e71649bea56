/-
  What the document's own fresh and At do: a while's sketch; the window at a time.
-/
import Derived.Test.YtkhbodlffhfmnaaDoorSkRefAdd
import Derived.Test.YtkhbodlffhfmnaaDoorWinOn
namespace Go.Proofs.YtkhbodlffhfmnaaDoor
open Go.RowKit Go.Proofs.HashMath Go.Proofs.SkMath

theorem size_setRow (W : World) (g : Nat) (cs : Array Value) : (W.setRow g cs).heap.size = W.heap.size := by simp [World.setRow]
theorem Mut.setRow (W : World) (g : Nat) (cs : Array Value) : Mut [g] W (W.setRow g cs) := ⟨rfl, rfl, rfl, Nat.le_of_eq (size_setRow W g cs).symm, fun k _ hn => setRow_other W g k cs (by simpa using hn)⟩

set_option linter.unusedSimpArgs false in
set_option maxRecDepth 100000 in
set_option maxHeartbeats 2000000 in
theorem fresh_any (r m seed long now cL ccL sL tL cT ccT sT tT : Nat) (k : Nat) (w : World) (r1 : 1 ≤ r) (r8 : r ≤ 8) (m1 : 1 ≤ m) (m2 : m ≤ 1024) (hk : k ≤ 1099511627776) :
    Calls Tryd.prog 41 #[.agg #[.int .i64 (r : Int), .int .i64 (m : Int), .int .u64 (seed : Int), .int .i64 (long : Int), .int .i64 (now : Int), .slice (some ⟨cL, 0, none⟩) r ccL, .int .i64 (m : Int), .int .u64 (sL : Int), .int .u64 (tL : Int), .slice (some ⟨cT, 0, none⟩) r ccT, .int .i64 (m : Int), .int .u64 (sT : Int), .int .u64 (tT : Int)], .int .i64 (k : Int)] w fun e w' => ∃ c cc, e = .returned (.agg #[.slice (some ⟨c, 0, none⟩) r cc, .int .i64 (m : Int), .int .u64 (sd seed k : Int), .int .u64 (0 : Int)]) ∧ RefS w.heap.size w'.heap.size w' c cc r m Z ∧ Below w.heap.size w w' := by
  have e1 : IntKind.u64.wrap (k : Int) = (k : Int) := by rw [IntKind.wrap_u64]; omega
  have e2 : IntKind.u64.wrap ((seed : Int) + (k : Int)) = (sd seed k : Int) := by rw [IntKind.wrap_u64]; unfold sd; omega
  obtain ⟨x, hx, hxl⟩ : ∃ x, sd seed k = x ∧ x < 18446744073709551616 := ⟨_, rfl, sd_lt _ _⟩
  rw [hx] at e2 ⊢
  have HN := Lib.hid (fun W => refNew_any r m x W r1 r8 m1 m2)
  obtain ⟨n0, hn0⟩ : ∃ n0, w.heap.size = n0 := ⟨_, rfl⟩
  have hsz0 : (w.alloc (.cells #[.int .i64 (r : Int), .int .i64 (m : Int), .int .u64 (seed : Int), .int .i64 (long : Int), .int .i64 (now : Int), .slice (some ⟨cL, 0, none⟩) r ccL, .int .i64 (m : Int), .int .u64 (sL : Int), .int .u64 (tL : Int), .slice (some ⟨cT, 0, none⟩) r ccT, .int .i64 (m : Int), .int .u64 (sT : Int), .int .u64 (tT : Int)] 40)).heap.size = n0 + 1 := by rw [World.size_alloc, hn0]
  have hB : Below n0 w ((w.alloc (.cells #[.int .i64 (r : Int), .int .i64 (m : Int), .int .u64 (seed : Int), .int .i64 (long : Int), .int .i64 (now : Int), .slice (some ⟨cL, 0, none⟩) r ccL, .int .i64 (m : Int), .int .u64 (sL : Int), .int .u64 (tL : Int), .slice (some ⟨cT, 0, none⟩) r ccT, .int .i64 (m : Int), .int .u64 (sT : Int), .int .u64 (tT : Int)] 40)).alloc (.cells #[.slice none 0 0, .int .i64 0, .int .u64 0, .int .u64 0] 38)) := hn0 ▸ (box_below (W := w) _).alloc (by simp) _
  have hb0 : Blk ((w.alloc (.cells #[.int .i64 (r : Int), .int .i64 (m : Int), .int .u64 (seed : Int), .int .i64 (long : Int), .int .i64 (now : Int), .slice (some ⟨cL, 0, none⟩) r ccL, .int .i64 (m : Int), .int .u64 (sL : Int), .int .u64 (tL : Int), .slice (some ⟨cT, 0, none⟩) r ccT, .int .i64 (m : Int), .int .u64 (sT : Int), .int .u64 (tT : Int)] 40)).alloc (.cells #[.slice none 0 0, .int .i64 0, .int .u64 0, .int .u64 0] 38)) n0 #[.int .i64 (r : Int), .int .i64 (m : Int), .int .u64 (seed : Int), .int .i64 (long : Int), .int .i64 (now : Int), .slice (some ⟨cL, 0, none⟩) r ccL, .int .i64 (m : Int), .int .u64 (sL : Int), .int .u64 (tL : Int), .slice (some ⟨cT, 0, none⟩) r ccT, .int .i64 (m : Int), .int .u64 (sT : Int), .int .u64 (tT : Int)] 40 := hn0 ▸ (blk_new w _ _).later (box_below _)
  have hb1 : Blk ((w.alloc (.cells #[.int .i64 (r : Int), .int .i64 (m : Int), .int .u64 (seed : Int), .int .i64 (long : Int), .int .i64 (now : Int), .slice (some ⟨cL, 0, none⟩) r ccL, .int .i64 (m : Int), .int .u64 (sL : Int), .int .u64 (tL : Int), .slice (some ⟨cT, 0, none⟩) r ccT, .int .i64 (m : Int), .int .u64 (sT : Int), .int .u64 (tT : Int)] 40)).alloc (.cells #[.slice none 0 0, .int .i64 0, .int .u64 0, .int .u64 0] 38)) (n0 + 1) #[.slice none 0 0, .int .i64 0, .int .u64 0, .int .u64 0] 38 := hsz0 ▸ blk_new _ _ _
  have q0 := hb0.cell 0 rfl
  have q1 := hb0.cell 1 rfl
  have q2 := hb0.cell 2 rfl
  rw [hn0]
  have HB := Lib.hid hB
  have HB1 := Lib.hid hb1
  have HSZ := Lib.hid (show ((w.alloc (.cells #[.int .i64 (r : Int), .int .i64 (m : Int), .int .u64 (seed : Int), .int .i64 (long : Int), .int .i64 (now : Int), .slice (some ⟨cL, 0, none⟩) r ccL, .int .i64 (m : Int), .int .u64 (sL : Int), .int .u64 (tL : Int), .slice (some ⟨cT, 0, none⟩) r ccT, .int .i64 (m : Int), .int .u64 (sT : Int), .int .u64 (tT : Int)] 40)).alloc (.cells #[.slice none 0 0, .int .i64 0, .int .u64 0, .int .u64 0] 38)).heap.size = n0 + 2 by rw [World.size_alloc, hsz0])
  clear hB hb0 hb1 hsz0 hx
  go_enter Tryd.func41, Tryd.ntmps41
  go_wp2_with fail
  refine (HN.out _).mono ?_
  rintro e w3 ⟨c, cc, rfl, hR, hb3⟩
  have h3 := HSZ.out
  have h4 : n0 + 2 ≤ w3.heap.size := h3 ▸ hb3.size
  have hbx := box_below (W := w3) (.cells #[.slice (some ⟨c, 0, none⟩) r cc, .int .i64 (m : Int), .int .u64 (x : Int), .int .u64 (0 : Int)] 38)
  have hBB : Below n0 w (w3.alloc (.cells #[.slice (some ⟨c, 0, none⟩) r cc, .int .i64 (m : Int), .int .u64 (x : Int), .int .u64 (0 : Int)] 38)) := (HB.out.trans (hb3.mono (by omega))).trans (hbx.mono (by omega))
  have HB4 := Lib.hid ((HB1.out.later hb3).later hbx)
  have HBB := Lib.hid hBB
  have HR := Lib.hid (show ∀ cs, RefS n0 ((w3.alloc (.cells #[.slice (some ⟨c, 0, none⟩) r cc, .int .i64 (m : Int), .int .u64 (x : Int), .int .u64 (0 : Int)] 38)).setRow (n0 + 1) cs).heap.size ((w3.alloc (.cells #[.slice (some ⟨c, 0, none⟩) r cc, .int .i64 (m : Int), .int .u64 (x : Int), .int .u64 (0 : Int)] 38)).setRow (n0 + 1) cs) c cc r m Z from fun cs =>
    ((hR.below hbx).mut (Mut.setRow _ (n0 + 1) cs) (by simp; omega) hbx.size).mono (by rw [size_setRow]; exact hbx.size) (by omega))
  clear hbx hBB hR hb3 h3 h4
  go_wp2_with (refine wpList_store_row rfl 38 (.tmp 4) _ rfl (n0 + 1) #[.slice (some ⟨c, 0, none⟩) r cc, .int .i64 (m : Int), .int .u64 (x : Int), .int .u64 (0 : Int)] rfl rfl 38 #[.slice none 0 0, .int .i64 0, .int .u64 0, .int .u64 0] HB4.out (by kernel_rfl) rfl (by simp [Value.oneCell']) ?_)
  have hrz := setRow_heap _ _ _ #[.slice (some ⟨c, 0, none⟩) r cc, .int .i64 (m : Int), .int .u64 (x : Int), .int .u64 (0 : Int)] _ _ HB4.out
  have r0 := cell_of_row _ _ 0 _ _ _ hrz
  have r1 := cell_of_row _ _ 1 _ _ _ hrz
  have r2 := cell_of_row _ _ 2 _ _ _ hrz
  have r3 := cell_of_row _ _ 3 _ _ _ hrz
  refine bodyPost_ret (v := .agg #[.slice (some ⟨c, 0, none⟩) r cc, .int .i64 (m : Int), .int .u64 (x : Int), .int .u64 (0 : Int)]) (by simp [results, Tryd.results41, go_sem, r0, r1, r2, r3]) rfl ⟨c, cc, rfl, HR.out _, below_setRow HBB.out (by omega) _⟩
end Go.Proofs.YtkhbodlffhfmnaaDoor
