/-
  What the document's own Add of a window does.
-/
import Derived.Deep.CutBlock
import Derived.Deep.DeepCutAuto
import Derived.Test.YtkhbodlffhfmnaaDoorWinDocNew
namespace Go.Proofs.YtkhbodlffhfmnaaDoor
open Go.RowKit Go.Proofs.HashMath Go.Proofs.SkMath

set_option linter.unusedSimpArgs false in
set_option maxRecDepth 100000 in
set_option maxHeartbeats 2000000 in
theorem refWAdd_no (r m seed long now cL ccL sL tL cT ccT sT tT : Nat) (t : Int) (s : ByteArray) (n : Nat) (w : World) (ht : t < now ∨ 1099511627776 < t) :
    Calls Tryd.prog 31 #[.agg #[.int .i64 (r : Int), .int .i64 (m : Int), .int .u64 (seed : Int), .int .i64 (long : Int), .int .i64 (now : Int), .slice (some ⟨cL, 0, none⟩) r ccL, .int .i64 (m : Int), .int .u64 (sL : Int), .int .u64 (tL : Int), .slice (some ⟨cT, 0, none⟩) r ccT, .int .i64 (m : Int), .int .u64 (sT : Int), .int .u64 (tT : Int)], .int .i64 t, .string s, .int .u64 (n : Int)] w fun e w' => e = .returned (.tuple #[.agg #[.int .i64 (r : Int), .int .i64 (m : Int), .int .u64 (seed : Int), .int .i64 (long : Int), .int .i64 (now : Int), .slice (some ⟨cL, 0, none⟩) r ccL, .int .i64 (m : Int), .int .u64 (sL : Int), .int .u64 (tL : Int), .slice (some ⟨cT, 0, none⟩) r ccT, .int .i64 (m : Int), .int .u64 (sT : Int), .int .u64 (tT : Int)], .int .i64 60]) ∧ Below w.heap.size w w' := by
  have HA := Lib.hid (fun W => at_no r m seed long now cL ccL sL tL cT ccT sT tT t W ht)
  obtain ⟨n0, hn0⟩ : ∃ n0, w.heap.size = n0 := ⟨_, rfl⟩
  have hsz0 : (w.alloc (.cells #[.int .i64 (r : Int), .int .i64 (m : Int), .int .u64 (seed : Int), .int .i64 (long : Int), .int .i64 (now : Int), .slice (some ⟨cL, 0, none⟩) r ccL, .int .i64 (m : Int), .int .u64 (sL : Int), .int .u64 (tL : Int), .slice (some ⟨cT, 0, none⟩) r ccT, .int .i64 (m : Int), .int .u64 (sT : Int), .int .u64 (tT : Int)] 40)).heap.size = n0 + 1 := by rw [World.size_alloc, hn0]
  have hB : Below n0 w ((w.alloc (.cells #[.int .i64 (r : Int), .int .i64 (m : Int), .int .u64 (seed : Int), .int .i64 (long : Int), .int .i64 (now : Int), .slice (some ⟨cL, 0, none⟩) r ccL, .int .i64 (m : Int), .int .u64 (sL : Int), .int .u64 (tL : Int), .slice (some ⟨cT, 0, none⟩) r ccT, .int .i64 (m : Int), .int .u64 (sT : Int), .int .u64 (tT : Int)] 40)).alloc (.cells #[.int .i64 0, .int .i64 0, .int .u64 0, .int .i64 0, .int .i64 0, .slice none 0 0, .int .i64 0, .int .u64 0, .int .u64 0, .slice none 0 0, .int .i64 0, .int .u64 0, .int .u64 0] 40)) := hn0 ▸ (box_below (W := w) _).alloc (by simp) _
  have hb0 : Blk ((w.alloc (.cells #[.int .i64 (r : Int), .int .i64 (m : Int), .int .u64 (seed : Int), .int .i64 (long : Int), .int .i64 (now : Int), .slice (some ⟨cL, 0, none⟩) r ccL, .int .i64 (m : Int), .int .u64 (sL : Int), .int .u64 (tL : Int), .slice (some ⟨cT, 0, none⟩) r ccT, .int .i64 (m : Int), .int .u64 (sT : Int), .int .u64 (tT : Int)] 40)).alloc (.cells #[.int .i64 0, .int .i64 0, .int .u64 0, .int .i64 0, .int .i64 0, .slice none 0 0, .int .i64 0, .int .u64 0, .int .u64 0, .slice none 0 0, .int .i64 0, .int .u64 0, .int .u64 0] 40)) n0 #[.int .i64 (r : Int), .int .i64 (m : Int), .int .u64 (seed : Int), .int .i64 (long : Int), .int .i64 (now : Int), .slice (some ⟨cL, 0, none⟩) r ccL, .int .i64 (m : Int), .int .u64 (sL : Int), .int .u64 (tL : Int), .slice (some ⟨cT, 0, none⟩) r ccT, .int .i64 (m : Int), .int .u64 (sT : Int), .int .u64 (tT : Int)] 40 := hn0 ▸ (blk_new w _ _).later (box_below _)
  have hb1 : Blk ((w.alloc (.cells #[.int .i64 (r : Int), .int .i64 (m : Int), .int .u64 (seed : Int), .int .i64 (long : Int), .int .i64 (now : Int), .slice (some ⟨cL, 0, none⟩) r ccL, .int .i64 (m : Int), .int .u64 (sL : Int), .int .u64 (tL : Int), .slice (some ⟨cT, 0, none⟩) r ccT, .int .i64 (m : Int), .int .u64 (sT : Int), .int .u64 (tT : Int)] 40)).alloc (.cells #[.int .i64 0, .int .i64 0, .int .u64 0, .int .i64 0, .int .i64 0, .slice none 0 0, .int .i64 0, .int .u64 0, .int .u64 0, .slice none 0 0, .int .i64 0, .int .u64 0, .int .u64 0] 40)) (n0 + 1) #[.int .i64 0, .int .i64 0, .int .u64 0, .int .i64 0, .int .i64 0, .slice none 0 0, .int .i64 0, .int .u64 0, .int .u64 0, .slice none 0 0, .int .i64 0, .int .u64 0, .int .u64 0] 40 := hsz0 ▸ blk_new _ _ _
  have hsz : ((w.alloc (.cells #[.int .i64 (r : Int), .int .i64 (m : Int), .int .u64 (seed : Int), .int .i64 (long : Int), .int .i64 (now : Int), .slice (some ⟨cL, 0, none⟩) r ccL, .int .i64 (m : Int), .int .u64 (sL : Int), .int .u64 (tL : Int), .slice (some ⟨cT, 0, none⟩) r ccT, .int .i64 (m : Int), .int .u64 (sT : Int), .int .u64 (tT : Int)] 40)).alloc (.cells #[.int .i64 0, .int .i64 0, .int .u64 0, .int .i64 0, .int .i64 0, .slice none 0 0, .int .i64 0, .int .u64 0, .int .u64 0, .slice none 0 0, .int .i64 0, .int .u64 0, .int .u64 0] 40)).heap.size = n0 + 2 := by rw [World.size_alloc, hsz0]
  have q0 : ((w.alloc (.cells #[.int .i64 (r : Int), .int .i64 (m : Int), .int .u64 (seed : Int), .int .i64 (long : Int), .int .i64 (now : Int), .slice (some ⟨cL, 0, none⟩) r ccL, .int .i64 (m : Int), .int .u64 (sL : Int), .int .u64 (tL : Int), .slice (some ⟨cT, 0, none⟩) r ccT, .int .i64 (m : Int), .int .u64 (sT : Int), .int .u64 (tT : Int)] 40)).alloc (.cells #[.int .i64 0, .int .i64 0, .int .u64 0, .int .i64 0, .int .i64 0, .slice none 0 0, .int .i64 0, .int .u64 0, .int .u64 0, .slice none 0 0, .int .i64 0, .int .u64 0, .int .u64 0] 40)).cell? ⟨n0, 0, none⟩ = some (.int .i64 (r : Int)) := hb0.cell 0 rfl
  have q1 : ((w.alloc (.cells #[.int .i64 (r : Int), .int .i64 (m : Int), .int .u64 (seed : Int), .int .i64 (long : Int), .int .i64 (now : Int), .slice (some ⟨cL, 0, none⟩) r ccL, .int .i64 (m : Int), .int .u64 (sL : Int), .int .u64 (tL : Int), .slice (some ⟨cT, 0, none⟩) r ccT, .int .i64 (m : Int), .int .u64 (sT : Int), .int .u64 (tT : Int)] 40)).alloc (.cells #[.int .i64 0, .int .i64 0, .int .u64 0, .int .i64 0, .int .i64 0, .slice none 0 0, .int .i64 0, .int .u64 0, .int .u64 0, .slice none 0 0, .int .i64 0, .int .u64 0, .int .u64 0] 40)).cell? ⟨n0, 1, none⟩ = some (.int .i64 (m : Int)) := hb0.cell 1 rfl
  have q2 : ((w.alloc (.cells #[.int .i64 (r : Int), .int .i64 (m : Int), .int .u64 (seed : Int), .int .i64 (long : Int), .int .i64 (now : Int), .slice (some ⟨cL, 0, none⟩) r ccL, .int .i64 (m : Int), .int .u64 (sL : Int), .int .u64 (tL : Int), .slice (some ⟨cT, 0, none⟩) r ccT, .int .i64 (m : Int), .int .u64 (sT : Int), .int .u64 (tT : Int)] 40)).alloc (.cells #[.int .i64 0, .int .i64 0, .int .u64 0, .int .i64 0, .int .i64 0, .slice none 0 0, .int .i64 0, .int .u64 0, .int .u64 0, .slice none 0 0, .int .i64 0, .int .u64 0, .int .u64 0] 40)).cell? ⟨n0, 2, none⟩ = some (.int .u64 (seed : Int)) := hb0.cell 2 rfl
  have q3 : ((w.alloc (.cells #[.int .i64 (r : Int), .int .i64 (m : Int), .int .u64 (seed : Int), .int .i64 (long : Int), .int .i64 (now : Int), .slice (some ⟨cL, 0, none⟩) r ccL, .int .i64 (m : Int), .int .u64 (sL : Int), .int .u64 (tL : Int), .slice (some ⟨cT, 0, none⟩) r ccT, .int .i64 (m : Int), .int .u64 (sT : Int), .int .u64 (tT : Int)] 40)).alloc (.cells #[.int .i64 0, .int .i64 0, .int .u64 0, .int .i64 0, .int .i64 0, .slice none 0 0, .int .i64 0, .int .u64 0, .int .u64 0, .slice none 0 0, .int .i64 0, .int .u64 0, .int .u64 0] 40)).cell? ⟨n0, 3, none⟩ = some (.int .i64 (long : Int)) := hb0.cell 3 rfl
  have q4 : ((w.alloc (.cells #[.int .i64 (r : Int), .int .i64 (m : Int), .int .u64 (seed : Int), .int .i64 (long : Int), .int .i64 (now : Int), .slice (some ⟨cL, 0, none⟩) r ccL, .int .i64 (m : Int), .int .u64 (sL : Int), .int .u64 (tL : Int), .slice (some ⟨cT, 0, none⟩) r ccT, .int .i64 (m : Int), .int .u64 (sT : Int), .int .u64 (tT : Int)] 40)).alloc (.cells #[.int .i64 0, .int .i64 0, .int .u64 0, .int .i64 0, .int .i64 0, .slice none 0 0, .int .i64 0, .int .u64 0, .int .u64 0, .slice none 0 0, .int .i64 0, .int .u64 0, .int .u64 0] 40)).cell? ⟨n0, 4, none⟩ = some (.int .i64 (now : Int)) := hb0.cell 4 rfl
  have q5 : ((w.alloc (.cells #[.int .i64 (r : Int), .int .i64 (m : Int), .int .u64 (seed : Int), .int .i64 (long : Int), .int .i64 (now : Int), .slice (some ⟨cL, 0, none⟩) r ccL, .int .i64 (m : Int), .int .u64 (sL : Int), .int .u64 (tL : Int), .slice (some ⟨cT, 0, none⟩) r ccT, .int .i64 (m : Int), .int .u64 (sT : Int), .int .u64 (tT : Int)] 40)).alloc (.cells #[.int .i64 0, .int .i64 0, .int .u64 0, .int .i64 0, .int .i64 0, .slice none 0 0, .int .i64 0, .int .u64 0, .int .u64 0, .slice none 0 0, .int .i64 0, .int .u64 0, .int .u64 0] 40)).cell? ⟨n0, 5, none⟩ = some (.slice (some ⟨cL, 0, none⟩) r ccL) := hb0.cell 5 rfl
  have q6 : ((w.alloc (.cells #[.int .i64 (r : Int), .int .i64 (m : Int), .int .u64 (seed : Int), .int .i64 (long : Int), .int .i64 (now : Int), .slice (some ⟨cL, 0, none⟩) r ccL, .int .i64 (m : Int), .int .u64 (sL : Int), .int .u64 (tL : Int), .slice (some ⟨cT, 0, none⟩) r ccT, .int .i64 (m : Int), .int .u64 (sT : Int), .int .u64 (tT : Int)] 40)).alloc (.cells #[.int .i64 0, .int .i64 0, .int .u64 0, .int .i64 0, .int .i64 0, .slice none 0 0, .int .i64 0, .int .u64 0, .int .u64 0, .slice none 0 0, .int .i64 0, .int .u64 0, .int .u64 0] 40)).cell? ⟨n0, 6, none⟩ = some (.int .i64 (m : Int)) := hb0.cell 6 rfl
  have q7 : ((w.alloc (.cells #[.int .i64 (r : Int), .int .i64 (m : Int), .int .u64 (seed : Int), .int .i64 (long : Int), .int .i64 (now : Int), .slice (some ⟨cL, 0, none⟩) r ccL, .int .i64 (m : Int), .int .u64 (sL : Int), .int .u64 (tL : Int), .slice (some ⟨cT, 0, none⟩) r ccT, .int .i64 (m : Int), .int .u64 (sT : Int), .int .u64 (tT : Int)] 40)).alloc (.cells #[.int .i64 0, .int .i64 0, .int .u64 0, .int .i64 0, .int .i64 0, .slice none 0 0, .int .i64 0, .int .u64 0, .int .u64 0, .slice none 0 0, .int .i64 0, .int .u64 0, .int .u64 0] 40)).cell? ⟨n0, 7, none⟩ = some (.int .u64 (sL : Int)) := hb0.cell 7 rfl
  have q8 : ((w.alloc (.cells #[.int .i64 (r : Int), .int .i64 (m : Int), .int .u64 (seed : Int), .int .i64 (long : Int), .int .i64 (now : Int), .slice (some ⟨cL, 0, none⟩) r ccL, .int .i64 (m : Int), .int .u64 (sL : Int), .int .u64 (tL : Int), .slice (some ⟨cT, 0, none⟩) r ccT, .int .i64 (m : Int), .int .u64 (sT : Int), .int .u64 (tT : Int)] 40)).alloc (.cells #[.int .i64 0, .int .i64 0, .int .u64 0, .int .i64 0, .int .i64 0, .slice none 0 0, .int .i64 0, .int .u64 0, .int .u64 0, .slice none 0 0, .int .i64 0, .int .u64 0, .int .u64 0] 40)).cell? ⟨n0, 8, none⟩ = some (.int .u64 (tL : Int)) := hb0.cell 8 rfl
  have q9 : ((w.alloc (.cells #[.int .i64 (r : Int), .int .i64 (m : Int), .int .u64 (seed : Int), .int .i64 (long : Int), .int .i64 (now : Int), .slice (some ⟨cL, 0, none⟩) r ccL, .int .i64 (m : Int), .int .u64 (sL : Int), .int .u64 (tL : Int), .slice (some ⟨cT, 0, none⟩) r ccT, .int .i64 (m : Int), .int .u64 (sT : Int), .int .u64 (tT : Int)] 40)).alloc (.cells #[.int .i64 0, .int .i64 0, .int .u64 0, .int .i64 0, .int .i64 0, .slice none 0 0, .int .i64 0, .int .u64 0, .int .u64 0, .slice none 0 0, .int .i64 0, .int .u64 0, .int .u64 0] 40)).cell? ⟨n0, 9, none⟩ = some (.slice (some ⟨cT, 0, none⟩) r ccT) := hb0.cell 9 rfl
  have q10 : ((w.alloc (.cells #[.int .i64 (r : Int), .int .i64 (m : Int), .int .u64 (seed : Int), .int .i64 (long : Int), .int .i64 (now : Int), .slice (some ⟨cL, 0, none⟩) r ccL, .int .i64 (m : Int), .int .u64 (sL : Int), .int .u64 (tL : Int), .slice (some ⟨cT, 0, none⟩) r ccT, .int .i64 (m : Int), .int .u64 (sT : Int), .int .u64 (tT : Int)] 40)).alloc (.cells #[.int .i64 0, .int .i64 0, .int .u64 0, .int .i64 0, .int .i64 0, .slice none 0 0, .int .i64 0, .int .u64 0, .int .u64 0, .slice none 0 0, .int .i64 0, .int .u64 0, .int .u64 0] 40)).cell? ⟨n0, 10, none⟩ = some (.int .i64 (m : Int)) := hb0.cell 10 rfl
  have q11 : ((w.alloc (.cells #[.int .i64 (r : Int), .int .i64 (m : Int), .int .u64 (seed : Int), .int .i64 (long : Int), .int .i64 (now : Int), .slice (some ⟨cL, 0, none⟩) r ccL, .int .i64 (m : Int), .int .u64 (sL : Int), .int .u64 (tL : Int), .slice (some ⟨cT, 0, none⟩) r ccT, .int .i64 (m : Int), .int .u64 (sT : Int), .int .u64 (tT : Int)] 40)).alloc (.cells #[.int .i64 0, .int .i64 0, .int .u64 0, .int .i64 0, .int .i64 0, .slice none 0 0, .int .i64 0, .int .u64 0, .int .u64 0, .slice none 0 0, .int .i64 0, .int .u64 0, .int .u64 0] 40)).cell? ⟨n0, 11, none⟩ = some (.int .u64 (sT : Int)) := hb0.cell 11 rfl
  have q12 : ((w.alloc (.cells #[.int .i64 (r : Int), .int .i64 (m : Int), .int .u64 (seed : Int), .int .i64 (long : Int), .int .i64 (now : Int), .slice (some ⟨cL, 0, none⟩) r ccL, .int .i64 (m : Int), .int .u64 (sL : Int), .int .u64 (tL : Int), .slice (some ⟨cT, 0, none⟩) r ccT, .int .i64 (m : Int), .int .u64 (sT : Int), .int .u64 (tT : Int)] 40)).alloc (.cells #[.int .i64 0, .int .i64 0, .int .u64 0, .int .i64 0, .int .i64 0, .slice none 0 0, .int .i64 0, .int .u64 0, .int .u64 0, .slice none 0 0, .int .i64 0, .int .u64 0, .int .u64 0] 40)).cell? ⟨n0, 12, none⟩ = some (.int .u64 (tT : Int)) := hb0.cell 12 rfl
  rw [hn0]
  have HB := Lib.hid hB
  have HB0 := Lib.hid hb0
  have HB1 := Lib.hid hb1
  have HSZ := Lib.hid hsz
  clear hB hb0 hb1 hsz0 hsz ht
  go_enter Tryd.func31, Tryd.ntmps31
  go_wp2_with fail
  refine (HA.out _).mono ?_
  rintro e w3 ⟨rfl, hb3⟩
  have hx3 := box_below (W := w3) (.cells #[.int .i64 (r : Int), .int .i64 (m : Int), .int .u64 (seed : Int), .int .i64 (long : Int), .int .i64 (now : Int), .slice (some ⟨cL, 0, none⟩) r ccL, .int .i64 (m : Int), .int .u64 (sL : Int), .int .u64 (tL : Int), .slice (some ⟨cT, 0, none⟩) r ccT, .int .i64 (m : Int), .int .u64 (sT : Int), .int .u64 (tT : Int)] 40)
  have g0 := (HB0.out.later hb3).later hx3
  have g1 := (HB1.out.later hb3).later hx3
  have gb := (HB.out.trans (hb3.mono (by rw [HSZ.out]; omega))).trans (hx3.mono (by have := hb3.size; rw [HSZ.out] at this; omega))
  clear q0 q1 q2 q3 q4 q5 q6 q7 q8 q9 q10 q11 q12
  have p0 : (w3.alloc (.cells #[.int .i64 (r : Int), .int .i64 (m : Int), .int .u64 (seed : Int), .int .i64 (long : Int), .int .i64 (now : Int), .slice (some ⟨cL, 0, none⟩) r ccL, .int .i64 (m : Int), .int .u64 (sL : Int), .int .u64 (tL : Int), .slice (some ⟨cT, 0, none⟩) r ccT, .int .i64 (m : Int), .int .u64 (sT : Int), .int .u64 (tT : Int)] 40)).cell? ⟨n0, 0, none⟩ = some (.int .i64 (r : Int)) := g0.cell 0 rfl
  have p1 : (w3.alloc (.cells #[.int .i64 (r : Int), .int .i64 (m : Int), .int .u64 (seed : Int), .int .i64 (long : Int), .int .i64 (now : Int), .slice (some ⟨cL, 0, none⟩) r ccL, .int .i64 (m : Int), .int .u64 (sL : Int), .int .u64 (tL : Int), .slice (some ⟨cT, 0, none⟩) r ccT, .int .i64 (m : Int), .int .u64 (sT : Int), .int .u64 (tT : Int)] 40)).cell? ⟨n0, 1, none⟩ = some (.int .i64 (m : Int)) := g0.cell 1 rfl
  have p2 : (w3.alloc (.cells #[.int .i64 (r : Int), .int .i64 (m : Int), .int .u64 (seed : Int), .int .i64 (long : Int), .int .i64 (now : Int), .slice (some ⟨cL, 0, none⟩) r ccL, .int .i64 (m : Int), .int .u64 (sL : Int), .int .u64 (tL : Int), .slice (some ⟨cT, 0, none⟩) r ccT, .int .i64 (m : Int), .int .u64 (sT : Int), .int .u64 (tT : Int)] 40)).cell? ⟨n0, 2, none⟩ = some (.int .u64 (seed : Int)) := g0.cell 2 rfl
  have p3 : (w3.alloc (.cells #[.int .i64 (r : Int), .int .i64 (m : Int), .int .u64 (seed : Int), .int .i64 (long : Int), .int .i64 (now : Int), .slice (some ⟨cL, 0, none⟩) r ccL, .int .i64 (m : Int), .int .u64 (sL : Int), .int .u64 (tL : Int), .slice (some ⟨cT, 0, none⟩) r ccT, .int .i64 (m : Int), .int .u64 (sT : Int), .int .u64 (tT : Int)] 40)).cell? ⟨n0, 3, none⟩ = some (.int .i64 (long : Int)) := g0.cell 3 rfl
  have p4 : (w3.alloc (.cells #[.int .i64 (r : Int), .int .i64 (m : Int), .int .u64 (seed : Int), .int .i64 (long : Int), .int .i64 (now : Int), .slice (some ⟨cL, 0, none⟩) r ccL, .int .i64 (m : Int), .int .u64 (sL : Int), .int .u64 (tL : Int), .slice (some ⟨cT, 0, none⟩) r ccT, .int .i64 (m : Int), .int .u64 (sT : Int), .int .u64 (tT : Int)] 40)).cell? ⟨n0, 4, none⟩ = some (.int .i64 (now : Int)) := g0.cell 4 rfl
  have p5 : (w3.alloc (.cells #[.int .i64 (r : Int), .int .i64 (m : Int), .int .u64 (seed : Int), .int .i64 (long : Int), .int .i64 (now : Int), .slice (some ⟨cL, 0, none⟩) r ccL, .int .i64 (m : Int), .int .u64 (sL : Int), .int .u64 (tL : Int), .slice (some ⟨cT, 0, none⟩) r ccT, .int .i64 (m : Int), .int .u64 (sT : Int), .int .u64 (tT : Int)] 40)).cell? ⟨n0, 5, none⟩ = some (.slice (some ⟨cL, 0, none⟩) r ccL) := g0.cell 5 rfl
  have p6 : (w3.alloc (.cells #[.int .i64 (r : Int), .int .i64 (m : Int), .int .u64 (seed : Int), .int .i64 (long : Int), .int .i64 (now : Int), .slice (some ⟨cL, 0, none⟩) r ccL, .int .i64 (m : Int), .int .u64 (sL : Int), .int .u64 (tL : Int), .slice (some ⟨cT, 0, none⟩) r ccT, .int .i64 (m : Int), .int .u64 (sT : Int), .int .u64 (tT : Int)] 40)).cell? ⟨n0, 6, none⟩ = some (.int .i64 (m : Int)) := g0.cell 6 rfl
  have p7 : (w3.alloc (.cells #[.int .i64 (r : Int), .int .i64 (m : Int), .int .u64 (seed : Int), .int .i64 (long : Int), .int .i64 (now : Int), .slice (some ⟨cL, 0, none⟩) r ccL, .int .i64 (m : Int), .int .u64 (sL : Int), .int .u64 (tL : Int), .slice (some ⟨cT, 0, none⟩) r ccT, .int .i64 (m : Int), .int .u64 (sT : Int), .int .u64 (tT : Int)] 40)).cell? ⟨n0, 7, none⟩ = some (.int .u64 (sL : Int)) := g0.cell 7 rfl
  have p8 : (w3.alloc (.cells #[.int .i64 (r : Int), .int .i64 (m : Int), .int .u64 (seed : Int), .int .i64 (long : Int), .int .i64 (now : Int), .slice (some ⟨cL, 0, none⟩) r ccL, .int .i64 (m : Int), .int .u64 (sL : Int), .int .u64 (tL : Int), .slice (some ⟨cT, 0, none⟩) r ccT, .int .i64 (m : Int), .int .u64 (sT : Int), .int .u64 (tT : Int)] 40)).cell? ⟨n0, 8, none⟩ = some (.int .u64 (tL : Int)) := g0.cell 8 rfl
  have p9 : (w3.alloc (.cells #[.int .i64 (r : Int), .int .i64 (m : Int), .int .u64 (seed : Int), .int .i64 (long : Int), .int .i64 (now : Int), .slice (some ⟨cL, 0, none⟩) r ccL, .int .i64 (m : Int), .int .u64 (sL : Int), .int .u64 (tL : Int), .slice (some ⟨cT, 0, none⟩) r ccT, .int .i64 (m : Int), .int .u64 (sT : Int), .int .u64 (tT : Int)] 40)).cell? ⟨n0, 9, none⟩ = some (.slice (some ⟨cT, 0, none⟩) r ccT) := g0.cell 9 rfl
  have p10 : (w3.alloc (.cells #[.int .i64 (r : Int), .int .i64 (m : Int), .int .u64 (seed : Int), .int .i64 (long : Int), .int .i64 (now : Int), .slice (some ⟨cL, 0, none⟩) r ccL, .int .i64 (m : Int), .int .u64 (sL : Int), .int .u64 (tL : Int), .slice (some ⟨cT, 0, none⟩) r ccT, .int .i64 (m : Int), .int .u64 (sT : Int), .int .u64 (tT : Int)] 40)).cell? ⟨n0, 10, none⟩ = some (.int .i64 (m : Int)) := g0.cell 10 rfl
  have p11 : (w3.alloc (.cells #[.int .i64 (r : Int), .int .i64 (m : Int), .int .u64 (seed : Int), .int .i64 (long : Int), .int .i64 (now : Int), .slice (some ⟨cL, 0, none⟩) r ccL, .int .i64 (m : Int), .int .u64 (sL : Int), .int .u64 (tL : Int), .slice (some ⟨cT, 0, none⟩) r ccT, .int .i64 (m : Int), .int .u64 (sT : Int), .int .u64 (tT : Int)] 40)).cell? ⟨n0, 11, none⟩ = some (.int .u64 (sT : Int)) := g0.cell 11 rfl
  have p12 : (w3.alloc (.cells #[.int .i64 (r : Int), .int .i64 (m : Int), .int .u64 (seed : Int), .int .i64 (long : Int), .int .i64 (now : Int), .slice (some ⟨cL, 0, none⟩) r ccL, .int .i64 (m : Int), .int .u64 (sL : Int), .int .u64 (tL : Int), .slice (some ⟨cT, 0, none⟩) r ccT, .int .i64 (m : Int), .int .u64 (sT : Int), .int .u64 (tT : Int)] 40)).cell? ⟨n0, 12, none⟩ = some (.int .u64 (tT : Int)) := g0.cell 12 rfl
  have G1 := Lib.hid g1
  have GB := Lib.hid gb
  clear g0 g1 gb hx3 hb3
  go_upto_region 3 with fail
  go_wp2_with (refine wpList_store_row rfl 40 (.tmp 8) _ rfl (n0 + 1) #[.int .i64 (r : Int), .int .i64 (m : Int), .int .u64 (seed : Int), .int .i64 (long : Int), .int .i64 (now : Int), .slice (some ⟨cL, 0, none⟩) r ccL, .int .i64 (m : Int), .int .u64 (sL : Int), .int .u64 (tL : Int), .slice (some ⟨cT, 0, none⟩) r ccT, .int .i64 (m : Int), .int .u64 (sT : Int), .int .u64 (tT : Int)] rfl rfl 40 #[.int .i64 0, .int .i64 0, .int .u64 0, .int .i64 0, .int .i64 0, .slice none 0 0, .int .i64 0, .int .u64 0, .int .u64 0, .slice none 0 0, .int .i64 0, .int .u64 0, .int .u64 0] G1.out (by kernel_rfl) rfl (by simp [Value.oneCell']) ?_)
  have hrz := setRow_heap _ _ _ #[.int .i64 (r : Int), .int .i64 (m : Int), .int .u64 (seed : Int), .int .i64 (long : Int), .int .i64 (now : Int), .slice (some ⟨cL, 0, none⟩) r ccL, .int .i64 (m : Int), .int .u64 (sL : Int), .int .u64 (tL : Int), .slice (some ⟨cT, 0, none⟩) r ccT, .int .i64 (m : Int), .int .u64 (sT : Int), .int .u64 (tT : Int)] _ _ G1.out
  have r0 := cell_of_row _ _ 0 _ _ _ hrz
  have r1 := cell_of_row _ _ 1 _ _ _ hrz
  have r2 := cell_of_row _ _ 2 _ _ _ hrz
  have r3 := cell_of_row _ _ 3 _ _ _ hrz
  have r4 := cell_of_row _ _ 4 _ _ _ hrz
  have r5 := cell_of_row _ _ 5 _ _ _ hrz
  have r6 := cell_of_row _ _ 6 _ _ _ hrz
  have r7 := cell_of_row _ _ 7 _ _ _ hrz
  have r8 := cell_of_row _ _ 8 _ _ _ hrz
  have r9 := cell_of_row _ _ 9 _ _ _ hrz
  have r10 := cell_of_row _ _ 10 _ _ _ hrz
  have r11 := cell_of_row _ _ 11 _ _ _ hrz
  have r12 := cell_of_row _ _ 12 _ _ _ hrz
  exact bodyPost_ret (v := .tuple #[.agg #[.int .i64 (r : Int), .int .i64 (m : Int), .int .u64 (seed : Int), .int .i64 (long : Int), .int .i64 (now : Int), .slice (some ⟨cL, 0, none⟩) r ccL, .int .i64 (m : Int), .int .u64 (sL : Int), .int .u64 (tL : Int), .slice (some ⟨cT, 0, none⟩) r ccT, .int .i64 (m : Int), .int .u64 (sT : Int), .int .u64 (tT : Int)], .int .i64 60]) (by simp [results, Tryd.results31, go_sem, r0, r1, r2, r3, r4, r5, r6, r7, r8, r9, r10, r11, r12]) rfl ⟨rfl, below_setRow GB.out (by omega) _⟩

set_option linter.unusedSimpArgs false in
set_option maxRecDepth 100000 in
set_option maxHeartbeats 2000000 in
theorem refWAdd_any {bs : List Nat} {f g : Nat → Nat → Nat} (r m seed long now cL ccL sL tL cT ccT sT tT : Nat) (t : Nat) (s : ByteArray) (n : Nat) (w : World) (eL : sL = sdL seed (now / long)) (eT : sT = sd seed (now / long)) (hd : Doc bs w r m f g cL ccL tL cT ccT tT) (hbs : ∀ k ∈ bs, k < w.heap.size) (r1 : 1 ≤ r) (r8 : r ≤ 8) (m1 : 1 ≤ m) (m2 : m ≤ 1024) (h1 : now ≤ t) (h2 : t ≤ 1099511627776) (hl : 1 ≤ long) (hn : n < 18446744073709551616) (hs : s.size ≤ 9223372036854775807) :
    Calls Tryd.prog 31 #[.agg #[.int .i64 (r : Int), .int .i64 (m : Int), .int .u64 (seed : Int), .int .i64 (long : Int), .int .i64 (now : Int), .slice (some ⟨cL, 0, none⟩) r ccL, .int .i64 (m : Int), .int .u64 (sL : Int), .int .u64 (tL : Int), .slice (some ⟨cT, 0, none⟩) r ccT, .int .i64 (m : Int), .int .u64 (sT : Int), .int .u64 (tT : Int)], .int .i64 (t : Int), .string s, .int .u64 (n : Int)] w fun e w' => ∃ cL2 ccL2 tL2 cT2 ccT2 tT2 : Nat, e = .returned (.tuple #[.agg #[.int .i64 (r : Int), .int .i64 (m : Int), .int .u64 (seed : Int), .int .i64 (long : Int), .int .i64 (t : Int), .slice (some ⟨cL2, 0, none⟩) r ccL2, .int .i64 (m : Int), .int .u64 (sdL seed (t / long) : Int), .int .u64 (tL2 : Int), .slice (some ⟨cT2, 0, none⟩) r ccT2, .int .i64 (m : Int), .int .u64 (sd seed (t / long) : Int), .int .u64 (tT2 : Int)], .int .i64 0]) ∧ Doc bs w' r m (addW (sd seed (t / long)) s m r n (tF long now t f)) (tG long now t f g) cL2 ccL2 tL2 cT2 ccT2 tT2 ∧ Below w.heap.size w w' := by
  obtain ⟨n0, hn0⟩ : ∃ n0, w.heap.size = n0 := ⟨_, rfl⟩
  have hsz0 : (w.alloc (.cells #[.int .i64 (r : Int), .int .i64 (m : Int), .int .u64 (seed : Int), .int .i64 (long : Int), .int .i64 (now : Int), .slice (some ⟨cL, 0, none⟩) r ccL, .int .i64 (m : Int), .int .u64 (sL : Int), .int .u64 (tL : Int), .slice (some ⟨cT, 0, none⟩) r ccT, .int .i64 (m : Int), .int .u64 (sT : Int), .int .u64 (tT : Int)] 40)).heap.size = n0 + 1 := by rw [World.size_alloc, hn0]
  have hB : Below n0 w ((w.alloc (.cells #[.int .i64 (r : Int), .int .i64 (m : Int), .int .u64 (seed : Int), .int .i64 (long : Int), .int .i64 (now : Int), .slice (some ⟨cL, 0, none⟩) r ccL, .int .i64 (m : Int), .int .u64 (sL : Int), .int .u64 (tL : Int), .slice (some ⟨cT, 0, none⟩) r ccT, .int .i64 (m : Int), .int .u64 (sT : Int), .int .u64 (tT : Int)] 40)).alloc (.cells #[.int .i64 0, .int .i64 0, .int .u64 0, .int .i64 0, .int .i64 0, .slice none 0 0, .int .i64 0, .int .u64 0, .int .u64 0, .slice none 0 0, .int .i64 0, .int .u64 0, .int .u64 0] 40)) := hn0 ▸ (box_below (W := w) _).alloc (by simp) _
  have hb0 : Blk ((w.alloc (.cells #[.int .i64 (r : Int), .int .i64 (m : Int), .int .u64 (seed : Int), .int .i64 (long : Int), .int .i64 (now : Int), .slice (some ⟨cL, 0, none⟩) r ccL, .int .i64 (m : Int), .int .u64 (sL : Int), .int .u64 (tL : Int), .slice (some ⟨cT, 0, none⟩) r ccT, .int .i64 (m : Int), .int .u64 (sT : Int), .int .u64 (tT : Int)] 40)).alloc (.cells #[.int .i64 0, .int .i64 0, .int .u64 0, .int .i64 0, .int .i64 0, .slice none 0 0, .int .i64 0, .int .u64 0, .int .u64 0, .slice none 0 0, .int .i64 0, .int .u64 0, .int .u64 0] 40)) n0 #[.int .i64 (r : Int), .int .i64 (m : Int), .int .u64 (seed : Int), .int .i64 (long : Int), .int .i64 (now : Int), .slice (some ⟨cL, 0, none⟩) r ccL, .int .i64 (m : Int), .int .u64 (sL : Int), .int .u64 (tL : Int), .slice (some ⟨cT, 0, none⟩) r ccT, .int .i64 (m : Int), .int .u64 (sT : Int), .int .u64 (tT : Int)] 40 := hn0 ▸ (blk_new w _ _).later (box_below _)
  have hb1 : Blk ((w.alloc (.cells #[.int .i64 (r : Int), .int .i64 (m : Int), .int .u64 (seed : Int), .int .i64 (long : Int), .int .i64 (now : Int), .slice (some ⟨cL, 0, none⟩) r ccL, .int .i64 (m : Int), .int .u64 (sL : Int), .int .u64 (tL : Int), .slice (some ⟨cT, 0, none⟩) r ccT, .int .i64 (m : Int), .int .u64 (sT : Int), .int .u64 (tT : Int)] 40)).alloc (.cells #[.int .i64 0, .int .i64 0, .int .u64 0, .int .i64 0, .int .i64 0, .slice none 0 0, .int .i64 0, .int .u64 0, .int .u64 0, .slice none 0 0, .int .i64 0, .int .u64 0, .int .u64 0] 40)) (n0 + 1) #[.int .i64 0, .int .i64 0, .int .u64 0, .int .i64 0, .int .i64 0, .slice none 0 0, .int .i64 0, .int .u64 0, .int .u64 0, .slice none 0 0, .int .i64 0, .int .u64 0, .int .u64 0] 40 := hsz0 ▸ blk_new _ _ _
  have hsz : ((w.alloc (.cells #[.int .i64 (r : Int), .int .i64 (m : Int), .int .u64 (seed : Int), .int .i64 (long : Int), .int .i64 (now : Int), .slice (some ⟨cL, 0, none⟩) r ccL, .int .i64 (m : Int), .int .u64 (sL : Int), .int .u64 (tL : Int), .slice (some ⟨cT, 0, none⟩) r ccT, .int .i64 (m : Int), .int .u64 (sT : Int), .int .u64 (tT : Int)] 40)).alloc (.cells #[.int .i64 0, .int .i64 0, .int .u64 0, .int .i64 0, .int .i64 0, .slice none 0 0, .int .i64 0, .int .u64 0, .int .u64 0, .slice none 0 0, .int .i64 0, .int .u64 0, .int .u64 0] 40)).heap.size = n0 + 2 := by rw [World.size_alloc, hsz0]
  have q0 : ((w.alloc (.cells #[.int .i64 (r : Int), .int .i64 (m : Int), .int .u64 (seed : Int), .int .i64 (long : Int), .int .i64 (now : Int), .slice (some ⟨cL, 0, none⟩) r ccL, .int .i64 (m : Int), .int .u64 (sL : Int), .int .u64 (tL : Int), .slice (some ⟨cT, 0, none⟩) r ccT, .int .i64 (m : Int), .int .u64 (sT : Int), .int .u64 (tT : Int)] 40)).alloc (.cells #[.int .i64 0, .int .i64 0, .int .u64 0, .int .i64 0, .int .i64 0, .slice none 0 0, .int .i64 0, .int .u64 0, .int .u64 0, .slice none 0 0, .int .i64 0, .int .u64 0, .int .u64 0] 40)).cell? ⟨n0, 0, none⟩ = some (.int .i64 (r : Int)) := hb0.cell 0 rfl
  have q1 : ((w.alloc (.cells #[.int .i64 (r : Int), .int .i64 (m : Int), .int .u64 (seed : Int), .int .i64 (long : Int), .int .i64 (now : Int), .slice (some ⟨cL, 0, none⟩) r ccL, .int .i64 (m : Int), .int .u64 (sL : Int), .int .u64 (tL : Int), .slice (some ⟨cT, 0, none⟩) r ccT, .int .i64 (m : Int), .int .u64 (sT : Int), .int .u64 (tT : Int)] 40)).alloc (.cells #[.int .i64 0, .int .i64 0, .int .u64 0, .int .i64 0, .int .i64 0, .slice none 0 0, .int .i64 0, .int .u64 0, .int .u64 0, .slice none 0 0, .int .i64 0, .int .u64 0, .int .u64 0] 40)).cell? ⟨n0, 1, none⟩ = some (.int .i64 (m : Int)) := hb0.cell 1 rfl
  have q2 : ((w.alloc (.cells #[.int .i64 (r : Int), .int .i64 (m : Int), .int .u64 (seed : Int), .int .i64 (long : Int), .int .i64 (now : Int), .slice (some ⟨cL, 0, none⟩) r ccL, .int .i64 (m : Int), .int .u64 (sL : Int), .int .u64 (tL : Int), .slice (some ⟨cT, 0, none⟩) r ccT, .int .i64 (m : Int), .int .u64 (sT : Int), .int .u64 (tT : Int)] 40)).alloc (.cells #[.int .i64 0, .int .i64 0, .int .u64 0, .int .i64 0, .int .i64 0, .slice none 0 0, .int .i64 0, .int .u64 0, .int .u64 0, .slice none 0 0, .int .i64 0, .int .u64 0, .int .u64 0] 40)).cell? ⟨n0, 2, none⟩ = some (.int .u64 (seed : Int)) := hb0.cell 2 rfl
  have q3 : ((w.alloc (.cells #[.int .i64 (r : Int), .int .i64 (m : Int), .int .u64 (seed : Int), .int .i64 (long : Int), .int .i64 (now : Int), .slice (some ⟨cL, 0, none⟩) r ccL, .int .i64 (m : Int), .int .u64 (sL : Int), .int .u64 (tL : Int), .slice (some ⟨cT, 0, none⟩) r ccT, .int .i64 (m : Int), .int .u64 (sT : Int), .int .u64 (tT : Int)] 40)).alloc (.cells #[.int .i64 0, .int .i64 0, .int .u64 0, .int .i64 0, .int .i64 0, .slice none 0 0, .int .i64 0, .int .u64 0, .int .u64 0, .slice none 0 0, .int .i64 0, .int .u64 0, .int .u64 0] 40)).cell? ⟨n0, 3, none⟩ = some (.int .i64 (long : Int)) := hb0.cell 3 rfl
  have q4 : ((w.alloc (.cells #[.int .i64 (r : Int), .int .i64 (m : Int), .int .u64 (seed : Int), .int .i64 (long : Int), .int .i64 (now : Int), .slice (some ⟨cL, 0, none⟩) r ccL, .int .i64 (m : Int), .int .u64 (sL : Int), .int .u64 (tL : Int), .slice (some ⟨cT, 0, none⟩) r ccT, .int .i64 (m : Int), .int .u64 (sT : Int), .int .u64 (tT : Int)] 40)).alloc (.cells #[.int .i64 0, .int .i64 0, .int .u64 0, .int .i64 0, .int .i64 0, .slice none 0 0, .int .i64 0, .int .u64 0, .int .u64 0, .slice none 0 0, .int .i64 0, .int .u64 0, .int .u64 0] 40)).cell? ⟨n0, 4, none⟩ = some (.int .i64 (now : Int)) := hb0.cell 4 rfl
  have q5 : ((w.alloc (.cells #[.int .i64 (r : Int), .int .i64 (m : Int), .int .u64 (seed : Int), .int .i64 (long : Int), .int .i64 (now : Int), .slice (some ⟨cL, 0, none⟩) r ccL, .int .i64 (m : Int), .int .u64 (sL : Int), .int .u64 (tL : Int), .slice (some ⟨cT, 0, none⟩) r ccT, .int .i64 (m : Int), .int .u64 (sT : Int), .int .u64 (tT : Int)] 40)).alloc (.cells #[.int .i64 0, .int .i64 0, .int .u64 0, .int .i64 0, .int .i64 0, .slice none 0 0, .int .i64 0, .int .u64 0, .int .u64 0, .slice none 0 0, .int .i64 0, .int .u64 0, .int .u64 0] 40)).cell? ⟨n0, 5, none⟩ = some (.slice (some ⟨cL, 0, none⟩) r ccL) := hb0.cell 5 rfl
  have q6 : ((w.alloc (.cells #[.int .i64 (r : Int), .int .i64 (m : Int), .int .u64 (seed : Int), .int .i64 (long : Int), .int .i64 (now : Int), .slice (some ⟨cL, 0, none⟩) r ccL, .int .i64 (m : Int), .int .u64 (sL : Int), .int .u64 (tL : Int), .slice (some ⟨cT, 0, none⟩) r ccT, .int .i64 (m : Int), .int .u64 (sT : Int), .int .u64 (tT : Int)] 40)).alloc (.cells #[.int .i64 0, .int .i64 0, .int .u64 0, .int .i64 0, .int .i64 0, .slice none 0 0, .int .i64 0, .int .u64 0, .int .u64 0, .slice none 0 0, .int .i64 0, .int .u64 0, .int .u64 0] 40)).cell? ⟨n0, 6, none⟩ = some (.int .i64 (m : Int)) := hb0.cell 6 rfl
  have q7 : ((w.alloc (.cells #[.int .i64 (r : Int), .int .i64 (m : Int), .int .u64 (seed : Int), .int .i64 (long : Int), .int .i64 (now : Int), .slice (some ⟨cL, 0, none⟩) r ccL, .int .i64 (m : Int), .int .u64 (sL : Int), .int .u64 (tL : Int), .slice (some ⟨cT, 0, none⟩) r ccT, .int .i64 (m : Int), .int .u64 (sT : Int), .int .u64 (tT : Int)] 40)).alloc (.cells #[.int .i64 0, .int .i64 0, .int .u64 0, .int .i64 0, .int .i64 0, .slice none 0 0, .int .i64 0, .int .u64 0, .int .u64 0, .slice none 0 0, .int .i64 0, .int .u64 0, .int .u64 0] 40)).cell? ⟨n0, 7, none⟩ = some (.int .u64 (sL : Int)) := hb0.cell 7 rfl
  have q8 : ((w.alloc (.cells #[.int .i64 (r : Int), .int .i64 (m : Int), .int .u64 (seed : Int), .int .i64 (long : Int), .int .i64 (now : Int), .slice (some ⟨cL, 0, none⟩) r ccL, .int .i64 (m : Int), .int .u64 (sL : Int), .int .u64 (tL : Int), .slice (some ⟨cT, 0, none⟩) r ccT, .int .i64 (m : Int), .int .u64 (sT : Int), .int .u64 (tT : Int)] 40)).alloc (.cells #[.int .i64 0, .int .i64 0, .int .u64 0, .int .i64 0, .int .i64 0, .slice none 0 0, .int .i64 0, .int .u64 0, .int .u64 0, .slice none 0 0, .int .i64 0, .int .u64 0, .int .u64 0] 40)).cell? ⟨n0, 8, none⟩ = some (.int .u64 (tL : Int)) := hb0.cell 8 rfl
  have q9 : ((w.alloc (.cells #[.int .i64 (r : Int), .int .i64 (m : Int), .int .u64 (seed : Int), .int .i64 (long : Int), .int .i64 (now : Int), .slice (some ⟨cL, 0, none⟩) r ccL, .int .i64 (m : Int), .int .u64 (sL : Int), .int .u64 (tL : Int), .slice (some ⟨cT, 0, none⟩) r ccT, .int .i64 (m : Int), .int .u64 (sT : Int), .int .u64 (tT : Int)] 40)).alloc (.cells #[.int .i64 0, .int .i64 0, .int .u64 0, .int .i64 0, .int .i64 0, .slice none 0 0, .int .i64 0, .int .u64 0, .int .u64 0, .slice none 0 0, .int .i64 0, .int .u64 0, .int .u64 0] 40)).cell? ⟨n0, 9, none⟩ = some (.slice (some ⟨cT, 0, none⟩) r ccT) := hb0.cell 9 rfl
  have q10 : ((w.alloc (.cells #[.int .i64 (r : Int), .int .i64 (m : Int), .int .u64 (seed : Int), .int .i64 (long : Int), .int .i64 (now : Int), .slice (some ⟨cL, 0, none⟩) r ccL, .int .i64 (m : Int), .int .u64 (sL : Int), .int .u64 (tL : Int), .slice (some ⟨cT, 0, none⟩) r ccT, .int .i64 (m : Int), .int .u64 (sT : Int), .int .u64 (tT : Int)] 40)).alloc (.cells #[.int .i64 0, .int .i64 0, .int .u64 0, .int .i64 0, .int .i64 0, .slice none 0 0, .int .i64 0, .int .u64 0, .int .u64 0, .slice none 0 0, .int .i64 0, .int .u64 0, .int .u64 0] 40)).cell? ⟨n0, 10, none⟩ = some (.int .i64 (m : Int)) := hb0.cell 10 rfl
  have q11 : ((w.alloc (.cells #[.int .i64 (r : Int), .int .i64 (m : Int), .int .u64 (seed : Int), .int .i64 (long : Int), .int .i64 (now : Int), .slice (some ⟨cL, 0, none⟩) r ccL, .int .i64 (m : Int), .int .u64 (sL : Int), .int .u64 (tL : Int), .slice (some ⟨cT, 0, none⟩) r ccT, .int .i64 (m : Int), .int .u64 (sT : Int), .int .u64 (tT : Int)] 40)).alloc (.cells #[.int .i64 0, .int .i64 0, .int .u64 0, .int .i64 0, .int .i64 0, .slice none 0 0, .int .i64 0, .int .u64 0, .int .u64 0, .slice none 0 0, .int .i64 0, .int .u64 0, .int .u64 0] 40)).cell? ⟨n0, 11, none⟩ = some (.int .u64 (sT : Int)) := hb0.cell 11 rfl
  have q12 : ((w.alloc (.cells #[.int .i64 (r : Int), .int .i64 (m : Int), .int .u64 (seed : Int), .int .i64 (long : Int), .int .i64 (now : Int), .slice (some ⟨cL, 0, none⟩) r ccL, .int .i64 (m : Int), .int .u64 (sL : Int), .int .u64 (tL : Int), .slice (some ⟨cT, 0, none⟩) r ccT, .int .i64 (m : Int), .int .u64 (sT : Int), .int .u64 (tT : Int)] 40)).alloc (.cells #[.int .i64 0, .int .i64 0, .int .u64 0, .int .i64 0, .int .i64 0, .slice none 0 0, .int .i64 0, .int .u64 0, .int .u64 0, .slice none 0 0, .int .i64 0, .int .u64 0, .int .u64 0] 40)).cell? ⟨n0, 12, none⟩ = some (.int .u64 (tT : Int)) := hb0.cell 12 rfl
  have hbs0 : ∀ k ∈ n0 :: (n0 + 1) :: bs, k < ((w.alloc (.cells #[.int .i64 (r : Int), .int .i64 (m : Int), .int .u64 (seed : Int), .int .i64 (long : Int), .int .i64 (now : Int), .slice (some ⟨cL, 0, none⟩) r ccL, .int .i64 (m : Int), .int .u64 (sL : Int), .int .u64 (tL : Int), .slice (some ⟨cT, 0, none⟩) r ccT, .int .i64 (m : Int), .int .u64 (sT : Int), .int .u64 (tT : Int)] 40)).alloc (.cells #[.int .i64 0, .int .i64 0, .int .u64 0, .int .i64 0, .int .i64 0, .slice none 0 0, .int .i64 0, .int .u64 0, .int .u64 0, .slice none 0 0, .int .i64 0, .int .u64 0, .int .u64 0] 40)).heap.size := by
    intro k hk
    rw [hsz]
    rw [hn0] at hbs
    simp only [List.mem_cons] at hk
    rcases hk with rfl | rfl | hk
    · omega
    · omega
    · have := hbs k hk; omega
  have hext : Ext w bs (n0 :: (n0 + 1) :: bs) := by
    intro k hk
    simp only [List.mem_cons] at hk
    rcases hk with rfl | rfl | hk
    · right; omega
    · right; omega
    · exact Or.inl hk
  have HA := Lib.hid (refAt_any r m seed long now cL ccL sL tL cT ccT sT tT t _ eL eT (hd.step (Mut.of_below (hn0 ▸ hB)) hext) hbs0 r1 r8 m1 m2 h1 h2 hl)
  obtain ⟨yL, hyL⟩ : ∃ yL, sdL seed (t / long) = yL := ⟨_, rfl⟩
  obtain ⟨yT, hyT⟩ : ∃ yT, sd seed (t / long) = yT := ⟨_, rfl⟩
  rw [hyL, hyT] at HA ⊢
  obtain ⟨f2, hf2⟩ : ∃ f2, tF long now t f = f2 := ⟨_, rfl⟩
  obtain ⟨g2, hg2⟩ : ∃ g2, tG long now t f g = g2 := ⟨_, rfl⟩
  rw [hf2, hg2] at HA ⊢
  rw [hn0]
  have HB := Lib.hid hB
  have HB1 := Lib.hid hb1
  have HSZ := Lib.hid hsz
  have HN0 := Lib.hid hn0
  have HBS := Lib.hid hbs
  clear hB hb0 hb1 hsz0 hsz hyL hyT hf2 hg2 hbs0 hext hd hbs eL eT h1 h2 hl
  go_enter Tryd.func31, Tryd.ntmps31
  go_wp2_with fail
  refine HA.out.mono ?_
  rintro e w3 ⟨cL2, ccL2, tL2, cT2, ccT2, tT2, rfl, hd3, hb3⟩
  obtain ⟨n3, hn3⟩ : ∃ n3, w3.heap.size = n3 := ⟨_, rfl⟩
  have h3 : n0 + 2 ≤ n3 := by have := hb3.size; rw [HSZ.out, hn3] at this; exact this
  have hx3 := box_below (W := w3) (.cells #[.int .i64 (r : Int), .int .i64 (m : Int), .int .u64 (seed : Int), .int .i64 (long : Int), .int .i64 (t : Int), .slice (some ⟨cL2, 0, none⟩) r ccL2, .int .i64 (m : Int), .int .u64 (yL : Int), .int .u64 (tL2 : Int), .slice (some ⟨cT2, 0, none⟩) r ccT2, .int .i64 (m : Int), .int .u64 (yT : Int), .int .u64 (tT2 : Int)] 40)
  have g3 : Blk (w3.alloc (.cells #[.int .i64 (r : Int), .int .i64 (m : Int), .int .u64 (seed : Int), .int .i64 (long : Int), .int .i64 (t : Int), .slice (some ⟨cL2, 0, none⟩) r ccL2, .int .i64 (m : Int), .int .u64 (yL : Int), .int .u64 (tL2 : Int), .slice (some ⟨cT2, 0, none⟩) r ccT2, .int .i64 (m : Int), .int .u64 (yT : Int), .int .u64 (tT2 : Int)] 40)) n3 #[.int .i64 (r : Int), .int .i64 (m : Int), .int .u64 (seed : Int), .int .i64 (long : Int), .int .i64 (t : Int), .slice (some ⟨cL2, 0, none⟩) r ccL2, .int .i64 (m : Int), .int .u64 (yL : Int), .int .u64 (tL2 : Int), .slice (some ⟨cT2, 0, none⟩) r ccT2, .int .i64 (m : Int), .int .u64 (yT : Int), .int .u64 (tT2 : Int)] 40 := hn3 ▸ blk_new w3 _ _
  have g1 := (HB1.out.later hb3).later hx3
  have s3 : (w3.alloc (.cells #[.int .i64 (r : Int), .int .i64 (m : Int), .int .u64 (seed : Int), .int .i64 (long : Int), .int .i64 (t : Int), .slice (some ⟨cL2, 0, none⟩) r ccL2, .int .i64 (m : Int), .int .u64 (yL : Int), .int .u64 (tL2 : Int), .slice (some ⟨cT2, 0, none⟩) r ccT2, .int .i64 (m : Int), .int .u64 (yT : Int), .int .u64 (tT2 : Int)] 40)).heap.size = n3 + 1 := by rw [World.size_alloc, hn3]
  have gb : Below n0 w (w3.alloc (.cells #[.int .i64 (r : Int), .int .i64 (m : Int), .int .u64 (seed : Int), .int .i64 (long : Int), .int .i64 (t : Int), .slice (some ⟨cL2, 0, none⟩) r ccL2, .int .i64 (m : Int), .int .u64 (yL : Int), .int .u64 (tL2 : Int), .slice (some ⟨cT2, 0, none⟩) r ccT2, .int .i64 (m : Int), .int .u64 (yT : Int), .int .u64 (tT2 : Int)] 40)) := (HB.out.trans (hb3.mono (by rw [HSZ.out]; omega))).trans (hx3.mono (by rw [hn3]; omega))
  have hext : Ext w3 (n0 :: (n0 + 1) :: bs) (n3 :: n0 :: (n0 + 1) :: bs) := by
    intro k hk
    simp only [List.mem_cons] at hk ⊢
    rcases hk with rfl | hk
    · right; omega
    · exact Or.inl hk
  have hd4 := hd3.step (Mut.of_below hx3) hext
  have hC := fun W (e : W = w3.alloc (.cells #[.int .i64 (r : Int), .int .i64 (m : Int), .int .u64 (seed : Int), .int .i64 (long : Int), .int .i64 (t : Int), .slice (some ⟨cL2, 0, none⟩) r ccL2, .int .i64 (m : Int), .int .u64 (yL : Int), .int .u64 (tL2 : Int), .slice (some ⟨cT2, 0, none⟩) r ccT2, .int .i64 (m : Int), .int .u64 (yT : Int), .int .u64 (tT2 : Int)] 40)) => refAdd_any 0 cT2 ccT2 r m yT tT2 f2 s n W r1 r8 m1 m2 hd4.fl hd4.lT hn (by rw [e]; exact hd4.t.refS) hs
  have HC := Lib.hid (hC _ rfl)
  have HN3 := Lib.hid hn3
  have G3 := Lib.hid g3
  have G1 := Lib.hid g1
  have S3 := Lib.hid s3
  have GB := Lib.hid gb
  have HD4 := Lib.hid hd4
  clear q0 q1 q2 q3 q4 q5 q6 q7 q8 q9 q10 q11 q12 hC g3 g1 s3 gb hd4 hd3 hx3 hb3 hext
  go_wp2_with fail
  refine HC.out.mono ?_
  rintro e w5 ⟨c3, cc3, rfl, hR5, hb5⟩
  obtain ⟨zT, hz, hzl⟩ : ∃ zT, plus tT2 n = zT ∧ zT < 18446744073709551616 := ⟨_, rfl, plus_lt _ _⟩
  rw [hz]
  have g5 := G3.out.later hb5
  have g15 := G1.out.later hb5
  have p0 : (w5).cell? ⟨n3, 0, none⟩ = some (.int .i64 (r : Int)) := g5.cell 0 rfl
  have p1 : (w5).cell? ⟨n3, 1, none⟩ = some (.int .i64 (m : Int)) := g5.cell 1 rfl
  have p2 : (w5).cell? ⟨n3, 2, none⟩ = some (.int .u64 (seed : Int)) := g5.cell 2 rfl
  have p3 : (w5).cell? ⟨n3, 3, none⟩ = some (.int .i64 (long : Int)) := g5.cell 3 rfl
  have p4 : (w5).cell? ⟨n3, 4, none⟩ = some (.int .i64 (t : Int)) := g5.cell 4 rfl
  have p5 : (w5).cell? ⟨n3, 5, none⟩ = some (.slice (some ⟨cL2, 0, none⟩) r ccL2) := g5.cell 5 rfl
  have p6 : (w5).cell? ⟨n3, 6, none⟩ = some (.int .i64 (m : Int)) := g5.cell 6 rfl
  have p7 : (w5).cell? ⟨n3, 7, none⟩ = some (.int .u64 (yL : Int)) := g5.cell 7 rfl
  have p8 : (w5).cell? ⟨n3, 8, none⟩ = some (.int .u64 (tL2 : Int)) := g5.cell 8 rfl
  have p9 : (w5).cell? ⟨n3, 9, none⟩ = some (.slice (some ⟨cT2, 0, none⟩) r ccT2) := g5.cell 9 rfl
  have p10 : (w5).cell? ⟨n3, 10, none⟩ = some (.int .i64 (m : Int)) := g5.cell 10 rfl
  have p11 : (w5).cell? ⟨n3, 11, none⟩ = some (.int .u64 (yT : Int)) := g5.cell 11 rfl
  have p12 : (w5).cell? ⟨n3, 12, none⟩ = some (.int .u64 (tT2 : Int)) := g5.cell 12 rfl
  have pf9 := g5.free 9
  have pf10 := g5.free 10
  have pf11 := g5.free 11
  have pf12 := g5.free 12
  obtain ⟨w6, hw6, e0, e1, em⟩ : ∃ w6, ((((w5.setCell ⟨n3, 9, none⟩ (.slice (some ⟨c3, 0, none⟩) r cc3)).setCell ⟨n3, 10, none⟩ (.int .i64 (m : Int))).setCell ⟨n3, 11, none⟩ (.int .u64 (yT : Int))).setCell ⟨n3, 12, none⟩ (.int .u64 (zT : Int))) = w6 ∧ Blk w6 n3 #[.int .i64 (r : Int), .int .i64 (m : Int), .int .u64 (seed : Int), .int .i64 (long : Int), .int .i64 (t : Int), .slice (some ⟨cL2, 0, none⟩) r ccL2, .int .i64 (m : Int), .int .u64 (yL : Int), .int .u64 (tL2 : Int), .slice (some ⟨c3, 0, none⟩) r cc3, .int .i64 (m : Int), .int .u64 (yT : Int), .int .u64 (zT : Int)] 40 ∧ Blk w6 (n0 + 1) #[.int .i64 0, .int .i64 0, .int .u64 0, .int .i64 0, .int .i64 0, .slice none 0 0, .int .i64 0, .int .u64 0, .int .u64 0, .slice none 0 0, .int .i64 0, .int .u64 0, .int .u64 0] 40 ∧ Mut [n3] w5 w6 :=
    ⟨_, rfl, (((g5.set 9 _).set 10 _).set 11 _).set 12 _, ((((g15.same (Below.heap_setCell _ _ _ _ (by simp; omega))).same (Below.heap_setCell _ _ _ _ (by simp; omega))).same (Below.heap_setCell _ _ _ _ (by simp; omega))).same (Below.heap_setCell _ _ _ _ (by simp; omega))), ((((Mut.refl _ w5).setCell (by simp) _).setCell (by simp) _).setCell (by simp) _).setCell (by simp) _⟩
  have hd5 := HD4.out.later hb5
  have hRA : RefA (n3 :: n0 :: (n0 + 1) :: bs) w5 c3 cc3 r m (addW yT s m r n f2) := hR5.refA (Nat.le_refl _) (by
    intro k hk
    rw [S3.out]
    simp only [List.mem_cons] at hk
    rcases hk with rfl | rfl | rfl | hk
    · omega
    · omega
    · omega
    · have := HBS.out k hk; have := HN0.out; omega)
  have hm5 : Mut [n0 + 1, n3] w w5 := (Mut.of_below (HN0.out ▸ GB.out)).trans (Mut.of_below hb5)
  have HEND := Lib.hid (show ∀ wf, Mut [n0 + 1] w6 wf → Doc bs wf r m (addW yT s m r n f2) g2 cL2 ccL2 tL2 c3 cc3 zT ∧ Below n0 w wf from fun wf hf => by
    have hm56 : Mut (n3 :: n0 :: (n0 + 1) :: bs) w5 wf := (em.wider (by simp)).trans (hf.wider (by simp))
    refine ⟨{ l := (hd5.l.step hm56 (Ext.refl _ _)).sub (by simp +contextual), t := (hRA.step hm56 (Ext.refl _ _)).sub (by simp +contextual), lL := hd5.lL, lT := hzl, fl := fun i j => ?_, gl := hd5.gl }, ?_⟩
    · exact add_lt hd5.fl i j
    · exact (hm5.trans ((em.wider (by simp)).trans (hf.wider (by simp)))).below (by rw [HN0.out]; exact Nat.le_refl _) (by simp; omega))
  have HW6 := Lib.hid hw6
  have E0 := Lib.hid e0
  have E1 := Lib.hid e1
  clear g5 g15 hw6 e0 e1 em hd5 hRA hm5 hz hR5 hb5
  go_upto_region 5 with fail
  rw [HW6.out]
  clear p0 p1 p2 p3 p4 p5 p6 p7 p8 p9 p10 p11 p12 pf9 pf10 pf11 pf12
  have o0 : (w6).cell? ⟨n3, 0, none⟩ = some (.int .i64 (r : Int)) := E0.out.cell 0 rfl
  have o1 : (w6).cell? ⟨n3, 1, none⟩ = some (.int .i64 (m : Int)) := E0.out.cell 1 rfl
  have o2 : (w6).cell? ⟨n3, 2, none⟩ = some (.int .u64 (seed : Int)) := E0.out.cell 2 rfl
  have o3 : (w6).cell? ⟨n3, 3, none⟩ = some (.int .i64 (long : Int)) := E0.out.cell 3 rfl
  have o4 : (w6).cell? ⟨n3, 4, none⟩ = some (.int .i64 (t : Int)) := E0.out.cell 4 rfl
  have o5 : (w6).cell? ⟨n3, 5, none⟩ = some (.slice (some ⟨cL2, 0, none⟩) r ccL2) := E0.out.cell 5 rfl
  have o6 : (w6).cell? ⟨n3, 6, none⟩ = some (.int .i64 (m : Int)) := E0.out.cell 6 rfl
  have o7 : (w6).cell? ⟨n3, 7, none⟩ = some (.int .u64 (yL : Int)) := E0.out.cell 7 rfl
  have o8 : (w6).cell? ⟨n3, 8, none⟩ = some (.int .u64 (tL2 : Int)) := E0.out.cell 8 rfl
  have o9 : (w6).cell? ⟨n3, 9, none⟩ = some (.slice (some ⟨c3, 0, none⟩) r cc3) := E0.out.cell 9 rfl
  have o10 : (w6).cell? ⟨n3, 10, none⟩ = some (.int .i64 (m : Int)) := E0.out.cell 10 rfl
  have o11 : (w6).cell? ⟨n3, 11, none⟩ = some (.int .u64 (yT : Int)) := E0.out.cell 11 rfl
  have o12 : (w6).cell? ⟨n3, 12, none⟩ = some (.int .u64 (zT : Int)) := E0.out.cell 12 rfl
  go_wp2_with (refine wpList_store_row rfl 40 (.tmp 8) _ rfl (n0 + 1) #[.int .i64 (r : Int), .int .i64 (m : Int), .int .u64 (seed : Int), .int .i64 (long : Int), .int .i64 (t : Int), .slice (some ⟨cL2, 0, none⟩) r ccL2, .int .i64 (m : Int), .int .u64 (yL : Int), .int .u64 (tL2 : Int), .slice (some ⟨c3, 0, none⟩) r cc3, .int .i64 (m : Int), .int .u64 (yT : Int), .int .u64 (zT : Int)] rfl rfl 40 #[.int .i64 0, .int .i64 0, .int .u64 0, .int .i64 0, .int .i64 0, .slice none 0 0, .int .i64 0, .int .u64 0, .int .u64 0, .slice none 0 0, .int .i64 0, .int .u64 0, .int .u64 0] E1.out (by kernel_rfl) rfl (by simp [Value.oneCell']) ?_)
  have hrz := setRow_heap _ _ _ #[.int .i64 (r : Int), .int .i64 (m : Int), .int .u64 (seed : Int), .int .i64 (long : Int), .int .i64 (t : Int), .slice (some ⟨cL2, 0, none⟩) r ccL2, .int .i64 (m : Int), .int .u64 (yL : Int), .int .u64 (tL2 : Int), .slice (some ⟨c3, 0, none⟩) r cc3, .int .i64 (m : Int), .int .u64 (yT : Int), .int .u64 (zT : Int)] _ _ E1.out
  have r0 := cell_of_row _ _ 0 _ _ _ hrz
  have r1 := cell_of_row _ _ 1 _ _ _ hrz
  have r2 := cell_of_row _ _ 2 _ _ _ hrz
  have r3 := cell_of_row _ _ 3 _ _ _ hrz
  have r4 := cell_of_row _ _ 4 _ _ _ hrz
  have r5 := cell_of_row _ _ 5 _ _ _ hrz
  have r6 := cell_of_row _ _ 6 _ _ _ hrz
  have r7 := cell_of_row _ _ 7 _ _ _ hrz
  have r8 := cell_of_row _ _ 8 _ _ _ hrz
  have r9 := cell_of_row _ _ 9 _ _ _ hrz
  have r10 := cell_of_row _ _ 10 _ _ _ hrz
  have r11 := cell_of_row _ _ 11 _ _ _ hrz
  have r12 := cell_of_row _ _ 12 _ _ _ hrz
  exact bodyPost_ret (v := .tuple #[.agg #[.int .i64 (r : Int), .int .i64 (m : Int), .int .u64 (seed : Int), .int .i64 (long : Int), .int .i64 (t : Int), .slice (some ⟨cL2, 0, none⟩) r ccL2, .int .i64 (m : Int), .int .u64 (yL : Int), .int .u64 (tL2 : Int), .slice (some ⟨c3, 0, none⟩) r cc3, .int .i64 (m : Int), .int .u64 (yT : Int), .int .u64 (zT : Int)], .int .i64 0]) (by simp [results, Tryd.results31, go_sem, r0, r1, r2, r3, r4, r5, r6, r7, r8, r9, r10, r11, r12]) rfl ⟨cL2, ccL2, tL2, c3, cc3, zT, rfl, HEND.out _ (Mut.setRow _ (n0 + 1) _)⟩
end Go.Proofs.YtkhbodlffhfmnaaDoor
