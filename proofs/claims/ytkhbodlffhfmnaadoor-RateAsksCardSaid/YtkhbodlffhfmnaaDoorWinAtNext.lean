/-
  What the document's own At of a window does, where a while turns.
-/
import Derived.Deep.CutBlock
import Derived.Deep.DeepCutAuto
import Derived.Test.YtkhbodlffhfmnaaDoorWinRef
namespace Go.Proofs.YtkhbodlffhfmnaaDoor
open Go.RowKit Go.Proofs.HashMath Go.Proofs.SkMath

theorem Mut.setRow2 {bs : List Nat} {a w : World} (h : Mut bs a w) {g : Nat} (hg : g ∈ bs) (cs : Array Value) : Mut bs a (w.setRow g cs) := h.trans ((Mut.setRow w g cs).wider (by simpa using hg))

set_option linter.unusedSimpArgs false in
set_option maxRecDepth 100000 in
set_option maxHeartbeats 2000000 in
theorem at_next (r m seed long now cL ccL sL tL cT ccT sT tT : Nat) (t : Nat) (w : World) (r1 : 1 ≤ r) (r8 : r ≤ 8) (m1 : 1 ≤ m) (m2 : m ≤ 1024) (h1 : now ≤ t) (h2 : t ≤ 1099511627776) (hl : 1 ≤ long) (hs : t / long = now / long + 1) :
    Calls Tryd.prog 29 #[.agg #[.int .i64 (r : Int), .int .i64 (m : Int), .int .u64 (seed : Int), .int .i64 (long : Int), .int .i64 (now : Int), .slice (some ⟨cL, 0, none⟩) r ccL, .int .i64 (m : Int), .int .u64 (sL : Int), .int .u64 (tL : Int), .slice (some ⟨cT, 0, none⟩) r ccT, .int .i64 (m : Int), .int .u64 (sT : Int), .int .u64 (tT : Int)], .int .i64 (t : Int)] w fun e w' => ∃ c cc, e = .returned (.tuple #[.agg #[.int .i64 (r : Int), .int .i64 (m : Int), .int .u64 (seed : Int), .int .i64 (long : Int), .int .i64 (t : Int), .slice (some ⟨cT, 0, none⟩) r ccT, .int .i64 (m : Int), .int .u64 (sT : Int), .int .u64 (tT : Int), .slice (some ⟨c, 0, none⟩) r cc, .int .i64 (m : Int), .int .u64 (sd seed (t / long) : Int), .int .u64 (0 : Int)], .int .i64 0]) ∧ RefS w.heap.size w'.heap.size w' c cc r m Z ∧ Below w.heap.size w w' := by
  obtain ⟨n0, hn0⟩ : ∃ n0, w.heap.size = n0 := ⟨_, rfl⟩
  have hsz0 : (w.alloc (.cells #[.int .i64 (r : Int), .int .i64 (m : Int), .int .u64 (seed : Int), .int .i64 (long : Int), .int .i64 (now : Int), .slice (some ⟨cL, 0, none⟩) r ccL, .int .i64 (m : Int), .int .u64 (sL : Int), .int .u64 (tL : Int), .slice (some ⟨cT, 0, none⟩) r ccT, .int .i64 (m : Int), .int .u64 (sT : Int), .int .u64 (tT : Int)] 40)).heap.size = n0 + 1 := by rw [World.size_alloc, hn0]
  have hB : Below n0 w ((w.alloc (.cells #[.int .i64 (r : Int), .int .i64 (m : Int), .int .u64 (seed : Int), .int .i64 (long : Int), .int .i64 (now : Int), .slice (some ⟨cL, 0, none⟩) r ccL, .int .i64 (m : Int), .int .u64 (sL : Int), .int .u64 (tL : Int), .slice (some ⟨cT, 0, none⟩) r ccT, .int .i64 (m : Int), .int .u64 (sT : Int), .int .u64 (tT : Int)] 40)).alloc (.cells #[.int .i64 0, .int .i64 0, .int .u64 0, .int .i64 0, .int .i64 0, .slice none 0 0, .int .i64 0, .int .u64 0, .int .u64 0, .slice none 0 0, .int .i64 0, .int .u64 0, .int .u64 0] 40)) := hn0 ▸ (box_below (W := w) _).alloc (by simp) _
  have hb0 : Blk ((w.alloc (.cells #[.int .i64 (r : Int), .int .i64 (m : Int), .int .u64 (seed : Int), .int .i64 (long : Int), .int .i64 (now : Int), .slice (some ⟨cL, 0, none⟩) r ccL, .int .i64 (m : Int), .int .u64 (sL : Int), .int .u64 (tL : Int), .slice (some ⟨cT, 0, none⟩) r ccT, .int .i64 (m : Int), .int .u64 (sT : Int), .int .u64 (tT : Int)] 40)).alloc (.cells #[.int .i64 0, .int .i64 0, .int .u64 0, .int .i64 0, .int .i64 0, .slice none 0 0, .int .i64 0, .int .u64 0, .int .u64 0, .slice none 0 0, .int .i64 0, .int .u64 0, .int .u64 0] 40)) n0 #[.int .i64 (r : Int), .int .i64 (m : Int), .int .u64 (seed : Int), .int .i64 (long : Int), .int .i64 (now : Int), .slice (some ⟨cL, 0, none⟩) r ccL, .int .i64 (m : Int), .int .u64 (sL : Int), .int .u64 (tL : Int), .slice (some ⟨cT, 0, none⟩) r ccT, .int .i64 (m : Int), .int .u64 (sT : Int), .int .u64 (tT : Int)] 40 := hn0 ▸ (blk_new w _ _).later (box_below _)
  have hb1 : Blk ((w.alloc (.cells #[.int .i64 (r : Int), .int .i64 (m : Int), .int .u64 (seed : Int), .int .i64 (long : Int), .int .i64 (now : Int), .slice (some ⟨cL, 0, none⟩) r ccL, .int .i64 (m : Int), .int .u64 (sL : Int), .int .u64 (tL : Int), .slice (some ⟨cT, 0, none⟩) r ccT, .int .i64 (m : Int), .int .u64 (sT : Int), .int .u64 (tT : Int)] 40)).alloc (.cells #[.int .i64 0, .int .i64 0, .int .u64 0, .int .i64 0, .int .i64 0, .slice none 0 0, .int .i64 0, .int .u64 0, .int .u64 0, .slice none 0 0, .int .i64 0, .int .u64 0, .int .u64 0] 40)) (n0 + 1) #[.int .i64 0, .int .i64 0, .int .u64 0, .int .i64 0, .int .i64 0, .slice none 0 0, .int .i64 0, .int .u64 0, .int .u64 0, .slice none 0 0, .int .i64 0, .int .u64 0, .int .u64 0] 40 := hsz0 ▸ blk_new _ _ _
  have hsz : ((w.alloc (.cells #[.int .i64 (r : Int), .int .i64 (m : Int), .int .u64 (seed : Int), .int .i64 (long : Int), .int .i64 (now : Int), .slice (some ⟨cL, 0, none⟩) r ccL, .int .i64 (m : Int), .int .u64 (sL : Int), .int .u64 (tL : Int), .slice (some ⟨cT, 0, none⟩) r ccT, .int .i64 (m : Int), .int .u64 (sT : Int), .int .u64 (tT : Int)] 40)).alloc (.cells #[.int .i64 0, .int .i64 0, .int .u64 0, .int .i64 0, .int .i64 0, .slice none 0 0, .int .i64 0, .int .u64 0, .int .u64 0, .slice none 0 0, .int .i64 0, .int .u64 0, .int .u64 0] 40)).heap.size = n0 + 2 := by rw [World.size_alloc, hsz0]
  obtain ⟨W0, hW0⟩ : ∃ W0, (w.alloc (.cells #[.int .i64 (r : Int), .int .i64 (m : Int), .int .u64 (seed : Int), .int .i64 (long : Int), .int .i64 (now : Int), .slice (some ⟨cL, 0, none⟩) r ccL, .int .i64 (m : Int), .int .u64 (sL : Int), .int .u64 (tL : Int), .slice (some ⟨cT, 0, none⟩) r ccT, .int .i64 (m : Int), .int .u64 (sT : Int), .int .u64 (tT : Int)] 40)).alloc (.cells #[.int .i64 0, .int .i64 0, .int .u64 0, .int .i64 0, .int .i64 0, .slice none 0 0, .int .i64 0, .int .u64 0, .int .u64 0, .slice none 0 0, .int .i64 0, .int .u64 0, .int .u64 0] 40) = W0 := ⟨_, rfl⟩
  have q0 : ((w.alloc (.cells #[.int .i64 (r : Int), .int .i64 (m : Int), .int .u64 (seed : Int), .int .i64 (long : Int), .int .i64 (now : Int), .slice (some ⟨cL, 0, none⟩) r ccL, .int .i64 (m : Int), .int .u64 (sL : Int), .int .u64 (tL : Int), .slice (some ⟨cT, 0, none⟩) r ccT, .int .i64 (m : Int), .int .u64 (sT : Int), .int .u64 (tT : Int)] 40)).alloc (.cells #[.int .i64 0, .int .i64 0, .int .u64 0, .int .i64 0, .int .i64 0, .slice none 0 0, .int .i64 0, .int .u64 0, .int .u64 0, .slice none 0 0, .int .i64 0, .int .u64 0, .int .u64 0] 40)).cell? ⟨n0, 0, none⟩ = some (.int .i64 (r : Int)) := hb0.cell 0 rfl
  have q1 : ((w.alloc (.cells #[.int .i64 (r : Int), .int .i64 (m : Int), .int .u64 (seed : Int), .int .i64 (long : Int), .int .i64 (now : Int), .slice (some ⟨cL, 0, none⟩) r ccL, .int .i64 (m : Int), .int .u64 (sL : Int), .int .u64 (tL : Int), .slice (some ⟨cT, 0, none⟩) r ccT, .int .i64 (m : Int), .int .u64 (sT : Int), .int .u64 (tT : Int)] 40)).alloc (.cells #[.int .i64 0, .int .i64 0, .int .u64 0, .int .i64 0, .int .i64 0, .slice none 0 0, .int .i64 0, .int .u64 0, .int .u64 0, .slice none 0 0, .int .i64 0, .int .u64 0, .int .u64 0] 40)).cell? ⟨n0, 1, none⟩ = some (.int .i64 (m : Int)) := hb0.cell 1 rfl
  have q2 : ((w.alloc (.cells #[.int .i64 (r : Int), .int .i64 (m : Int), .int .u64 (seed : Int), .int .i64 (long : Int), .int .i64 (now : Int), .slice (some ⟨cL, 0, none⟩) r ccL, .int .i64 (m : Int), .int .u64 (sL : Int), .int .u64 (tL : Int), .slice (some ⟨cT, 0, none⟩) r ccT, .int .i64 (m : Int), .int .u64 (sT : Int), .int .u64 (tT : Int)] 40)).alloc (.cells #[.int .i64 0, .int .i64 0, .int .u64 0, .int .i64 0, .int .i64 0, .slice none 0 0, .int .i64 0, .int .u64 0, .int .u64 0, .slice none 0 0, .int .i64 0, .int .u64 0, .int .u64 0] 40)).cell? ⟨n0, 2, none⟩ = some (.int .u64 (seed : Int)) := hb0.cell 2 rfl
  have q3 : ((w.alloc (.cells #[.int .i64 (r : Int), .int .i64 (m : Int), .int .u64 (seed : Int), .int .i64 (long : Int), .int .i64 (now : Int), .slice (some ⟨cL, 0, none⟩) r ccL, .int .i64 (m : Int), .int .u64 (sL : Int), .int .u64 (tL : Int), .slice (some ⟨cT, 0, none⟩) r ccT, .int .i64 (m : Int), .int .u64 (sT : Int), .int .u64 (tT : Int)] 40)).alloc (.cells #[.int .i64 0, .int .i64 0, .int .u64 0, .int .i64 0, .int .i64 0, .slice none 0 0, .int .i64 0, .int .u64 0, .int .u64 0, .slice none 0 0, .int .i64 0, .int .u64 0, .int .u64 0] 40)).cell? ⟨n0, 3, none⟩ = some (.int .i64 (long : Int)) := hb0.cell 3 rfl
  have q4 : ((w.alloc (.cells #[.int .i64 (r : Int), .int .i64 (m : Int), .int .u64 (seed : Int), .int .i64 (long : Int), .int .i64 (now : Int), .slice (some ⟨cL, 0, none⟩) r ccL, .int .i64 (m : Int), .int .u64 (sL : Int), .int .u64 (tL : Int), .slice (some ⟨cT, 0, none⟩) r ccT, .int .i64 (m : Int), .int .u64 (sT : Int), .int .u64 (tT : Int)] 40)).alloc (.cells #[.int .i64 0, .int .i64 0, .int .u64 0, .int .i64 0, .int .i64 0, .slice none 0 0, .int .i64 0, .int .u64 0, .int .u64 0, .slice none 0 0, .int .i64 0, .int .u64 0, .int .u64 0] 40)).cell? ⟨n0, 4, none⟩ = some (.int .i64 (now : Int)) := hb0.cell 4 rfl
  have q5 : ((w.alloc (.cells #[.int .i64 (r : Int), .int .i64 (m : Int), .int .u64 (seed : Int), .int .i64 (long : Int), .int .i64 (now : Int), .slice (some ⟨cL, 0, none⟩) r ccL, .int .i64 (m : Int), .int .u64 (sL : Int), .int .u64 (tL : Int), .slice (some ⟨cT, 0, none⟩) r ccT, .int .i64 (m : Int), .int .u64 (sT : Int), .int .u64 (tT : Int)] 40)).alloc (.cells #[.int .i64 0, .int .i64 0, .int .u64 0, .int .i64 0, .int .i64 0, .slice none 0 0, .int .i64 0, .int .u64 0, .int .u64 0, .slice none 0 0, .int .i64 0, .int .u64 0, .int .u64 0] 40)).cell? ⟨n0, 5, none⟩ = some (.slice (some ⟨cL, 0, none⟩) r ccL) := hb0.cell 5 rfl
  have q6 : ((w.alloc (.cells #[.int .i64 (r : Int), .int .i64 (m : Int), .int .u64 (seed : Int), .int .i64 (long : Int), .int .i64 (now : Int), .slice (some ⟨cL, 0, none⟩) r ccL, .int .i64 (m : Int), .int .u64 (sL : Int), .int .u64 (tL : Int), .slice (some ⟨cT, 0, none⟩) r ccT, .int .i64 (m : Int), .int .u64 (sT : Int), .int .u64 (tT : Int)] 40)).alloc (.cells #[.int .i64 0, .int .i64 0, .int .u64 0, .int .i64 0, .int .i64 0, .slice none 0 0, .int .i64 0, .int .u64 0, .int .u64 0, .slice none 0 0, .int .i64 0, .int .u64 0, .int .u64 0] 40)).cell? ⟨n0, 6, none⟩ = some (.int .i64 (m : Int)) := hb0.cell 6 rfl
  have q7 : ((w.alloc (.cells #[.int .i64 (r : Int), .int .i64 (m : Int), .int .u64 (seed : Int), .int .i64 (long : Int), .int .i64 (now : Int), .slice (some ⟨cL, 0, none⟩) r ccL, .int .i64 (m : Int), .int .u64 (sL : Int), .int .u64 (tL : Int), .slice (some ⟨cT, 0, none⟩) r ccT, .int .i64 (m : Int), .int .u64 (sT : Int), .int .u64 (tT : Int)] 40)).alloc (.cells #[.int .i64 0, .int .i64 0, .int .u64 0, .int .i64 0, .int .i64 0, .slice none 0 0, .int .i64 0, .int .u64 0, .int .u64 0, .slice none 0 0, .int .i64 0, .int .u64 0, .int .u64 0] 40)).cell? ⟨n0, 7, none⟩ = some (.int .u64 (sL : Int)) := hb0.cell 7 rfl
  have q8 : ((w.alloc (.cells #[.int .i64 (r : Int), .int .i64 (m : Int), .int .u64 (seed : Int), .int .i64 (long : Int), .int .i64 (now : Int), .slice (some ⟨cL, 0, none⟩) r ccL, .int .i64 (m : Int), .int .u64 (sL : Int), .int .u64 (tL : Int), .slice (some ⟨cT, 0, none⟩) r ccT, .int .i64 (m : Int), .int .u64 (sT : Int), .int .u64 (tT : Int)] 40)).alloc (.cells #[.int .i64 0, .int .i64 0, .int .u64 0, .int .i64 0, .int .i64 0, .slice none 0 0, .int .i64 0, .int .u64 0, .int .u64 0, .slice none 0 0, .int .i64 0, .int .u64 0, .int .u64 0] 40)).cell? ⟨n0, 8, none⟩ = some (.int .u64 (tL : Int)) := hb0.cell 8 rfl
  have q9 : ((w.alloc (.cells #[.int .i64 (r : Int), .int .i64 (m : Int), .int .u64 (seed : Int), .int .i64 (long : Int), .int .i64 (now : Int), .slice (some ⟨cL, 0, none⟩) r ccL, .int .i64 (m : Int), .int .u64 (sL : Int), .int .u64 (tL : Int), .slice (some ⟨cT, 0, none⟩) r ccT, .int .i64 (m : Int), .int .u64 (sT : Int), .int .u64 (tT : Int)] 40)).alloc (.cells #[.int .i64 0, .int .i64 0, .int .u64 0, .int .i64 0, .int .i64 0, .slice none 0 0, .int .i64 0, .int .u64 0, .int .u64 0, .slice none 0 0, .int .i64 0, .int .u64 0, .int .u64 0] 40)).cell? ⟨n0, 9, none⟩ = some (.slice (some ⟨cT, 0, none⟩) r ccT) := hb0.cell 9 rfl
  have q10 : ((w.alloc (.cells #[.int .i64 (r : Int), .int .i64 (m : Int), .int .u64 (seed : Int), .int .i64 (long : Int), .int .i64 (now : Int), .slice (some ⟨cL, 0, none⟩) r ccL, .int .i64 (m : Int), .int .u64 (sL : Int), .int .u64 (tL : Int), .slice (some ⟨cT, 0, none⟩) r ccT, .int .i64 (m : Int), .int .u64 (sT : Int), .int .u64 (tT : Int)] 40)).alloc (.cells #[.int .i64 0, .int .i64 0, .int .u64 0, .int .i64 0, .int .i64 0, .slice none 0 0, .int .i64 0, .int .u64 0, .int .u64 0, .slice none 0 0, .int .i64 0, .int .u64 0, .int .u64 0] 40)).cell? ⟨n0, 10, none⟩ = some (.int .i64 (m : Int)) := hb0.cell 10 rfl
  have q11 : ((w.alloc (.cells #[.int .i64 (r : Int), .int .i64 (m : Int), .int .u64 (seed : Int), .int .i64 (long : Int), .int .i64 (now : Int), .slice (some ⟨cL, 0, none⟩) r ccL, .int .i64 (m : Int), .int .u64 (sL : Int), .int .u64 (tL : Int), .slice (some ⟨cT, 0, none⟩) r ccT, .int .i64 (m : Int), .int .u64 (sT : Int), .int .u64 (tT : Int)] 40)).alloc (.cells #[.int .i64 0, .int .i64 0, .int .u64 0, .int .i64 0, .int .i64 0, .slice none 0 0, .int .i64 0, .int .u64 0, .int .u64 0, .slice none 0 0, .int .i64 0, .int .u64 0, .int .u64 0] 40)).cell? ⟨n0, 11, none⟩ = some (.int .u64 (sT : Int)) := hb0.cell 11 rfl
  have q12 : ((w.alloc (.cells #[.int .i64 (r : Int), .int .i64 (m : Int), .int .u64 (seed : Int), .int .i64 (long : Int), .int .i64 (now : Int), .slice (some ⟨cL, 0, none⟩) r ccL, .int .i64 (m : Int), .int .u64 (sL : Int), .int .u64 (tL : Int), .slice (some ⟨cT, 0, none⟩) r ccT, .int .i64 (m : Int), .int .u64 (sT : Int), .int .u64 (tT : Int)] 40)).alloc (.cells #[.int .i64 0, .int .i64 0, .int .u64 0, .int .i64 0, .int .i64 0, .slice none 0 0, .int .i64 0, .int .u64 0, .int .u64 0, .slice none 0 0, .int .i64 0, .int .u64 0, .int .u64 0] 40)).cell? ⟨n0, 12, none⟩ = some (.int .u64 (tT : Int)) := hb0.cell 12 rfl
  have qf4 := hb0.free 4
  have qf5 := hb0.free 5
  have qf6 := hb0.free 6
  have qf7 := hb0.free 7
  have qf8 := hb0.free 8
  have qf9 := hb0.free 9
  have qf10 := hb0.free 10
  have qf11 := hb0.free 11
  have qf12 := hb0.free 12
  have d1 : decide (t < now) = false := by simp; omega
  have d2 : decide (1099511627776 < (t : Int)) = false := by simp; omega
  have d3 : ((long : Int) == 0) = false := by simp; omega
  obtain ⟨k, hk, hk'⟩ : ∃ k : Nat, (now : Int) / (long : Int) = (k : Int) ∧ now / long = k := ⟨now / long, by simp, rfl⟩
  obtain ⟨j, hj, hj'⟩ : ∃ j : Nat, (t : Int) / (long : Int) = (j : Int) ∧ t / long = j := ⟨t / long, by simp, rfl⟩
  have hjl : j ≤ 1099511627776 := hj' ▸ Nat.le_trans (Nat.div_le_self _ _) h2
  have hkl : k ≤ 1099511627776 := hk' ▸ Nat.le_trans (Nat.div_le_self _ _) (by omega)
  rw [hk', hj'] at hs
  rw [hj']
  have dk1 : ((j : Int) == (k : Int) + 1) = true := by simp; omega
  have dk3 : decide (k + 1 < j) = false := by simp; omega
  have dk2 : decide ((k : Int) + 1 < (j : Int)) = false := by simp; omega
  obtain ⟨x, hx⟩ : ∃ x, sd seed j = x := ⟨_, rfl⟩
  rw [hx]
  rw [hn0]
  have hm0 : Mut [n0, n0 + 1] w ((w.alloc (.cells #[.int .i64 (r : Int), .int .i64 (m : Int), .int .u64 (seed : Int), .int .i64 (long : Int), .int .i64 (now : Int), .slice (some ⟨cL, 0, none⟩) r ccL, .int .i64 (m : Int), .int .u64 (sL : Int), .int .u64 (tL : Int), .slice (some ⟨cT, 0, none⟩) r ccT, .int .i64 (m : Int), .int .u64 (sT : Int), .int .u64 (tT : Int)] 40)).alloc (.cells #[.int .i64 0, .int .i64 0, .int .u64 0, .int .i64 0, .int .i64 0, .slice none 0 0, .int .i64 0, .int .u64 0, .int .u64 0, .slice none 0 0, .int .i64 0, .int .u64 0, .int .u64 0] 40)) := Mut.of_below (hn0 ▸ hB)
  have HM0 := Lib.hid hm0
  have HB0 := Lib.hid hb0
  have HB1 := Lib.hid hb1
  have HSZ := Lib.hid hsz
  have HN0 := Lib.hid hn0
  have ha0s : (w.alloc (.cells #[.int .i64 (r : Int), .int .i64 (m : Int), .int .u64 (seed : Int), .int .i64 (long : Int), .int .i64 (now : Int), .slice (some ⟨cT, 0, none⟩) r ccT, .int .i64 (m : Int), .int .u64 (sT : Int), .int .u64 (tT : Int), .slice (some ⟨cT, 0, none⟩) r ccT, .int .i64 (m : Int), .int .u64 (sT : Int), .int .u64 (tT : Int)] 40)).heap.size = n0 + 1 := by rw [World.size_alloc, hn0]
  have HA0 := Lib.hid (show Blk ((w.alloc (.cells #[.int .i64 (r : Int), .int .i64 (m : Int), .int .u64 (seed : Int), .int .i64 (long : Int), .int .i64 (now : Int), .slice (some ⟨cT, 0, none⟩) r ccT, .int .i64 (m : Int), .int .u64 (sT : Int), .int .u64 (tT : Int), .slice (some ⟨cT, 0, none⟩) r ccT, .int .i64 (m : Int), .int .u64 (sT : Int), .int .u64 (tT : Int)] 40)).alloc (.cells #[.int .i64 0, .int .i64 0, .int .u64 0, .int .i64 0, .int .i64 0, .slice none 0 0, .int .i64 0, .int .u64 0, .int .u64 0, .slice none 0 0, .int .i64 0, .int .u64 0, .int .u64 0] 40)) n0 #[.int .i64 (r : Int), .int .i64 (m : Int), .int .u64 (seed : Int), .int .i64 (long : Int), .int .i64 (now : Int), .slice (some ⟨cT, 0, none⟩) r ccT, .int .i64 (m : Int), .int .u64 (sT : Int), .int .u64 (tT : Int), .slice (some ⟨cT, 0, none⟩) r ccT, .int .i64 (m : Int), .int .u64 (sT : Int), .int .u64 (tT : Int)] 40 from hn0 ▸ (blk_new w _ _).later (box_below _))
  have HA1 := Lib.hid (show Blk ((w.alloc (.cells #[.int .i64 (r : Int), .int .i64 (m : Int), .int .u64 (seed : Int), .int .i64 (long : Int), .int .i64 (now : Int), .slice (some ⟨cT, 0, none⟩) r ccT, .int .i64 (m : Int), .int .u64 (sT : Int), .int .u64 (tT : Int), .slice (some ⟨cT, 0, none⟩) r ccT, .int .i64 (m : Int), .int .u64 (sT : Int), .int .u64 (tT : Int)] 40)).alloc (.cells #[.int .i64 0, .int .i64 0, .int .u64 0, .int .i64 0, .int .i64 0, .slice none 0 0, .int .i64 0, .int .u64 0, .int .u64 0, .slice none 0 0, .int .i64 0, .int .u64 0, .int .u64 0] 40)) (n0 + 1) #[.int .i64 0, .int .i64 0, .int .u64 0, .int .i64 0, .int .i64 0, .slice none 0 0, .int .i64 0, .int .u64 0, .int .u64 0, .slice none 0 0, .int .i64 0, .int .u64 0, .int .u64 0] 40 from ha0s ▸ blk_new _ _ _)
  have HAM := Lib.hid (show Mut [n0, n0 + 1] w ((w.alloc (.cells #[.int .i64 (r : Int), .int .i64 (m : Int), .int .u64 (seed : Int), .int .i64 (long : Int), .int .i64 (now : Int), .slice (some ⟨cT, 0, none⟩) r ccT, .int .i64 (m : Int), .int .u64 (sT : Int), .int .u64 (tT : Int), .slice (some ⟨cT, 0, none⟩) r ccT, .int .i64 (m : Int), .int .u64 (sT : Int), .int .u64 (tT : Int)] 40)).alloc (.cells #[.int .i64 0, .int .i64 0, .int .u64 0, .int .i64 0, .int .i64 0, .slice none 0 0, .int .i64 0, .int .u64 0, .int .u64 0, .slice none 0 0, .int .i64 0, .int .u64 0, .int .u64 0] 40)) from Mut.of_below ((box_below (W := w) _).alloc (by simp) _))
  have HAS := Lib.hid (show ((w.alloc (.cells #[.int .i64 (r : Int), .int .i64 (m : Int), .int .u64 (seed : Int), .int .i64 (long : Int), .int .i64 (now : Int), .slice (some ⟨cT, 0, none⟩) r ccT, .int .i64 (m : Int), .int .u64 (sT : Int), .int .u64 (tT : Int), .slice (some ⟨cT, 0, none⟩) r ccT, .int .i64 (m : Int), .int .u64 (sT : Int), .int .u64 (tT : Int)] 40)).alloc (.cells #[.int .i64 0, .int .i64 0, .int .u64 0, .int .i64 0, .int .i64 0, .slice none 0 0, .int .i64 0, .int .u64 0, .int .u64 0, .slice none 0 0, .int .i64 0, .int .u64 0, .int .u64 0] 40)).heap.size = n0 + 2 by rw [World.size_alloc, ha0s])
  have HFR := Lib.hid (fun W => fresh_any r m seed long now cT ccT sT tT cT ccT sT tT j W r1 r8 m1 m2 hjl)
  rw [hx] at HFR
  clear ha0s hB hb0 hb1 hsz0 hsz hW0 W0 hk' hj' hs hx hm0
  go_enter Tryd.func29, Tryd.ntmps29
  go_wp2_with fail
  refine (HFR.out _).mono ?_
  rintro e w3 ⟨c, cc, rfl, hR, hb3⟩
  have b3 : Blk w3 n0 #[.int .i64 (r : Int), .int .i64 (m : Int), .int .u64 (seed : Int), .int .i64 (long : Int), .int .i64 (now : Int), .slice (some ⟨cT, 0, none⟩) r ccT, .int .i64 (m : Int), .int .u64 (sT : Int), .int .u64 (tT : Int), .slice (some ⟨cT, 0, none⟩) r ccT, .int .i64 (m : Int), .int .u64 (sT : Int), .int .u64 (tT : Int)] 40 := HA0.out.later hb3
  have b31 : Blk w3 (n0 + 1) #[.int .i64 0, .int .i64 0, .int .u64 0, .int .i64 0, .int .i64 0, .slice none 0 0, .int .i64 0, .int .u64 0, .int .u64 0, .slice none 0 0, .int .i64 0, .int .u64 0, .int .u64 0] 40 := HA1.out.later hb3
  have m3 : Mut [n0, n0 + 1] w w3 := HAM.out.trans (Mut.of_below hb3)
  have hsz3 : n0 + 2 ≤ w3.heap.size := HAS.out ▸ hb3.size
  have hR3 : RefS (n0 + 2) w3.heap.size w3 c cc r m Z := hR.mono (Nat.le_refl _) (Nat.le_of_eq HAS.out.symm)
  have p0 : (w3).cell? ⟨n0, 0, none⟩ = some (.int .i64 (r : Int)) := b3.cell 0 rfl
  have p1 : (w3).cell? ⟨n0, 1, none⟩ = some (.int .i64 (m : Int)) := b3.cell 1 rfl
  have p2 : (w3).cell? ⟨n0, 2, none⟩ = some (.int .u64 (seed : Int)) := b3.cell 2 rfl
  have p3 : (w3).cell? ⟨n0, 3, none⟩ = some (.int .i64 (long : Int)) := b3.cell 3 rfl
  have p4 : (w3).cell? ⟨n0, 4, none⟩ = some (.int .i64 (now : Int)) := b3.cell 4 rfl
  have p5 : (w3).cell? ⟨n0, 5, none⟩ = some (.slice (some ⟨cT, 0, none⟩) r ccT) := b3.cell 5 rfl
  have p6 : (w3).cell? ⟨n0, 6, none⟩ = some (.int .i64 (m : Int)) := b3.cell 6 rfl
  have p7 : (w3).cell? ⟨n0, 7, none⟩ = some (.int .u64 (sT : Int)) := b3.cell 7 rfl
  have p8 : (w3).cell? ⟨n0, 8, none⟩ = some (.int .u64 (tT : Int)) := b3.cell 8 rfl
  have p9 : (w3).cell? ⟨n0, 9, none⟩ = some (.slice (some ⟨cT, 0, none⟩) r ccT) := b3.cell 9 rfl
  have p10 : (w3).cell? ⟨n0, 10, none⟩ = some (.int .i64 (m : Int)) := b3.cell 10 rfl
  have p11 : (w3).cell? ⟨n0, 11, none⟩ = some (.int .u64 (sT : Int)) := b3.cell 11 rfl
  have p12 : (w3).cell? ⟨n0, 12, none⟩ = some (.int .u64 (tT : Int)) := b3.cell 12 rfl
  have pf4 := b3.free 4
  have pf5 := b3.free 5
  have pf6 := b3.free 6
  have pf7 := b3.free 7
  have pf8 := b3.free 8
  have pf9 := b3.free 9
  have pf10 := b3.free 10
  have pf11 := b3.free 11
  have pf12 := b3.free 12
  obtain ⟨w5, hw5, g50, g51, g5m⟩ : ∃ w5, (((((w3.setCell ⟨n0, 9, none⟩ (.slice (some ⟨c, 0, none⟩) r cc)).setCell ⟨n0, 10, none⟩ (.int .i64 (m : Int))).setCell ⟨n0, 11, none⟩ (.int .u64 (x : Int))).setCell ⟨n0, 12, none⟩ (.int .u64 0)).setCell ⟨n0, 4, none⟩ (.int .i64 (t : Int))) = w5 ∧ Blk w5 n0 #[.int .i64 (r : Int), .int .i64 (m : Int), .int .u64 (seed : Int), .int .i64 (long : Int), .int .i64 (t : Int), .slice (some ⟨cT, 0, none⟩) r ccT, .int .i64 (m : Int), .int .u64 (sT : Int), .int .u64 (tT : Int), .slice (some ⟨c, 0, none⟩) r cc, .int .i64 (m : Int), .int .u64 (x : Int), .int .u64 (0 : Int)] 40 ∧ Blk w5 (n0 + 1) #[.int .i64 0, .int .i64 0, .int .u64 0, .int .i64 0, .int .i64 0, .slice none 0 0, .int .i64 0, .int .u64 0, .int .u64 0, .slice none 0 0, .int .i64 0, .int .u64 0, .int .u64 0] 40 ∧ Mut [n0, n0 + 1] w3 w5 :=
    ⟨_, rfl, ((((b3.set 9 _).set 10 _).set 11 _).set 12 _).set 4 _, ((((b31.same (Below.heap_setCell _ _ _ _ (by simp))).same (Below.heap_setCell _ _ _ _ (by simp))).same (Below.heap_setCell _ _ _ _ (by simp))).same (Below.heap_setCell _ _ _ _ (by simp))).same (Below.heap_setCell _ _ _ _ (by simp)), (((((Mut.refl _ w3).setCell (by simp) _).setCell (by simp) _).setCell (by simp) _).setCell (by simp) _).setCell (by simp) _⟩
  have HW5 := Lib.hid hw5
  have G50 := Lib.hid g50
  have E31 := Lib.hid g51
  have G5M := Lib.hid g5m
  clear hw5 g50 g51 g5m
  have HEND := Lib.hid (show ∀ wf, Mut [n0, n0 + 1] w3 wf → RefS n0 wf.heap.size wf c cc r m Z ∧ Below n0 w wf from fun wf hm => ⟨(hR3.mut hm (by simp) (Nat.le_refl _)).mono hm.size (by omega), (m3.trans hm).below (by rw [HN0.out]; exact Nat.le_refl _) (by simp)⟩)
  clear b3 b31 m3 hsz3 hR3 hR hb3 q0 q1 q2 q3 q4 q5 q6 q7 q8 q9 q10 q11 q12 qf4 qf5 qf6 qf7 qf8 qf9 qf10 qf11 qf12
  go_upto_region 12 with fail
  rw [HW5.out]
  clear p0 p1 p2 p3 p4 p5 p6 p7 p8 p9 p10 p11 p12 pf4 pf5 pf6 pf7 pf8 pf9 pf10 pf11 pf12
  have s0 : (w5).cell? ⟨n0, 0, none⟩ = some (.int .i64 (r : Int)) := G50.out.cell 0 rfl
  have s1 : (w5).cell? ⟨n0, 1, none⟩ = some (.int .i64 (m : Int)) := G50.out.cell 1 rfl
  have s2 : (w5).cell? ⟨n0, 2, none⟩ = some (.int .u64 (seed : Int)) := G50.out.cell 2 rfl
  have s3 : (w5).cell? ⟨n0, 3, none⟩ = some (.int .i64 (long : Int)) := G50.out.cell 3 rfl
  have s4 : (w5).cell? ⟨n0, 4, none⟩ = some (.int .i64 (t : Int)) := G50.out.cell 4 rfl
  have s5 : (w5).cell? ⟨n0, 5, none⟩ = some (.slice (some ⟨cT, 0, none⟩) r ccT) := G50.out.cell 5 rfl
  have s6 : (w5).cell? ⟨n0, 6, none⟩ = some (.int .i64 (m : Int)) := G50.out.cell 6 rfl
  have s7 : (w5).cell? ⟨n0, 7, none⟩ = some (.int .u64 (sT : Int)) := G50.out.cell 7 rfl
  have s8 : (w5).cell? ⟨n0, 8, none⟩ = some (.int .u64 (tT : Int)) := G50.out.cell 8 rfl
  have s9 : (w5).cell? ⟨n0, 9, none⟩ = some (.slice (some ⟨c, 0, none⟩) r cc) := G50.out.cell 9 rfl
  have s10 : (w5).cell? ⟨n0, 10, none⟩ = some (.int .i64 (m : Int)) := G50.out.cell 10 rfl
  have s11 : (w5).cell? ⟨n0, 11, none⟩ = some (.int .u64 (x : Int)) := G50.out.cell 11 rfl
  have s12 : (w5).cell? ⟨n0, 12, none⟩ = some (.int .u64 (0 : Int)) := G50.out.cell 12 rfl
  go_wp2_with (refine wpList_store_row rfl 40 (.tmp 4) _ rfl (n0 + 1) #[.int .i64 (r : Int), .int .i64 (m : Int), .int .u64 (seed : Int), .int .i64 (long : Int), .int .i64 (t : Int), .slice (some ⟨cT, 0, none⟩) r ccT, .int .i64 (m : Int), .int .u64 (sT : Int), .int .u64 (tT : Int), .slice (some ⟨c, 0, none⟩) r cc, .int .i64 (m : Int), .int .u64 (x : Int), .int .u64 (0 : Int)] rfl rfl 40 #[.int .i64 0, .int .i64 0, .int .u64 0, .int .i64 0, .int .i64 0, .slice none 0 0, .int .i64 0, .int .u64 0, .int .u64 0, .slice none 0 0, .int .i64 0, .int .u64 0, .int .u64 0] E31.out (by kernel_rfl) rfl (by simp [Value.oneCell']) ?_)
  have hrz := setRow_heap _ _ _ #[.int .i64 (r : Int), .int .i64 (m : Int), .int .u64 (seed : Int), .int .i64 (long : Int), .int .i64 (t : Int), .slice (some ⟨cT, 0, none⟩) r ccT, .int .i64 (m : Int), .int .u64 (sT : Int), .int .u64 (tT : Int), .slice (some ⟨c, 0, none⟩) r cc, .int .i64 (m : Int), .int .u64 (x : Int), .int .u64 (0 : Int)] _ _ E31.out
  have r0 := cell_of_row _ _ 0 _ _ _ hrz
  have r1 := cell_of_row _ _ 1 _ _ _ hrz
  have r2 := cell_of_row _ _ 2 _ _ _ hrz
  have r3 := cell_of_row _ _ 3 _ _ _ hrz
  have r4 := cell_of_row _ _ 4 _ _ _ hrz
  have r5 := cell_of_row _ _ 5 _ _ _ hrz
  have r6 := cell_of_row _ _ 6 _ _ _ hrz
  have r7 := cell_of_row _ _ 7 _ _ _ hrz
  have r8 := cell_of_row _ _ 8 _ _ _ hrz
  have r9 := cell_of_row _ _ 9 _ _ _ hrz
  have r10 := cell_of_row _ _ 10 _ _ _ hrz
  have r11 := cell_of_row _ _ 11 _ _ _ hrz
  have r12 := cell_of_row _ _ 12 _ _ _ hrz
  refine bodyPost_ret (v := .tuple #[.agg #[.int .i64 (r : Int), .int .i64 (m : Int), .int .u64 (seed : Int), .int .i64 (long : Int), .int .i64 (t : Int), .slice (some ⟨cT, 0, none⟩) r ccT, .int .i64 (m : Int), .int .u64 (sT : Int), .int .u64 (tT : Int), .slice (some ⟨c, 0, none⟩) r cc, .int .i64 (m : Int), .int .u64 (x : Int), .int .u64 (0 : Int)], .int .i64 0]) (by simp [results, Tryd.results29, go_sem, r0, r1, r2, r3, r4, r5, r6, r7, r8, r9, r10, r11, r12]) rfl ⟨c, cc, rfl, HEND.out _ (G5M.out.trans ((Mut.setRow w5 (n0 + 1) _).wider (by simp)))⟩
end Go.Proofs.YtkhbodlffhfmnaaDoor
