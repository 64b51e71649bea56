/-
  The document's New.
-/
import Derived.Test.YthpcnnkdpgjiiaaTlRef0
namespace Go.Proofs.Ythpcnnkdpgjiiaa
open Go.RowKit Go.Maps Go.Proofs.HeapMath Go.Proofs.TailMath

variable {P : Nat → Prop}

def rf0 : Rf := ⟨none, 0, 0, none, 0, 0⟩
theorem rf0_in (W : World) (sp wait most : Nat) : RfIn P W (new sp wait most) rf0 := ⟨⟨[], rfl, fun h => absurd h (by simp), by simp [FarT, rf0]⟩, fun h => absurd h (by simp [new]), rfl, rfl, Nat.le_refl _, Nat.le_refl _, by simp [rf0]⟩
set_option linter.unusedSimpArgs false in
set_option maxRecDepth 100000 in
set_option maxHeartbeats 2000000 in
theorem refNew_any (sp wait most : Nat) (w : World) (h1 : 1 ≤ sp ∧ sp ≤ 5000) (h2 : 1 ≤ wait ∧ wait ≤ 1099511627776) (h3 : 1 ≤ most ∧ most ≤ 5000) :
    Calls Try.prog 16 #[.int .i64 (sp : Int), .int .i64 (wait : Int), .int .i64 (most : Int)] w fun e w' => e = .returned (.tuple #[rfV (new sp wait most) rf0, .bool true]) ∧ Hid (Below w.heap.size w w') := by
  have t1 : decide ((1 : Int) ≤ (sp : Int)) = true := by simp; omega
  have t2 : decide ((sp : Int) ≤ 5000) = true := by simp; omega
  have t3 : decide ((1 : Int) ≤ (wait : Int)) = true := by simp; omega
  have t4 : decide ((wait : Int) ≤ 1099511627776) = true := by simp; omega
  have t5 : decide ((1 : Int) ≤ (most : Int)) = true := by simp; omega
  have t6 : decide ((most : Int) ≤ 5000) = true := by simp; omega
  have t1n : decide (1 ≤ sp) = true := by simp; omega
  have t2n : decide (sp ≤ 5000) = true := by simp; omega
  have t3n : decide (1 ≤ wait) = true := by simp; omega
  have t4n : decide (wait ≤ 1099511627776) = true := by simp; omega
  have t5n : decide (1 ≤ most) = true := by simp; omega
  have t6n : decide (most ≤ 5000) = true := by simp; omega
  clear h1 h2 h3
  obtain ⟨nr, hnr⟩ : ∃ x, w.heap.size = x := ⟨_, rfl⟩
  have hbk := hnr ▸ blk_new w #[.int .i64 (sp : Int), .int .i64 (wait : Int), .int .i64 (most : Int), .int .i64 0, .int .i64 0, .slice none 0 0, .slice none 0 0] 50
  have hbl : Below nr w (w.alloc (.cells #[.int .i64 (sp : Int), .int .i64 (wait : Int), .int .i64 (most : Int), .int .i64 0, .int .i64 0, .slice none 0 0, .slice none 0 0] 50)) := hnr ▸ box_below _
  have HBK := Lib.hid hbk
  have HBL := Lib.hid hbl
  have e : rfV (new sp wait most) rf0 = .agg #[.int .i64 (sp : Int), .int .i64 (wait : Int), .int .i64 (most : Int), .int .i64 0, .int .i64 0, .slice none 0 0, .slice none 0 0] := rfl
  rw [e, hnr]
  clear hbk hbl e
  go_enter Try.func16, Try.ntmps16
  go_wp2_with fail
  have q0 := HBK.out.cell 0 rfl
  have q1 := HBK.out.cell 1 rfl
  have q2 := HBK.out.cell 2 rfl
  have q3 := HBK.out.cell 3 rfl
  have q4 := HBK.out.cell 4 rfl
  have q5 := HBK.out.cell 5 rfl
  have q6 := HBK.out.cell 6 rfl
  exact bodyPost_ret (v := .tuple #[.agg #[.int .i64 (sp : Int), .int .i64 (wait : Int), .int .i64 (most : Int), .int .i64 0, .int .i64 0, .slice none 0 0, .slice none 0 0], .bool true]) (by simp [results, Try.results16, go_sem, q0, q1, q2, q3, q4, q5, q6]) rfl ⟨rfl, HBL⟩
end Go.Proofs.Ythpcnnkdpgjiiaa
