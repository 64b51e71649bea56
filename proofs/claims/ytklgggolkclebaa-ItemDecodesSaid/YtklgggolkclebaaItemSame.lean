/-
  What telemeterref03.SameSpan and Same say of items that hold the same. No condition.
-/
import Derived.Test.YtklgggolkclebaaItemRightOf
import Derived.Deep.QuietTactic
import Derived.BigQuiet
namespace Go.Proofs.Ytklgggolkclebaa
open Go.RowKit Go.Proofs.NumMath Go.Proofs.ItemMath


set_option linter.unusedSimpArgs false in
set_option linter.unusedVariables false in
set_option maxRecDepth 100000 in
set_option maxHeartbeats 4000000 in
theorem sameSpan_any (hi lo id par rv n cA cB : Nat) (name : ByteArray) (start stop : Int) (bad : Bool) (A B : Option Addr) (l : List Attr) (W : World) (hn : l.length = n) (hn8 : n ≤ 1000) (hA : HoldsA W.heap.size W A l) (hB : HoldsA W.heap.size W B l) :
    Calls Try.prog 41 #[.agg #[.int .u64 (hi : Int), .int .u64 (lo : Int), .int .u64 (id : Int), .int .u64 (par : Int), .string name, .int .i64 start, .int .i64 stop, .bool bad, .slice A n cA, .int .u64 (rv : Int)], .agg #[.int .u64 (hi : Int), .int .u64 (lo : Int), .int .u64 (id : Int), .int .u64 (par : Int), .string name, .int .i64 start, .int .i64 stop, .bool bad, .slice B n cB, .int .u64 (rv : Int)]] W fun e W' => e = .returned (.bool true) ∧ Below W.heap.size W W' := by
  obtain ⟨X, hX⟩ : ∃ X, (W.alloc (.cells #[.int .u64 (hi : Int), .int .u64 (lo : Int), .int .u64 (id : Int), .int .u64 (par : Int), .string name, .int .i64 start, .int .i64 stop, .bool bad, .slice A n cA, .int .u64 (rv : Int)] 26)).alloc (.cells #[.int .u64 (hi : Int), .int .u64 (lo : Int), .int .u64 (id : Int), .int .u64 (par : Int), .string name, .int .i64 start, .int .i64 stop, .bool bad, .slice B n cB, .int .u64 (rv : Int)] 26) = X := ⟨_, rfl⟩
  have hbX : Below W.heap.size W X := by rw [← hX]; exact ((Below.refl _ W).alloc (Nat.le_refl _) _).alloc (by simp) _
  have x0 : X.cell? ⟨W.heap.size, 0, none⟩ = some (.int .u64 (hi : Int)) := by rw [← hX, World.cell?_of_block (Below.heap_alloc _ _ _ (by simp))]; exact World.cell?_alloc_mark _ _ _ _ _
  have y0 : X.cell? ⟨W.heap.size + 1, 0, none⟩ = some (.int .u64 (hi : Int)) := by rw [← hX]; have h := World.cell?_alloc_mark (W.alloc (.cells #[.int .u64 (hi : Int), .int .u64 (lo : Int), .int .u64 (id : Int), .int .u64 (par : Int), .string name, .int .i64 start, .int .i64 stop, .bool bad, .slice A n cA, .int .u64 (rv : Int)] 26)) #[.int .u64 (hi : Int), .int .u64 (lo : Int), .int .u64 (id : Int), .int .u64 (par : Int), .string name, .int .i64 start, .int .i64 stop, .bool bad, .slice B n cB, .int .u64 (rv : Int)] 26 (0, 0) 0; rw [World.size_alloc] at h; exact h
  have x1 : X.cell? ⟨W.heap.size, 1, none⟩ = some (.int .u64 (lo : Int)) := by rw [← hX, World.cell?_of_block (Below.heap_alloc _ _ _ (by simp))]; exact World.cell?_alloc_mark _ _ _ _ _
  have y1 : X.cell? ⟨W.heap.size + 1, 1, none⟩ = some (.int .u64 (lo : Int)) := by rw [← hX]; have h := World.cell?_alloc_mark (W.alloc (.cells #[.int .u64 (hi : Int), .int .u64 (lo : Int), .int .u64 (id : Int), .int .u64 (par : Int), .string name, .int .i64 start, .int .i64 stop, .bool bad, .slice A n cA, .int .u64 (rv : Int)] 26)) #[.int .u64 (hi : Int), .int .u64 (lo : Int), .int .u64 (id : Int), .int .u64 (par : Int), .string name, .int .i64 start, .int .i64 stop, .bool bad, .slice B n cB, .int .u64 (rv : Int)] 26 (0, 0) 1; rw [World.size_alloc] at h; exact h
  have x2 : X.cell? ⟨W.heap.size, 2, none⟩ = some (.int .u64 (id : Int)) := by rw [← hX, World.cell?_of_block (Below.heap_alloc _ _ _ (by simp))]; exact World.cell?_alloc_mark _ _ _ _ _
  have y2 : X.cell? ⟨W.heap.size + 1, 2, none⟩ = some (.int .u64 (id : Int)) := by rw [← hX]; have h := World.cell?_alloc_mark (W.alloc (.cells #[.int .u64 (hi : Int), .int .u64 (lo : Int), .int .u64 (id : Int), .int .u64 (par : Int), .string name, .int .i64 start, .int .i64 stop, .bool bad, .slice A n cA, .int .u64 (rv : Int)] 26)) #[.int .u64 (hi : Int), .int .u64 (lo : Int), .int .u64 (id : Int), .int .u64 (par : Int), .string name, .int .i64 start, .int .i64 stop, .bool bad, .slice B n cB, .int .u64 (rv : Int)] 26 (0, 0) 2; rw [World.size_alloc] at h; exact h
  have x3 : X.cell? ⟨W.heap.size, 3, none⟩ = some (.int .u64 (par : Int)) := by rw [← hX, World.cell?_of_block (Below.heap_alloc _ _ _ (by simp))]; exact World.cell?_alloc_mark _ _ _ _ _
  have y3 : X.cell? ⟨W.heap.size + 1, 3, none⟩ = some (.int .u64 (par : Int)) := by rw [← hX]; have h := World.cell?_alloc_mark (W.alloc (.cells #[.int .u64 (hi : Int), .int .u64 (lo : Int), .int .u64 (id : Int), .int .u64 (par : Int), .string name, .int .i64 start, .int .i64 stop, .bool bad, .slice A n cA, .int .u64 (rv : Int)] 26)) #[.int .u64 (hi : Int), .int .u64 (lo : Int), .int .u64 (id : Int), .int .u64 (par : Int), .string name, .int .i64 start, .int .i64 stop, .bool bad, .slice B n cB, .int .u64 (rv : Int)] 26 (0, 0) 3; rw [World.size_alloc] at h; exact h
  have x4 : X.cell? ⟨W.heap.size, 4, none⟩ = some (.string name) := by rw [← hX, World.cell?_of_block (Below.heap_alloc _ _ _ (by simp))]; exact World.cell?_alloc_mark _ _ _ _ _
  have y4 : X.cell? ⟨W.heap.size + 1, 4, none⟩ = some (.string name) := by rw [← hX]; have h := World.cell?_alloc_mark (W.alloc (.cells #[.int .u64 (hi : Int), .int .u64 (lo : Int), .int .u64 (id : Int), .int .u64 (par : Int), .string name, .int .i64 start, .int .i64 stop, .bool bad, .slice A n cA, .int .u64 (rv : Int)] 26)) #[.int .u64 (hi : Int), .int .u64 (lo : Int), .int .u64 (id : Int), .int .u64 (par : Int), .string name, .int .i64 start, .int .i64 stop, .bool bad, .slice B n cB, .int .u64 (rv : Int)] 26 (0, 0) 4; rw [World.size_alloc] at h; exact h
  have x5 : X.cell? ⟨W.heap.size, 5, none⟩ = some (.int .i64 start) := by rw [← hX, World.cell?_of_block (Below.heap_alloc _ _ _ (by simp))]; exact World.cell?_alloc_mark _ _ _ _ _
  have y5 : X.cell? ⟨W.heap.size + 1, 5, none⟩ = some (.int .i64 start) := by rw [← hX]; have h := World.cell?_alloc_mark (W.alloc (.cells #[.int .u64 (hi : Int), .int .u64 (lo : Int), .int .u64 (id : Int), .int .u64 (par : Int), .string name, .int .i64 start, .int .i64 stop, .bool bad, .slice A n cA, .int .u64 (rv : Int)] 26)) #[.int .u64 (hi : Int), .int .u64 (lo : Int), .int .u64 (id : Int), .int .u64 (par : Int), .string name, .int .i64 start, .int .i64 stop, .bool bad, .slice B n cB, .int .u64 (rv : Int)] 26 (0, 0) 5; rw [World.size_alloc] at h; exact h
  have x6 : X.cell? ⟨W.heap.size, 6, none⟩ = some (.int .i64 stop) := by rw [← hX, World.cell?_of_block (Below.heap_alloc _ _ _ (by simp))]; exact World.cell?_alloc_mark _ _ _ _ _
  have y6 : X.cell? ⟨W.heap.size + 1, 6, none⟩ = some (.int .i64 stop) := by rw [← hX]; have h := World.cell?_alloc_mark (W.alloc (.cells #[.int .u64 (hi : Int), .int .u64 (lo : Int), .int .u64 (id : Int), .int .u64 (par : Int), .string name, .int .i64 start, .int .i64 stop, .bool bad, .slice A n cA, .int .u64 (rv : Int)] 26)) #[.int .u64 (hi : Int), .int .u64 (lo : Int), .int .u64 (id : Int), .int .u64 (par : Int), .string name, .int .i64 start, .int .i64 stop, .bool bad, .slice B n cB, .int .u64 (rv : Int)] 26 (0, 0) 6; rw [World.size_alloc] at h; exact h
  have x7 : X.cell? ⟨W.heap.size, 7, none⟩ = some (.bool bad) := by rw [← hX, World.cell?_of_block (Below.heap_alloc _ _ _ (by simp))]; exact World.cell?_alloc_mark _ _ _ _ _
  have y7 : X.cell? ⟨W.heap.size + 1, 7, none⟩ = some (.bool bad) := by rw [← hX]; have h := World.cell?_alloc_mark (W.alloc (.cells #[.int .u64 (hi : Int), .int .u64 (lo : Int), .int .u64 (id : Int), .int .u64 (par : Int), .string name, .int .i64 start, .int .i64 stop, .bool bad, .slice A n cA, .int .u64 (rv : Int)] 26)) #[.int .u64 (hi : Int), .int .u64 (lo : Int), .int .u64 (id : Int), .int .u64 (par : Int), .string name, .int .i64 start, .int .i64 stop, .bool bad, .slice B n cB, .int .u64 (rv : Int)] 26 (0, 0) 7; rw [World.size_alloc] at h; exact h
  have x8 : X.cell? ⟨W.heap.size, 8, none⟩ = some (.slice A n cA) := by rw [← hX, World.cell?_of_block (Below.heap_alloc _ _ _ (by simp))]; exact World.cell?_alloc_mark _ _ _ _ _
  have y8 : X.cell? ⟨W.heap.size + 1, 8, none⟩ = some (.slice B n cB) := by rw [← hX]; have h := World.cell?_alloc_mark (W.alloc (.cells #[.int .u64 (hi : Int), .int .u64 (lo : Int), .int .u64 (id : Int), .int .u64 (par : Int), .string name, .int .i64 start, .int .i64 stop, .bool bad, .slice A n cA, .int .u64 (rv : Int)] 26)) #[.int .u64 (hi : Int), .int .u64 (lo : Int), .int .u64 (id : Int), .int .u64 (par : Int), .string name, .int .i64 start, .int .i64 stop, .bool bad, .slice B n cB, .int .u64 (rv : Int)] 26 (0, 0) 8; rw [World.size_alloc] at h; exact h
  have x9 : X.cell? ⟨W.heap.size, 9, none⟩ = some (.int .u64 (rv : Int)) := by rw [← hX, World.cell?_of_block (Below.heap_alloc _ _ _ (by simp))]; exact World.cell?_alloc_mark _ _ _ _ _
  have y9 : X.cell? ⟨W.heap.size + 1, 9, none⟩ = some (.int .u64 (rv : Int)) := by rw [← hX]; have h := World.cell?_alloc_mark (W.alloc (.cells #[.int .u64 (hi : Int), .int .u64 (lo : Int), .int .u64 (id : Int), .int .u64 (par : Int), .string name, .int .i64 start, .int .i64 stop, .bool bad, .slice A n cA, .int .u64 (rv : Int)] 26)) #[.int .u64 (hi : Int), .int .u64 (lo : Int), .int .u64 (id : Int), .int .u64 (par : Int), .string name, .int .i64 start, .int .i64 stop, .bool bad, .slice B n cB, .int .u64 (rv : Int)] 26 (0, 0) 9; rw [World.size_alloc] at h; exact h
  have HA := Lib.hid (hA.later hbX)
  have HB := Lib.hid (hB.later hbX)
  have HN := Lib.hid hn
  clear hA hB hn
  go_enter Try.func41, Try.ntmps41
  go_wp2
  go_loopw [5] (fun iv wr => ∃ k : Nat, k ≤ n ∧ iv = .int .i64 (k : Int) ∧ Below X.heap.size X wr) (fun iv _ => n - (intOf iv).toNat)
  case atStart => exact ⟨0, by omega, rfl, Below.refl _ _⟩
  case round =>
    obtain ⟨k, hk, rfl, hB1⟩ := hrel
    have lx : W.heap.size < X.heap.size := by have := hbX.size; rw [← hX]; simp; omega
    have ly : W.heap.size + 1 < X.heap.size := by rw [← hX]; simp
    have x0' := (hB1.cell (p := ⟨W.heap.size, 0, none⟩) lx).trans x0
    have y0' := (hB1.cell (p := ⟨W.heap.size + 1, 0, none⟩) ly).trans y0
    have x1' := (hB1.cell (p := ⟨W.heap.size, 1, none⟩) lx).trans x1
    have y1' := (hB1.cell (p := ⟨W.heap.size + 1, 1, none⟩) ly).trans y1
    have x2' := (hB1.cell (p := ⟨W.heap.size, 2, none⟩) lx).trans x2
    have y2' := (hB1.cell (p := ⟨W.heap.size + 1, 2, none⟩) ly).trans y2
    have x3' := (hB1.cell (p := ⟨W.heap.size, 3, none⟩) lx).trans x3
    have y3' := (hB1.cell (p := ⟨W.heap.size + 1, 3, none⟩) ly).trans y3
    have x4' := (hB1.cell (p := ⟨W.heap.size, 4, none⟩) lx).trans x4
    have y4' := (hB1.cell (p := ⟨W.heap.size + 1, 4, none⟩) ly).trans y4
    have x5' := (hB1.cell (p := ⟨W.heap.size, 5, none⟩) lx).trans x5
    have y5' := (hB1.cell (p := ⟨W.heap.size + 1, 5, none⟩) ly).trans y5
    have x6' := (hB1.cell (p := ⟨W.heap.size, 6, none⟩) lx).trans x6
    have y6' := (hB1.cell (p := ⟨W.heap.size + 1, 6, none⟩) ly).trans y6
    have x7' := (hB1.cell (p := ⟨W.heap.size, 7, none⟩) lx).trans x7
    have y7' := (hB1.cell (p := ⟨W.heap.size + 1, 7, none⟩) ly).trans y7
    have x8' := (hB1.cell (p := ⟨W.heap.size, 8, none⟩) lx).trans x8
    have y8' := (hB1.cell (p := ⟨W.heap.size + 1, 8, none⟩) ly).trans y8
    have x9' := (hB1.cell (p := ⟨W.heap.size, 9, none⟩) lx).trans x9
    have y9' := (hB1.cell (p := ⟨W.heap.size + 1, 9, none⟩) ly).trans y9
    clear x0 y0 x1 y1 x2 y2 x3 y3 x4 y4 x5 y5 x6 y6 x7 y7 x8 y8 x9 y9
    have HB1 := Lib.hid hB1
    by_cases hlt : k < n
    · obtain ⟨ba, oa, hAa, hla, hca⟩ := (HA.out.below hB1) (by rw [HN.out]; omega)
      obtain ⟨bb, ob, hBb, hlb, hcb⟩ := (HB.out.below hB1) (by rw [HN.out]; omega)
      obtain ⟨a1, a2, _, _⟩ := hca k (by rw [HN.out]; exact hlt)
      obtain ⟨b1, b2, _, _⟩ := hcb k (by rw [HN.out]; exact hlt)
      generalize l.getD k (none8, none8) = p at a1 a2 b1 b2
      obtain ⟨key, val⟩ := p
      dsimp only at a1 a2 b1 b2
      subst hAa hBb
      clear hca hcb hX
      go_wp2_with fail
      go_quiet (fail)
      go_wp2_with fail
      go_roundw
      case rel => exact ⟨k + 1, by omega, by go_num, below_draws HB1.out nq⟩
      case measure => simp [intOf]; omega
    · obtain rfl : k = n := by omega
      clear hX
      go_wp2_with fail
      go_ret
      exact ⟨by simp, hbX.trans (HB1.out.mono hbX.size)⟩

set_option linter.unusedSimpArgs false in
set_option linter.unusedVariables false in
set_option maxRecDepth 100000 in
set_option maxHeartbeats 4000000 in
theorem same_any (kind hi lo id par rv n cA cB weight : Nat) (name key body : ByteArray) (start stop a : Int) (bad : Bool) (A B : Option Addr) (l : List Attr) (W : World) (hn : l.length = n) (hn8 : n ≤ 1000) (hA : HoldsA W.heap.size W A l) (hB : HoldsA W.heap.size W B l) :
    Calls Try.prog 21 #[.agg #[.int .u8 (kind : Int), .int .u64 (hi : Int), .int .u64 (lo : Int), .int .u64 (id : Int), .int .u64 (par : Int), .string name, .int .i64 start, .int .i64 stop, .bool bad, .slice A n cA, .int .u64 (rv : Int), .string key, .int .u64 (weight : Int), .int .i64 a, .string body], .agg #[.int .u8 (kind : Int), .int .u64 (hi : Int), .int .u64 (lo : Int), .int .u64 (id : Int), .int .u64 (par : Int), .string name, .int .i64 start, .int .i64 stop, .bool bad, .slice B n cB, .int .u64 (rv : Int), .string key, .int .u64 (weight : Int), .int .i64 a, .string body]] W fun e W' => e = .returned (.bool true) ∧ Below W.heap.size W W' := by
  have hS := fun (w : World) (h : Below W.heap.size W w) => sameSpan_any hi lo id par rv n cA cB name start stop bad A B l w hn hn8 (hA.later h) (hB.later h)
  have HS := Lib.hid hS
  clear hS hA hB hn
  have hbX : Below W.heap.size W ((W.alloc (.cells #[.int .u8 (kind : Int), .int .u64 (hi : Int), .int .u64 (lo : Int), .int .u64 (id : Int), .int .u64 (par : Int), .string name, .int .i64 start, .int .i64 stop, .bool bad, .slice A n cA, .int .u64 (rv : Int), .string key, .int .u64 (weight : Int), .int .i64 a, .string body] 38)).alloc (.cells #[.int .u8 (kind : Int), .int .u64 (hi : Int), .int .u64 (lo : Int), .int .u64 (id : Int), .int .u64 (par : Int), .string name, .int .i64 start, .int .i64 stop, .bool bad, .slice B n cB, .int .u64 (rv : Int), .string key, .int .u64 (weight : Int), .int .i64 a, .string body] 38)) := ((Below.refl _ W).alloc (Nat.le_refl _) _).alloc (by simp) _
  have HBX := Lib.hid hbX
  clear hbX
  go_enter Try.func21, Try.ntmps21
  go_wp2_with fail
  refine (HS.out _ HBX.out).mono ?_
  rintro e w1 ⟨rfl, hb1⟩
  go_wp2_with fail
  go_ret
  exact ⟨rfl, HBX.out.trans (hb1.mono HBX.out.size)⟩

end Go.Proofs.Ytklgggolkclebaa
