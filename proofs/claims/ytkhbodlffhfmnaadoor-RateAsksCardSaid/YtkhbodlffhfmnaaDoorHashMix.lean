/-
  What hash's Mix and Back do, whatever the number: the stirring and its way back; nothing that lay has turned.
-/
import Derived.WalkKit
import Derived.WalkSpells
import Derived.WalkLawsBesides
import Derived.Laws.BitsAllLaws
import Derived.Laws.Bits64
import Derived.Test.YtkhbodlffhfmnaaDoorHashMath
import Derived.Test.YtkhbodlffhfmnaaDoorHashLaid
namespace Go.Proofs.YtkhbodlffhfmnaaDoor
open Go.RowKit Go.Proofs.HashMath

theorem xor_part {d x : Nat} (hx : x < 18446744073709551616) : ∃ y : Nat, bits .xor .u64 (x : Int) ((x : Int) / 2 ^ d) = (y : Int) ∧ y = stir d x ∧ y < 18446744073709551616 := by
  refine ⟨stir d x, ?_, rfl, stir_lt d hx⟩
  have := xorShift_u64 x (2 ^ d) hx
  rw [show ((2 ^ d : Nat) : Int) = 2 ^ d by simp] at this
  exact this
theorem xor_two {a b : Nat} (ha : a < 18446744073709551616) (hb : b < 18446744073709551616) : ∃ y : Nat, bits .xor .u64 (a : Int) (b : Int) = (y : Int) ∧ y = a ^^^ b ∧ y < 18446744073709551616 :=
  ⟨_, u64_xor_nat a b ha hb, rfl, xor64 ha hb⟩
theorem mul_name (f y : Nat) : ∃ z : Nat, IntKind.u64.wrap ((y : Int) * (f : Int)) = (z : Int) ∧ z = times f y ∧ z < 18446744073709551616 :=
  ⟨times f y, by rw [IntKind.wrap_u64]; unfold times; omega, rfl, times_lt _ _⟩
theorem box_below {W : World} (o : Obj) : Below W.heap.size W (W.alloc o) := (Below.refl _ W).alloc (Nat.le_refl _) o

set_option maxRecDepth 100000 in
set_option maxHeartbeats 1000000 in
theorem forth_any (d f u x : Nat) (w : World) (hd : d ≤ 63) (hx : x < 18446744073709551616) :
    Calls Tryd.prog 60 #[.agg #[.int .u64 (d : Int), .int .u64 (f : Int), .int .u64 (u : Int)], .int .u64 (x : Int)] w fun e w' => e = .returned (.int .u64 (times f (stir d x) : Int)) ∧ Below w.heap.size w w' := by
  obtain ⟨y, hy, hy', hyl⟩ := xor_part (d := d) hx
  obtain ⟨z, hz, hz', hzl⟩ := mul_name f y
  rw [← hy', ← hz']
  clear hy' hz'
  go_enter Tryd.func60, Tryd.ntmps60
  go_wp2
  go_ret
  exact ⟨rfl, box_below _⟩

theorem times_1 {x : Nat} (hx : x < 18446744073709551616) : times 1 x = x := by unfold times; rw [Nat.mul_one, Nat.mod_eq_of_lt hx]

theorem idx0 (W : World) : (Instr.index 104 (.agg #[.int .u64 30, .int .u64 13787848793156543929, .int .u64 10871156337175269513, .int .u64 27, .int .u64 10723151780598845931, .int .u64 3573116690164977347, .int .u64 31, .int .u64 1, .int .u64 1]) (.int .i64 0)).run Tryd.prog W = .ok (.agg #[.int .u64 30, .int .u64 13787848793156543929, .int .u64 10871156337175269513]) W := by kernel_rfl
theorem idx1 (W : World) : (Instr.index 104 (.agg #[.int .u64 30, .int .u64 13787848793156543929, .int .u64 10871156337175269513, .int .u64 27, .int .u64 10723151780598845931, .int .u64 3573116690164977347, .int .u64 31, .int .u64 1, .int .u64 1]) (.int .i64 1)).run Tryd.prog W = .ok (.agg #[.int .u64 27, .int .u64 10723151780598845931, .int .u64 3573116690164977347]) W := by kernel_rfl
theorem idx2 (W : World) : (Instr.index 104 (.agg #[.int .u64 30, .int .u64 13787848793156543929, .int .u64 10871156337175269513, .int .u64 27, .int .u64 10723151780598845931, .int .u64 3573116690164977347, .int .u64 31, .int .u64 1, .int .u64 1]) (.int .i64 2)).run Tryd.prog W = .ok (.agg #[.int .u64 31, .int .u64 1, .int .u64 1]) W := by kernel_rfl

set_option maxRecDepth 100000 in
set_option maxHeartbeats 1000000 in
theorem mix_any (x : Nat) (w : World) (hS : Steps w) (hx : x < 18446744073709551616) :
    Calls Tryd.prog 58 #[.int .u64 (x : Int)] w fun e w' => e = .returned (.int .u64 (mix x : Int)) ∧ Below w.heap.size w w' := by
  obtain ⟨c0, c1, c2, c3, c4, c5, c6, c7, c8⟩ := hS.cells
  obtain ⟨a, ha, hal⟩ : ∃ a, times 13787848793156543929 (stir 30 x) = a ∧ a < 18446744073709551616 := ⟨_, rfl, times_lt _ _⟩
  obtain ⟨b, hb, hbl⟩ : ∃ b, times 10723151780598845931 (stir 27 a) = b ∧ b < 18446744073709551616 := ⟨_, rfl, times_lt _ _⟩
  have hr : mix x = times 1 (stir 31 b) := by
    rw [times_1 (stir_lt _ hbl), ← hb, ← ha]; rfl
  rw [hr]
  have p0 : ∀ W, Calls Tryd.prog 60 #[.agg #[.int .u64 30, .int .u64 13787848793156543929, .int .u64 10871156337175269513], .int .u64 (x : Int)] W fun e w' => e = .returned (.int .u64 ((times 13787848793156543929 (stir 30 x) : Nat) : Int)) ∧ Below W.heap.size W w' := fun W => forth_any 30 13787848793156543929 10871156337175269513 x W (by omega) hx
  have p1 : ∀ W, Calls Tryd.prog 60 #[.agg #[.int .u64 27, .int .u64 10723151780598845931, .int .u64 3573116690164977347], .int .u64 (a : Int)] W fun e w' => e = .returned (.int .u64 ((times 10723151780598845931 (stir 27 a) : Nat) : Int)) ∧ Below W.heap.size W w' := fun W => forth_any 27 10723151780598845931 3573116690164977347 a W (by omega) hal
  have p2 : ∀ W, Calls Tryd.prog 60 #[.agg #[.int .u64 31, .int .u64 1, .int .u64 1], .int .u64 (b : Int)] W fun e w' => e = .returned (.int .u64 ((times 1 (stir 31 b) : Nat) : Int)) ∧ Below W.heap.size W w' := fun W => forth_any 31 1 1 b W (by omega) hbl
  rw [ha] at p0
  rw [hb] at p1
  obtain ⟨r, hr'⟩ : ∃ r, times 1 (stir 31 b) = r := ⟨_, rfl⟩
  rw [hr'] at p2 ⊢
  have P0 := Lib.hid p0
  have P1 := Lib.hid p1
  have P2 := Lib.hid p2
  clear hr ha hb hr' p0 p1 p2
  go_enter Tryd.func58, Tryd.ntmps58
  go_wp2
  go_loopw [0, 6] (fun xv kv wr => ∃ k q : Nat, kv = .int .i64 (k : Int) ∧ xv = .int .u64 (q : Int) ∧ (k = 0 ∧ q = x ∨ k = 1 ∧ q = a ∨ k = 2 ∧ q = b ∨ k = 3 ∧ q = r) ∧ Below w.heap.size w wr) (fun _ kv _ => 3 - (intOf kv).toNat)
  case atStart => exact ⟨0, x, rfl, rfl, .inl ⟨rfl, rfl⟩, Below.refl _ _⟩
  case round =>
    obtain ⟨k, q, rfl, rfl, hkq, hb⟩ := hrel
    rcases hkq with ⟨rfl, rfl⟩ | ⟨rfl, rfl⟩ | ⟨rfl, rfl⟩ | ⟨rfl, rfl⟩
    · have i0 := idx0 wr
      go_wp2_with fail
      refine (P0.out _).mono ?_
      rintro e w' ⟨rfl, h1⟩
      go_wp2_with fail
      go_roundw
      case rel => exact ⟨1, a, rfl, rfl, .inr (.inl ⟨rfl, rfl⟩), hb.trans ((box_below _).trans (h1.mono (by simp)) |>.mono hb.size)⟩
      case measure => simp [intOf]
    · have i1 := idx1 wr
      go_wp2_with fail
      refine (P1.out _).mono ?_
      rintro e w' ⟨rfl, h1⟩
      go_wp2_with fail
      go_roundw
      case rel => exact ⟨2, b, rfl, rfl, .inr (.inr (.inl ⟨rfl, rfl⟩)), hb.trans ((box_below _).trans (h1.mono (by simp)) |>.mono hb.size)⟩
      case measure => simp [intOf]
    · have i2 := idx2 wr
      go_wp2_with fail
      refine (P2.out _).mono ?_
      rintro e w' ⟨rfl, h1⟩
      go_wp2_with fail
      go_roundw
      case rel => exact ⟨3, r, rfl, rfl, .inr (.inr (.inr ⟨rfl, rfl⟩)), hb.trans ((box_below _).trans (h1.mono (by simp)) |>.mono hb.size)⟩
      case measure => simp [intOf]
    · go_wp2
      go_ret
      exact ⟨rfl, hb⟩
end Go.Proofs.YtkhbodlffhfmnaaDoor
