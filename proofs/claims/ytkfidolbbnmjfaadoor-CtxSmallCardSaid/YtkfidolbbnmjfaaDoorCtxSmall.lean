/-
  Proved: CtxSmall returns true for every place and sign: great digits are none; nor is another beginning. No condition.
-/
import Derived.Test.YtkfidolbbnmjfaaDoorCtxKnown
import Derived.Test.YtkfidolbbnmjfaaDoorCtxArg
import Derived.BigRegion
namespace Go.Proofs.YtkfidolbbnmjfaaDoor
open Go.ChangeShapes Go.WideShapes Go.ChangeAt Go.RowKit Go.Proofs.CtxState

def baseS : List UInt8 := [48, 48, 45, 48, 49, 50, 51, 52, 53, 54, 55, 56, 57, 97, 98, 99, 100, 101, 102, 48, 49, 50, 51, 52, 53, 54, 55, 56, 57, 97, 98, 99, 100, 101, 102, 45, 48, 49, 50, 51, 52, 53, 54, 55, 56, 57, 97, 98, 99, 100, 101, 102, 45, 48, 49]
def greatS : List UInt8 := [65, 66, 67, 68, 69, 70, 103, 71]
def bendS (i : Nat) (x : UInt8) : List UInt8 := baseS.take i ++ [x] ++ baseS.drop (i + 1)
theorem bend_len (i : Nat) (x : UInt8) : (bendS i x).length ≤ 111 := by
  have : baseS.length = 55 := rfl
  unfold bendS
  simp only [List.length_append, List.length_take, List.length_drop, List.length_singleton]
  omega
theorem small_base : parseOf baseS = (81985529216486895, 81985529216486895, 81985529216486895, 1, 0) := by decide +kernel
theorem small_bend : ∀ (x : Fin 32) (y : Fin 8), parseOf (bendS (3 + x.val) (greatS.getD y.val 0)) = (0, 0, 0, 0, 31) := by decide +kernel
theorem small_01 : parseOf ([48, 49] ++ baseS.drop 2) = (0, 0, 0, 0, 31) := by decide +kernel
theorem small_0 : parseOf (baseS ++ [48]) = (0, 0, 0, 0, 31) := by decide +kernel

theorem conv_one (W : World) (g : Nat) (c : UInt8) (h : W.cell? ⟨g, 0, none⟩ = some (.int .u8 (c.toNat : Int))) :
    (convert 23 9 (.slice (some ⟨g, 0, none⟩) 1 1)).run Tryd.prog W = .ok (.string ⟨#[c]⟩) W := by
  refine run_convert_bytes_back W 23 9 5 ⟨g, 0, none⟩ 1 [c] Tryd.underlying23 Tryd.underlying5 Tryd.underlying9 (fun j hj => ?_)
  obtain rfl : j = 0 := by simpa using hj
  exact h
set_option maxRecDepth 100000 in
set_option maxHeartbeats 4000000 in
theorem small_walk (k v : Nat) (hk : k < 256) (hv : v < 256) (w : World) (hS : Shape w) :
    Calls Tryd.prog 4 #[.int .u8 (k : Int), .int .u8 (v : Int)] w fun e w' => e = .returned (.bool true) ∧ Below w.heap.size w w' := by
  obtain ⟨x, hx, hx32⟩ : ∃ x : Nat, (k : Int) % 32 = (x : Int) ∧ x < 32 := ⟨k % 32, by omega, by omega⟩
  obtain ⟨y, hy, hy8⟩ : ∃ y : Nat, (v : Int) % 8 = (y : Int) ∧ y < 8 := ⟨v % 8, by omega, by omega⟩
  obtain ⟨i, hi, hi'⟩ : ∃ i : Nat, (3 : Int) + (x : Int) = (i : Int) ∧ i = 3 + x := ⟨3 + x, by omega, rfl⟩
  obtain ⟨j, hj, hj'⟩ : ∃ j : Nat, (i : Int) + 1 = (j : Int) ∧ j = i + 1 := ⟨i + 1, by omega, rfl⟩
  have hi35 : i < 35 := by omega
  have hj55 : j ≤ 55 := by omega
  have hwi : wrap64 (i : Int) = (i : Int) := by unfold wrap64; omega
  have hwj : wrap64 (j : Int) = (j : Int) := by unfold wrap64; omega
  have e1 : (i : Int) ≤ 55 := by omega
  have e2 : (j : Int) ≤ 55 := by omega
  have e3 : (y : Int) < 8 := by omega
  have HI := Lib.hid hi'
  have HJ := Lib.hid hj'
  -- the texts
  obtain ⟨x1, hx1⟩ : ∃ x1, (⟨#[48, 48, 45, 48, 49, 50, 51, 52, 53, 54, 55, 56, 57, 97, 98, 99, 100, 101, 102, 48, 49, 50, 51, 52, 53, 54, 55, 56, 57, 97, 98, 99, 100, 101, 102, 45, 48, 49, 50, 51, 52, 53, 54, 55, 56, 57, 97, 98, 99, 100, 101, 102, 45, 48, 49]⟩ : ByteArray).extract 0 i = x1 := ⟨_, rfl⟩
  obtain ⟨x3, hx3⟩ : ∃ x3, (⟨#[48, 48, 45, 48, 49, 50, 51, 52, 53, 54, 55, 56, 57, 97, 98, 99, 100, 101, 102, 48, 49, 50, 51, 52, 53, 54, 55, 56, 57, 97, 98, 99, 100, 101, 102, 45, 48, 49, 50, 51, 52, 53, 54, 55, 56, 57, 97, 98, 99, 100, 101, 102, 45, 48, 49]⟩ : ByteArray).extract j 55 = x3 := ⟨_, rfl⟩
  obtain ⟨x5, hx5⟩ : ∃ x5, (⟨#[48, 48, 45, 48, 49, 50, 51, 52, 53, 54, 55, 56, 57, 97, 98, 99, 100, 101, 102, 48, 49, 50, 51, 52, 53, 54, 55, 56, 57, 97, 98, 99, 100, 101, 102, 45, 48, 49, 50, 51, 52, 53, 54, 55, 56, 57, 97, 98, 99, 100, 101, 102, 45, 48, 49]⟩ : ByteArray).extract 2 55 = x5 := ⟨_, rfl⟩
  obtain ⟨x6, hx6⟩ : ∃ x6, (⟨#[48, 49]⟩ : ByteArray) ++ x5 = x6 := ⟨_, rfl⟩
  obtain ⟨x7, hx7⟩ : ∃ x7, (⟨#[48, 48, 45, 48, 49, 50, 51, 52, 53, 54, 55, 56, 57, 97, 98, 99, 100, 101, 102, 48, 49, 50, 51, 52, 53, 54, 55, 56, 57, 97, 98, 99, 100, 101, 102, 45, 48, 49, 50, 51, 52, 53, 54, 55, 56, 57, 97, 98, 99, 100, 101, 102, 45, 48, 49]⟩ : ByteArray) ++ ⟨#[48]⟩ = x7 := ⟨_, rfl⟩
  have ex1 : x1 = bs (baseS.take i) := by rw [← hx1]; exact take_bs (⟨#[48, 48, 45, 48, 49, 50, 51, 52, 53, 54, 55, 56, 57, 97, 98, 99, 100, 101, 102, 48, 49, 50, 51, 52, 53, 54, 55, 56, 57, 97, 98, 99, 100, 101, 102, 45, 48, 49, 50, 51, 52, 53, 54, 55, 56, 57, 97, 98, 99, 100, 101, 102, 45, 48, 49]⟩ : ByteArray) i
  have ex3 : x3 = bs (baseS.drop (i + 1)) := by rw [← hx3, hj']; exact drop_bs (⟨#[48, 48, 45, 48, 49, 50, 51, 52, 53, 54, 55, 56, 57, 97, 98, 99, 100, 101, 102, 48, 49, 50, 51, 52, 53, 54, 55, 56, 57, 97, 98, 99, 100, 101, 102, 45, 48, 49, 50, 51, 52, 53, 54, 55, 56, 57, 97, 98, 99, 100, 101, 102, 45, 48, 49]⟩ : ByteArray) (i + 1)
  have ex5 : x5 = bs (baseS.drop 2) := by rw [← hx5]; exact drop_bs (⟨#[48, 48, 45, 48, 49, 50, 51, 52, 53, 54, 55, 56, 57, 97, 98, 99, 100, 101, 102, 48, 49, 50, 51, 52, 53, 54, 55, 56, 57, 97, 98, 99, 100, 101, 102, 45, 48, 49, 50, 51, 52, 53, 54, 55, 56, 57, 97, 98, 99, 100, 101, 102, 45, 48, 49]⟩ : ByteArray) 2
  have ex6 : x6 = bs ([48, 49] ++ baseS.drop 2) := by rw [← hx6, ex5, ← addStr]; rfl
  have ex7 : x7 = bs (baseS ++ [48]) := by rw [← hx7, ← addStr]; rfl
  have hbl : baseS.length = 55 := rfl
  have q1 : x1.size ≤ 55 := by rw [ex1, size_bs, List.length_take]; omega
  have q3 : x3.size ≤ 55 := by rw [ex3, size_bs, List.length_drop]; omega
  have q5 : x5.size ≤ 55 := by rw [ex5, size_bs, List.length_drop]; omega
  have g1 : ¬ 9223372036854775807 < x1.size + 1 := by omega
  have g5 : ¬ 9223372036854775807 < 2 + x5.size := by omega
  have P1 := Lib.hid (fun W (hS : Shape W) => parse_any ⟨#[48, 48, 45, 48, 49, 50, 51, 52, 53, 54, 55, 56, 57, 97, 98, 99, 100, 101, 102, 48, 49, 50, 51, 52, 53, 54, 55, 56, 57, 97, 98, 99, 100, 101, 102, 45, 48, 49, 50, 51, 52, 53, 54, 55, 56, 57, 97, 98, 99, 100, 101, 102, 45, 48, 49]⟩ W hS (by decide))
  have P3 := Lib.hid (fun W (hS : Shape W) => parse_any x6 W hS (by rw [ex6, size_bs]; decide))
  have P4 := Lib.hid (fun W (hS : Shape W) => parse_any x7 W hS (by rw [ex7, size_bs]; decide))
  rw [show (⟨#[48, 48, 45, 48, 49, 50, 51, 52, 53, 54, 55, 56, 57, 97, 98, 99, 100, 101, 102, 48, 49, 50, 51, 52, 53, 54, 55, 56, 57, 97, 98, 99, 100, 101, 102, 45, 48, 49, 50, 51, 52, 53, 54, 55, 56, 57, 97, 98, 99, 100, 101, 102, 45, 48, 49]⟩ : ByteArray).data.toList = baseS from rfl, small_base] at P1
  rw [ex6, list_bs, small_01, ← ex6] at P3
  rw [ex7, list_bs, small_0, ← ex7] at P4
  dsimp only [parentV] at P1 P3 P4
  have HS := Lib.hid hS
  have EX1 := Lib.hid ex1
  have EX3 := Lib.hid ex3
  clear hS hi' hj' ex1 ex3 ex5 ex6 ex7 hbl q5
  go_enter Tryd.func4, Tryd.ntmps4
  go_wp2_with fail
  rcases (by omega : y = 0 ∨ y = 1 ∨ y = 2 ∨ y = 3 ∨ y = 4 ∨ y = 5 ∨ y = 6 ∨ y = 7) with rfl | rfl | rfl | rfl | rfl | rfl | rfl | rfl
  · have hg : (⟨#[65, 66, 67, 68, 69, 70, 103, 71]⟩ : ByteArray)[0]'(by decide) = (65 : UInt8) := rfl
    have hcv := conv_one (w.alloc (.cells #[.int .u8 65] 5)).drew w.heap.size 65 (by have := (blk_new w #[.int .u8 65] 5).cell 0 rfl; exact this)
    obtain ⟨x2, hx2⟩ : ∃ x2, x1 ++ (⟨#[65]⟩ : ByteArray) = x2 := ⟨_, rfl⟩
    obtain ⟨x4, hx4⟩ : ∃ x4, x2 ++ x3 = x4 := ⟨_, rfl⟩
    have ex2 : x2 = bs (baseS.take i ++ [65]) := by rw [← hx2, EX1.out, ← addStr]; rfl
    have ex4 : x4 = bs (bendS (3 + x) 65) := by rw [← hx4, ex2, EX3.out, addStr, HI.out]; rfl
    have g2 : ¬ 9223372036854775807 < x2.size + x3.size := by rw [ex2, size_bs, List.length_append, List.length_take]; simp only [List.length_singleton]; omega
    have P2 := Lib.hid (fun W (hS : Shape W) => parse_any x4 W hS (by rw [ex4, size_bs]; exact Nat.le_trans (bend_len _ _) (by decide)))
    have hp2 := small_bend ⟨x, hx32⟩ ⟨0, by decide⟩
    rw [ex4, list_bs, show bendS (3 + x) 65 = bendS (3 + (⟨x, hx32⟩ : Fin 32).val) (greatS.getD (⟨0, by decide⟩ : Fin 8).val 0) from rfl, hp2] at P2
    rw [show bs (bendS (3 + (⟨x, hx32⟩ : Fin 32).val) (greatS.getD (⟨0, by decide⟩ : Fin 8).val 0)) = x4 from ex4.symm] at P2
    dsimp only [parentV] at P2
    clear ex2 ex4 hp2 q1 q3
    go_region
    obtain ⟨w0, hw0⟩ : ∃ w0, (w.alloc (.cells #[.int .u8 65] 5)).drew = w0 := ⟨_, rfl⟩
    have hB0 : Below w.heap.size w w0 := by rw [← hw0]; exact ((Below.refl w.heap.size w).alloc (Nat.le_refl _) _).drew
    rw [hw0]
    clear hcv hg hw0
    have HB0 := Lib.hid hB0
    clear hB0
    go_wp2_with fail
    refine (P1.out _ (HS.out.later HB0.out)).mono ?_
    rintro e w1 ⟨rfl, hb1⟩
    have HB1 := Lib.hid ((HB0.out.trans (hb1.mono HB0.out.size)).alloc (HB0.out.trans (hb1.mono HB0.out.size)).size (.cells #[.int .u64 ((81985529216486895 : Nat) : Int), .int .u64 ((81985529216486895 : Nat) : Int), .int .u64 ((81985529216486895 : Nat) : Int), .int .u8 ((1 : Nat) : Int)] 33))
    clear hb1
    go_wp2_with fail
    refine (P2.out _ (HS.out.later HB1.out)).mono ?_
    rintro e w2 ⟨rfl, hb2⟩
    have HB2 := Lib.hid ((HB1.out.trans (hb2.mono HB1.out.size)).alloc (HB1.out.trans (hb2.mono HB1.out.size)).size (.cells #[.int .u64 ((0 : Nat) : Int), .int .u64 ((0 : Nat) : Int), .int .u64 ((0 : Nat) : Int), .int .u8 ((0 : Nat) : Int)] 33))
    clear hb2
    go_wp2_with fail
    refine (P3.out _ (HS.out.later HB2.out)).mono ?_
    rintro e w3 ⟨rfl, hb3⟩
    have HB3 := Lib.hid ((HB2.out.trans (hb3.mono HB2.out.size)).alloc (HB2.out.trans (hb3.mono HB2.out.size)).size (.cells #[.int .u64 ((0 : Nat) : Int), .int .u64 ((0 : Nat) : Int), .int .u64 ((0 : Nat) : Int), .int .u8 ((0 : Nat) : Int)] 33))
    clear hb3
    go_wp2_with fail
    refine (P4.out _ (HS.out.later HB3.out)).mono ?_
    rintro e w4 ⟨rfl, hb4⟩
    have HB4 := Lib.hid ((HB3.out.trans (hb4.mono HB3.out.size)).alloc (HB3.out.trans (hb4.mono HB3.out.size)).size (.cells #[.int .u64 ((0 : Nat) : Int), .int .u64 ((0 : Nat) : Int), .int .u64 ((0 : Nat) : Int), .int .u8 ((0 : Nat) : Int)] 33))
    clear hb4
    go_wp2_with fail
    refine (known_any _ (HS.out.later HB4.out)).mono ?_
    rintro e w5 ⟨rfl, hb5⟩
    have HB5 := Lib.hid (HB4.out.trans (hb5.mono HB4.out.size))
    clear hb5
    go_wp2_with fail
    go_ret
    exact ⟨rfl, HB5.out⟩
  · have hg : (⟨#[65, 66, 67, 68, 69, 70, 103, 71]⟩ : ByteArray)[1]'(by decide) = (66 : UInt8) := rfl
    have hcv := conv_one (w.alloc (.cells #[.int .u8 66] 5)).drew w.heap.size 66 (by have := (blk_new w #[.int .u8 66] 5).cell 0 rfl; exact this)
    obtain ⟨x2, hx2⟩ : ∃ x2, x1 ++ (⟨#[66]⟩ : ByteArray) = x2 := ⟨_, rfl⟩
    obtain ⟨x4, hx4⟩ : ∃ x4, x2 ++ x3 = x4 := ⟨_, rfl⟩
    have ex2 : x2 = bs (baseS.take i ++ [66]) := by rw [← hx2, EX1.out, ← addStr]; rfl
    have ex4 : x4 = bs (bendS (3 + x) 66) := by rw [← hx4, ex2, EX3.out, addStr, HI.out]; rfl
    have g2 : ¬ 9223372036854775807 < x2.size + x3.size := by rw [ex2, size_bs, List.length_append, List.length_take]; simp only [List.length_singleton]; omega
    have P2 := Lib.hid (fun W (hS : Shape W) => parse_any x4 W hS (by rw [ex4, size_bs]; exact Nat.le_trans (bend_len _ _) (by decide)))
    have hp2 := small_bend ⟨x, hx32⟩ ⟨1, by decide⟩
    rw [ex4, list_bs, show bendS (3 + x) 66 = bendS (3 + (⟨x, hx32⟩ : Fin 32).val) (greatS.getD (⟨1, by decide⟩ : Fin 8).val 0) from rfl, hp2] at P2
    rw [show bs (bendS (3 + (⟨x, hx32⟩ : Fin 32).val) (greatS.getD (⟨1, by decide⟩ : Fin 8).val 0)) = x4 from ex4.symm] at P2
    dsimp only [parentV] at P2
    clear ex2 ex4 hp2 q1 q3
    go_region
    obtain ⟨w0, hw0⟩ : ∃ w0, (w.alloc (.cells #[.int .u8 66] 5)).drew = w0 := ⟨_, rfl⟩
    have hB0 : Below w.heap.size w w0 := by rw [← hw0]; exact ((Below.refl w.heap.size w).alloc (Nat.le_refl _) _).drew
    rw [hw0]
    clear hcv hg hw0
    have HB0 := Lib.hid hB0
    clear hB0
    go_wp2_with fail
    refine (P1.out _ (HS.out.later HB0.out)).mono ?_
    rintro e w1 ⟨rfl, hb1⟩
    have HB1 := Lib.hid ((HB0.out.trans (hb1.mono HB0.out.size)).alloc (HB0.out.trans (hb1.mono HB0.out.size)).size (.cells #[.int .u64 ((81985529216486895 : Nat) : Int), .int .u64 ((81985529216486895 : Nat) : Int), .int .u64 ((81985529216486895 : Nat) : Int), .int .u8 ((1 : Nat) : Int)] 33))
    clear hb1
    go_wp2_with fail
    refine (P2.out _ (HS.out.later HB1.out)).mono ?_
    rintro e w2 ⟨rfl, hb2⟩
    have HB2 := Lib.hid ((HB1.out.trans (hb2.mono HB1.out.size)).alloc (HB1.out.trans (hb2.mono HB1.out.size)).size (.cells #[.int .u64 ((0 : Nat) : Int), .int .u64 ((0 : Nat) : Int), .int .u64 ((0 : Nat) : Int), .int .u8 ((0 : Nat) : Int)] 33))
    clear hb2
    go_wp2_with fail
    refine (P3.out _ (HS.out.later HB2.out)).mono ?_
    rintro e w3 ⟨rfl, hb3⟩
    have HB3 := Lib.hid ((HB2.out.trans (hb3.mono HB2.out.size)).alloc (HB2.out.trans (hb3.mono HB2.out.size)).size (.cells #[.int .u64 ((0 : Nat) : Int), .int .u64 ((0 : Nat) : Int), .int .u64 ((0 : Nat) : Int), .int .u8 ((0 : Nat) : Int)] 33))
    clear hb3
    go_wp2_with fail
    refine (P4.out _ (HS.out.later HB3.out)).mono ?_
    rintro e w4 ⟨rfl, hb4⟩
    have HB4 := Lib.hid ((HB3.out.trans (hb4.mono HB3.out.size)).alloc (HB3.out.trans (hb4.mono HB3.out.size)).size (.cells #[.int .u64 ((0 : Nat) : Int), .int .u64 ((0 : Nat) : Int), .int .u64 ((0 : Nat) : Int), .int .u8 ((0 : Nat) : Int)] 33))
    clear hb4
    go_wp2_with fail
    refine (known_any _ (HS.out.later HB4.out)).mono ?_
    rintro e w5 ⟨rfl, hb5⟩
    have HB5 := Lib.hid (HB4.out.trans (hb5.mono HB4.out.size))
    clear hb5
    go_wp2_with fail
    go_ret
    exact ⟨rfl, HB5.out⟩
  · have hg : (⟨#[65, 66, 67, 68, 69, 70, 103, 71]⟩ : ByteArray)[2]'(by decide) = (67 : UInt8) := rfl
    have hcv := conv_one (w.alloc (.cells #[.int .u8 67] 5)).drew w.heap.size 67 (by have := (blk_new w #[.int .u8 67] 5).cell 0 rfl; exact this)
    obtain ⟨x2, hx2⟩ : ∃ x2, x1 ++ (⟨#[67]⟩ : ByteArray) = x2 := ⟨_, rfl⟩
    obtain ⟨x4, hx4⟩ : ∃ x4, x2 ++ x3 = x4 := ⟨_, rfl⟩
    have ex2 : x2 = bs (baseS.take i ++ [67]) := by rw [← hx2, EX1.out, ← addStr]; rfl
    have ex4 : x4 = bs (bendS (3 + x) 67) := by rw [← hx4, ex2, EX3.out, addStr, HI.out]; rfl
    have g2 : ¬ 9223372036854775807 < x2.size + x3.size := by rw [ex2, size_bs, List.length_append, List.length_take]; simp only [List.length_singleton]; omega
    have P2 := Lib.hid (fun W (hS : Shape W) => parse_any x4 W hS (by rw [ex4, size_bs]; exact Nat.le_trans (bend_len _ _) (by decide)))
    have hp2 := small_bend ⟨x, hx32⟩ ⟨2, by decide⟩
    rw [ex4, list_bs, show bendS (3 + x) 67 = bendS (3 + (⟨x, hx32⟩ : Fin 32).val) (greatS.getD (⟨2, by decide⟩ : Fin 8).val 0) from rfl, hp2] at P2
    rw [show bs (bendS (3 + (⟨x, hx32⟩ : Fin 32).val) (greatS.getD (⟨2, by decide⟩ : Fin 8).val 0)) = x4 from ex4.symm] at P2
    dsimp only [parentV] at P2
    clear ex2 ex4 hp2 q1 q3
    go_region
    obtain ⟨w0, hw0⟩ : ∃ w0, (w.alloc (.cells #[.int .u8 67] 5)).drew = w0 := ⟨_, rfl⟩
    have hB0 : Below w.heap.size w w0 := by rw [← hw0]; exact ((Below.refl w.heap.size w).alloc (Nat.le_refl _) _).drew
    rw [hw0]
    clear hcv hg hw0
    have HB0 := Lib.hid hB0
    clear hB0
    go_wp2_with fail
    refine (P1.out _ (HS.out.later HB0.out)).mono ?_
    rintro e w1 ⟨rfl, hb1⟩
    have HB1 := Lib.hid ((HB0.out.trans (hb1.mono HB0.out.size)).alloc (HB0.out.trans (hb1.mono HB0.out.size)).size (.cells #[.int .u64 ((81985529216486895 : Nat) : Int), .int .u64 ((81985529216486895 : Nat) : Int), .int .u64 ((81985529216486895 : Nat) : Int), .int .u8 ((1 : Nat) : Int)] 33))
    clear hb1
    go_wp2_with fail
    refine (P2.out _ (HS.out.later HB1.out)).mono ?_
    rintro e w2 ⟨rfl, hb2⟩
    have HB2 := Lib.hid ((HB1.out.trans (hb2.mono HB1.out.size)).alloc (HB1.out.trans (hb2.mono HB1.out.size)).size (.cells #[.int .u64 ((0 : Nat) : Int), .int .u64 ((0 : Nat) : Int), .int .u64 ((0 : Nat) : Int), .int .u8 ((0 : Nat) : Int)] 33))
    clear hb2
    go_wp2_with fail
    refine (P3.out _ (HS.out.later HB2.out)).mono ?_
    rintro e w3 ⟨rfl, hb3⟩
    have HB3 := Lib.hid ((HB2.out.trans (hb3.mono HB2.out.size)).alloc (HB2.out.trans (hb3.mono HB2.out.size)).size (.cells #[.int .u64 ((0 : Nat) : Int), .int .u64 ((0 : Nat) : Int), .int .u64 ((0 : Nat) : Int), .int .u8 ((0 : Nat) : Int)] 33))
    clear hb3
    go_wp2_with fail
    refine (P4.out _ (HS.out.later HB3.out)).mono ?_
    rintro e w4 ⟨rfl, hb4⟩
    have HB4 := Lib.hid ((HB3.out.trans (hb4.mono HB3.out.size)).alloc (HB3.out.trans (hb4.mono HB3.out.size)).size (.cells #[.int .u64 ((0 : Nat) : Int), .int .u64 ((0 : Nat) : Int), .int .u64 ((0 : Nat) : Int), .int .u8 ((0 : Nat) : Int)] 33))
    clear hb4
    go_wp2_with fail
    refine (known_any _ (HS.out.later HB4.out)).mono ?_
    rintro e w5 ⟨rfl, hb5⟩
    have HB5 := Lib.hid (HB4.out.trans (hb5.mono HB4.out.size))
    clear hb5
    go_wp2_with fail
    go_ret
    exact ⟨rfl, HB5.out⟩
  · have hg : (⟨#[65, 66, 67, 68, 69, 70, 103, 71]⟩ : ByteArray)[3]'(by decide) = (68 : UInt8) := rfl
    have hcv := conv_one (w.alloc (.cells #[.int .u8 68] 5)).drew w.heap.size 68 (by have := (blk_new w #[.int .u8 68] 5).cell 0 rfl; exact this)
    obtain ⟨x2, hx2⟩ : ∃ x2, x1 ++ (⟨#[68]⟩ : ByteArray) = x2 := ⟨_, rfl⟩
    obtain ⟨x4, hx4⟩ : ∃ x4, x2 ++ x3 = x4 := ⟨_, rfl⟩
    have ex2 : x2 = bs (baseS.take i ++ [68]) := by rw [← hx2, EX1.out, ← addStr]; rfl
    have ex4 : x4 = bs (bendS (3 + x) 68) := by rw [← hx4, ex2, EX3.out, addStr, HI.out]; rfl
    have g2 : ¬ 9223372036854775807 < x2.size + x3.size := by rw [ex2, size_bs, List.length_append, List.length_take]; simp only [List.length_singleton]; omega
    have P2 := Lib.hid (fun W (hS : Shape W) => parse_any x4 W hS (by rw [ex4, size_bs]; exact Nat.le_trans (bend_len _ _) (by decide)))
    have hp2 := small_bend ⟨x, hx32⟩ ⟨3, by decide⟩
    rw [ex4, list_bs, show bendS (3 + x) 68 = bendS (3 + (⟨x, hx32⟩ : Fin 32).val) (greatS.getD (⟨3, by decide⟩ : Fin 8).val 0) from rfl, hp2] at P2
    rw [show bs (bendS (3 + (⟨x, hx32⟩ : Fin 32).val) (greatS.getD (⟨3, by decide⟩ : Fin 8).val 0)) = x4 from ex4.symm] at P2
    dsimp only [parentV] at P2
    clear ex2 ex4 hp2 q1 q3
    go_region
    obtain ⟨w0, hw0⟩ : ∃ w0, (w.alloc (.cells #[.int .u8 68] 5)).drew = w0 := ⟨_, rfl⟩
    have hB0 : Below w.heap.size w w0 := by rw [← hw0]; exact ((Below.refl w.heap.size w).alloc (Nat.le_refl _) _).drew
    rw [hw0]
    clear hcv hg hw0
    have HB0 := Lib.hid hB0
    clear hB0
    go_wp2_with fail
    refine (P1.out _ (HS.out.later HB0.out)).mono ?_
    rintro e w1 ⟨rfl, hb1⟩
    have HB1 := Lib.hid ((HB0.out.trans (hb1.mono HB0.out.size)).alloc (HB0.out.trans (hb1.mono HB0.out.size)).size (.cells #[.int .u64 ((81985529216486895 : Nat) : Int), .int .u64 ((81985529216486895 : Nat) : Int), .int .u64 ((81985529216486895 : Nat) : Int), .int .u8 ((1 : Nat) : Int)] 33))
    clear hb1
    go_wp2_with fail
    refine (P2.out _ (HS.out.later HB1.out)).mono ?_
    rintro e w2 ⟨rfl, hb2⟩
    have HB2 := Lib.hid ((HB1.out.trans (hb2.mono HB1.out.size)).alloc (HB1.out.trans (hb2.mono HB1.out.size)).size (.cells #[.int .u64 ((0 : Nat) : Int), .int .u64 ((0 : Nat) : Int), .int .u64 ((0 : Nat) : Int), .int .u8 ((0 : Nat) : Int)] 33))
    clear hb2
    go_wp2_with fail
    refine (P3.out _ (HS.out.later HB2.out)).mono ?_
    rintro e w3 ⟨rfl, hb3⟩
    have HB3 := Lib.hid ((HB2.out.trans (hb3.mono HB2.out.size)).alloc (HB2.out.trans (hb3.mono HB2.out.size)).size (.cells #[.int .u64 ((0 : Nat) : Int), .int .u64 ((0 : Nat) : Int), .int .u64 ((0 : Nat) : Int), .int .u8 ((0 : Nat) : Int)] 33))
    clear hb3
    go_wp2_with fail
    refine (P4.out _ (HS.out.later HB3.out)).mono ?_
    rintro e w4 ⟨rfl, hb4⟩
    have HB4 := Lib.hid ((HB3.out.trans (hb4.mono HB3.out.size)).alloc (HB3.out.trans (hb4.mono HB3.out.size)).size (.cells #[.int .u64 ((0 : Nat) : Int), .int .u64 ((0 : Nat) : Int), .int .u64 ((0 : Nat) : Int), .int .u8 ((0 : Nat) : Int)] 33))
    clear hb4
    go_wp2_with fail
    refine (known_any _ (HS.out.later HB4.out)).mono ?_
    rintro e w5 ⟨rfl, hb5⟩
    have HB5 := Lib.hid (HB4.out.trans (hb5.mono HB4.out.size))
    clear hb5
    go_wp2_with fail
    go_ret
    exact ⟨rfl, HB5.out⟩
  · have hg : (⟨#[65, 66, 67, 68, 69, 70, 103, 71]⟩ : ByteArray)[4]'(by decide) = (69 : UInt8) := rfl
    have hcv := conv_one (w.alloc (.cells #[.int .u8 69] 5)).drew w.heap.size 69 (by have := (blk_new w #[.int .u8 69] 5).cell 0 rfl; exact this)
    obtain ⟨x2, hx2⟩ : ∃ x2, x1 ++ (⟨#[69]⟩ : ByteArray) = x2 := ⟨_, rfl⟩
    obtain ⟨x4, hx4⟩ : ∃ x4, x2 ++ x3 = x4 := ⟨_, rfl⟩
    have ex2 : x2 = bs (baseS.take i ++ [69]) := by rw [← hx2, EX1.out, ← addStr]; rfl
    have ex4 : x4 = bs (bendS (3 + x) 69) := by rw [← hx4, ex2, EX3.out, addStr, HI.out]; rfl
    have g2 : ¬ 9223372036854775807 < x2.size + x3.size := by rw [ex2, size_bs, List.length_append, List.length_take]; simp only [List.length_singleton]; omega
    have P2 := Lib.hid (fun W (hS : Shape W) => parse_any x4 W hS (by rw [ex4, size_bs]; exact Nat.le_trans (bend_len _ _) (by decide)))
    have hp2 := small_bend ⟨x, hx32⟩ ⟨4, by decide⟩
    rw [ex4, list_bs, show bendS (3 + x) 69 = bendS (3 + (⟨x, hx32⟩ : Fin 32).val) (greatS.getD (⟨4, by decide⟩ : Fin 8).val 0) from rfl, hp2] at P2
    rw [show bs (bendS (3 + (⟨x, hx32⟩ : Fin 32).val) (greatS.getD (⟨4, by decide⟩ : Fin 8).val 0)) = x4 from ex4.symm] at P2
    dsimp only [parentV] at P2
    clear ex2 ex4 hp2 q1 q3
    go_region
    obtain ⟨w0, hw0⟩ : ∃ w0, (w.alloc (.cells #[.int .u8 69] 5)).drew = w0 := ⟨_, rfl⟩
    have hB0 : Below w.heap.size w w0 := by rw [← hw0]; exact ((Below.refl w.heap.size w).alloc (Nat.le_refl _) _).drew
    rw [hw0]
    clear hcv hg hw0
    have HB0 := Lib.hid hB0
    clear hB0
    go_wp2_with fail
    refine (P1.out _ (HS.out.later HB0.out)).mono ?_
    rintro e w1 ⟨rfl, hb1⟩
    have HB1 := Lib.hid ((HB0.out.trans (hb1.mono HB0.out.size)).alloc (HB0.out.trans (hb1.mono HB0.out.size)).size (.cells #[.int .u64 ((81985529216486895 : Nat) : Int), .int .u64 ((81985529216486895 : Nat) : Int), .int .u64 ((81985529216486895 : Nat) : Int), .int .u8 ((1 : Nat) : Int)] 33))
    clear hb1
    go_wp2_with fail
    refine (P2.out _ (HS.out.later HB1.out)).mono ?_
    rintro e w2 ⟨rfl, hb2⟩
    have HB2 := Lib.hid ((HB1.out.trans (hb2.mono HB1.out.size)).alloc (HB1.out.trans (hb2.mono HB1.out.size)).size (.cells #[.int .u64 ((0 : Nat) : Int), .int .u64 ((0 : Nat) : Int), .int .u64 ((0 : Nat) : Int), .int .u8 ((0 : Nat) : Int)] 33))
    clear hb2
    go_wp2_with fail
    refine (P3.out _ (HS.out.later HB2.out)).mono ?_
    rintro e w3 ⟨rfl, hb3⟩
    have HB3 := Lib.hid ((HB2.out.trans (hb3.mono HB2.out.size)).alloc (HB2.out.trans (hb3.mono HB2.out.size)).size (.cells #[.int .u64 ((0 : Nat) : Int), .int .u64 ((0 : Nat) : Int), .int .u64 ((0 : Nat) : Int), .int .u8 ((0 : Nat) : Int)] 33))
    clear hb3
    go_wp2_with fail
    refine (P4.out _ (HS.out.later HB3.out)).mono ?_
    rintro e w4 ⟨rfl, hb4⟩
    have HB4 := Lib.hid ((HB3.out.trans (hb4.mono HB3.out.size)).alloc (HB3.out.trans (hb4.mono HB3.out.size)).size (.cells #[.int .u64 ((0 : Nat) : Int), .int .u64 ((0 : Nat) : Int), .int .u64 ((0 : Nat) : Int), .int .u8 ((0 : Nat) : Int)] 33))
    clear hb4
    go_wp2_with fail
    refine (known_any _ (HS.out.later HB4.out)).mono ?_
    rintro e w5 ⟨rfl, hb5⟩
    have HB5 := Lib.hid (HB4.out.trans (hb5.mono HB4.out.size))
    clear hb5
    go_wp2_with fail
    go_ret
    exact ⟨rfl, HB5.out⟩
  · have hg : (⟨#[65, 66, 67, 68, 69, 70, 103, 71]⟩ : ByteArray)[5]'(by decide) = (70 : UInt8) := rfl
    have hcv := conv_one (w.alloc (.cells #[.int .u8 70] 5)).drew w.heap.size 70 (by have := (blk_new w #[.int .u8 70] 5).cell 0 rfl; exact this)
    obtain ⟨x2, hx2⟩ : ∃ x2, x1 ++ (⟨#[70]⟩ : ByteArray) = x2 := ⟨_, rfl⟩
    obtain ⟨x4, hx4⟩ : ∃ x4, x2 ++ x3 = x4 := ⟨_, rfl⟩
    have ex2 : x2 = bs (baseS.take i ++ [70]) := by rw [← hx2, EX1.out, ← addStr]; rfl
    have ex4 : x4 = bs (bendS (3 + x) 70) := by rw [← hx4, ex2, EX3.out, addStr, HI.out]; rfl
    have g2 : ¬ 9223372036854775807 < x2.size + x3.size := by rw [ex2, size_bs, List.length_append, List.length_take]; simp only [List.length_singleton]; omega
    have P2 := Lib.hid (fun W (hS : Shape W) => parse_any x4 W hS (by rw [ex4, size_bs]; exact Nat.le_trans (bend_len _ _) (by decide)))
    have hp2 := small_bend ⟨x, hx32⟩ ⟨5, by decide⟩
    rw [ex4, list_bs, show bendS (3 + x) 70 = bendS (3 + (⟨x, hx32⟩ : Fin 32).val) (greatS.getD (⟨5, by decide⟩ : Fin 8).val 0) from rfl, hp2] at P2
    rw [show bs (bendS (3 + (⟨x, hx32⟩ : Fin 32).val) (greatS.getD (⟨5, by decide⟩ : Fin 8).val 0)) = x4 from ex4.symm] at P2
    dsimp only [parentV] at P2
    clear ex2 ex4 hp2 q1 q3
    go_region
    obtain ⟨w0, hw0⟩ : ∃ w0, (w.alloc (.cells #[.int .u8 70] 5)).drew = w0 := ⟨_, rfl⟩
    have hB0 : Below w.heap.size w w0 := by rw [← hw0]; exact ((Below.refl w.heap.size w).alloc (Nat.le_refl _) _).drew
    rw [hw0]
    clear hcv hg hw0
    have HB0 := Lib.hid hB0
    clear hB0
    go_wp2_with fail
    refine (P1.out _ (HS.out.later HB0.out)).mono ?_
    rintro e w1 ⟨rfl, hb1⟩
    have HB1 := Lib.hid ((HB0.out.trans (hb1.mono HB0.out.size)).alloc (HB0.out.trans (hb1.mono HB0.out.size)).size (.cells #[.int .u64 ((81985529216486895 : Nat) : Int), .int .u64 ((81985529216486895 : Nat) : Int), .int .u64 ((81985529216486895 : Nat) : Int), .int .u8 ((1 : Nat) : Int)] 33))
    clear hb1
    go_wp2_with fail
    refine (P2.out _ (HS.out.later HB1.out)).mono ?_
    rintro e w2 ⟨rfl, hb2⟩
    have HB2 := Lib.hid ((HB1.out.trans (hb2.mono HB1.out.size)).alloc (HB1.out.trans (hb2.mono HB1.out.size)).size (.cells #[.int .u64 ((0 : Nat) : Int), .int .u64 ((0 : Nat) : Int), .int .u64 ((0 : Nat) : Int), .int .u8 ((0 : Nat) : Int)] 33))
    clear hb2
    go_wp2_with fail
    refine (P3.out _ (HS.out.later HB2.out)).mono ?_
    rintro e w3 ⟨rfl, hb3⟩
    have HB3 := Lib.hid ((HB2.out.trans (hb3.mono HB2.out.size)).alloc (HB2.out.trans (hb3.mono HB2.out.size)).size (.cells #[.int .u64 ((0 : Nat) : Int), .int .u64 ((0 : Nat) : Int), .int .u64 ((0 : Nat) : Int), .int .u8 ((0 : Nat) : Int)] 33))
    clear hb3
    go_wp2_with fail
    refine (P4.out _ (HS.out.later HB3.out)).mono ?_
    rintro e w4 ⟨rfl, hb4⟩
    have HB4 := Lib.hid ((HB3.out.trans (hb4.mono HB3.out.size)).alloc (HB3.out.trans (hb4.mono HB3.out.size)).size (.cells #[.int .u64 ((0 : Nat) : Int), .int .u64 ((0 : Nat) : Int), .int .u64 ((0 : Nat) : Int), .int .u8 ((0 : Nat) : Int)] 33))
    clear hb4
    go_wp2_with fail
    refine (known_any _ (HS.out.later HB4.out)).mono ?_
    rintro e w5 ⟨rfl, hb5⟩
    have HB5 := Lib.hid (HB4.out.trans (hb5.mono HB4.out.size))
    clear hb5
    go_wp2_with fail
    go_ret
    exact ⟨rfl, HB5.out⟩
  · have hg : (⟨#[65, 66, 67, 68, 69, 70, 103, 71]⟩ : ByteArray)[6]'(by decide) = (103 : UInt8) := rfl
    have hcv := conv_one (w.alloc (.cells #[.int .u8 103] 5)).drew w.heap.size 103 (by have := (blk_new w #[.int .u8 103] 5).cell 0 rfl; exact this)
    obtain ⟨x2, hx2⟩ : ∃ x2, x1 ++ (⟨#[103]⟩ : ByteArray) = x2 := ⟨_, rfl⟩
    obtain ⟨x4, hx4⟩ : ∃ x4, x2 ++ x3 = x4 := ⟨_, rfl⟩
    have ex2 : x2 = bs (baseS.take i ++ [103]) := by rw [← hx2, EX1.out, ← addStr]; rfl
    have ex4 : x4 = bs (bendS (3 + x) 103) := by rw [← hx4, ex2, EX3.out, addStr, HI.out]; rfl
    have g2 : ¬ 9223372036854775807 < x2.size + x3.size := by rw [ex2, size_bs, List.length_append, List.length_take]; simp only [List.length_singleton]; omega
    have P2 := Lib.hid (fun W (hS : Shape W) => parse_any x4 W hS (by rw [ex4, size_bs]; exact Nat.le_trans (bend_len _ _) (by decide)))
    have hp2 := small_bend ⟨x, hx32⟩ ⟨6, by decide⟩
    rw [ex4, list_bs, show bendS (3 + x) 103 = bendS (3 + (⟨x, hx32⟩ : Fin 32).val) (greatS.getD (⟨6, by decide⟩ : Fin 8).val 0) from rfl, hp2] at P2
    rw [show bs (bendS (3 + (⟨x, hx32⟩ : Fin 32).val) (greatS.getD (⟨6, by decide⟩ : Fin 8).val 0)) = x4 from ex4.symm] at P2
    dsimp only [parentV] at P2
    clear ex2 ex4 hp2 q1 q3
    go_region
    obtain ⟨w0, hw0⟩ : ∃ w0, (w.alloc (.cells #[.int .u8 103] 5)).drew = w0 := ⟨_, rfl⟩
    have hB0 : Below w.heap.size w w0 := by rw [← hw0]; exact ((Below.refl w.heap.size w).alloc (Nat.le_refl _) _).drew
    rw [hw0]
    clear hcv hg hw0
    have HB0 := Lib.hid hB0
    clear hB0
    go_wp2_with fail
    refine (P1.out _ (HS.out.later HB0.out)).mono ?_
    rintro e w1 ⟨rfl, hb1⟩
    have HB1 := Lib.hid ((HB0.out.trans (hb1.mono HB0.out.size)).alloc (HB0.out.trans (hb1.mono HB0.out.size)).size (.cells #[.int .u64 ((81985529216486895 : Nat) : Int), .int .u64 ((81985529216486895 : Nat) : Int), .int .u64 ((81985529216486895 : Nat) : Int), .int .u8 ((1 : Nat) : Int)] 33))
    clear hb1
    go_wp2_with fail
    refine (P2.out _ (HS.out.later HB1.out)).mono ?_
    rintro e w2 ⟨rfl, hb2⟩
    have HB2 := Lib.hid ((HB1.out.trans (hb2.mono HB1.out.size)).alloc (HB1.out.trans (hb2.mono HB1.out.size)).size (.cells #[.int .u64 ((0 : Nat) : Int), .int .u64 ((0 : Nat) : Int), .int .u64 ((0 : Nat) : Int), .int .u8 ((0 : Nat) : Int)] 33))
    clear hb2
    go_wp2_with fail
    refine (P3.out _ (HS.out.later HB2.out)).mono ?_
    rintro e w3 ⟨rfl, hb3⟩
    have HB3 := Lib.hid ((HB2.out.trans (hb3.mono HB2.out.size)).alloc (HB2.out.trans (hb3.mono HB2.out.size)).size (.cells #[.int .u64 ((0 : Nat) : Int), .int .u64 ((0 : Nat) : Int), .int .u64 ((0 : Nat) : Int), .int .u8 ((0 : Nat) : Int)] 33))
    clear hb3
    go_wp2_with fail
    refine (P4.out _ (HS.out.later HB3.out)).mono ?_
    rintro e w4 ⟨rfl, hb4⟩
    have HB4 := Lib.hid ((HB3.out.trans (hb4.mono HB3.out.size)).alloc (HB3.out.trans (hb4.mono HB3.out.size)).size (.cells #[.int .u64 ((0 : Nat) : Int), .int .u64 ((0 : Nat) : Int), .int .u64 ((0 : Nat) : Int), .int .u8 ((0 : Nat) : Int)] 33))
    clear hb4
    go_wp2_with fail
    refine (known_any _ (HS.out.later HB4.out)).mono ?_
    rintro e w5 ⟨rfl, hb5⟩
    have HB5 := Lib.hid (HB4.out.trans (hb5.mono HB4.out.size))
    clear hb5
    go_wp2_with fail
    go_ret
    exact ⟨rfl, HB5.out⟩
  · have hg : (⟨#[65, 66, 67, 68, 69, 70, 103, 71]⟩ : ByteArray)[7]'(by decide) = (71 : UInt8) := rfl
    have hcv := conv_one (w.alloc (.cells #[.int .u8 71] 5)).drew w.heap.size 71 (by have := (blk_new w #[.int .u8 71] 5).cell 0 rfl; exact this)
    obtain ⟨x2, hx2⟩ : ∃ x2, x1 ++ (⟨#[71]⟩ : ByteArray) = x2 := ⟨_, rfl⟩
    obtain ⟨x4, hx4⟩ : ∃ x4, x2 ++ x3 = x4 := ⟨_, rfl⟩
    have ex2 : x2 = bs (baseS.take i ++ [71]) := by rw [← hx2, EX1.out, ← addStr]; rfl
    have ex4 : x4 = bs (bendS (3 + x) 71) := by rw [← hx4, ex2, EX3.out, addStr, HI.out]; rfl
    have g2 : ¬ 9223372036854775807 < x2.size + x3.size := by rw [ex2, size_bs, List.length_append, List.length_take]; simp only [List.length_singleton]; omega
    have P2 := Lib.hid (fun W (hS : Shape W) => parse_any x4 W hS (by rw [ex4, size_bs]; exact Nat.le_trans (bend_len _ _) (by decide)))
    have hp2 := small_bend ⟨x, hx32⟩ ⟨7, by decide⟩
    rw [ex4, list_bs, show bendS (3 + x) 71 = bendS (3 + (⟨x, hx32⟩ : Fin 32).val) (greatS.getD (⟨7, by decide⟩ : Fin 8).val 0) from rfl, hp2] at P2
    rw [show bs (bendS (3 + (⟨x, hx32⟩ : Fin 32).val) (greatS.getD (⟨7, by decide⟩ : Fin 8).val 0)) = x4 from ex4.symm] at P2
    dsimp only [parentV] at P2
    clear ex2 ex4 hp2 q1 q3
    go_region
    obtain ⟨w0, hw0⟩ : ∃ w0, (w.alloc (.cells #[.int .u8 71] 5)).drew = w0 := ⟨_, rfl⟩
    have hB0 : Below w.heap.size w w0 := by rw [← hw0]; exact ((Below.refl w.heap.size w).alloc (Nat.le_refl _) _).drew
    rw [hw0]
    clear hcv hg hw0
    have HB0 := Lib.hid hB0
    clear hB0
    go_wp2_with fail
    refine (P1.out _ (HS.out.later HB0.out)).mono ?_
    rintro e w1 ⟨rfl, hb1⟩
    have HB1 := Lib.hid ((HB0.out.trans (hb1.mono HB0.out.size)).alloc (HB0.out.trans (hb1.mono HB0.out.size)).size (.cells #[.int .u64 ((81985529216486895 : Nat) : Int), .int .u64 ((81985529216486895 : Nat) : Int), .int .u64 ((81985529216486895 : Nat) : Int), .int .u8 ((1 : Nat) : Int)] 33))
    clear hb1
    go_wp2_with fail
    refine (P2.out _ (HS.out.later HB1.out)).mono ?_
    rintro e w2 ⟨rfl, hb2⟩
    have HB2 := Lib.hid ((HB1.out.trans (hb2.mono HB1.out.size)).alloc (HB1.out.trans (hb2.mono HB1.out.size)).size (.cells #[.int .u64 ((0 : Nat) : Int), .int .u64 ((0 : Nat) : Int), .int .u64 ((0 : Nat) : Int), .int .u8 ((0 : Nat) : Int)] 33))
    clear hb2
    go_wp2_with fail
    refine (P3.out _ (HS.out.later HB2.out)).mono ?_
    rintro e w3 ⟨rfl, hb3⟩
    have HB3 := Lib.hid ((HB2.out.trans (hb3.mono HB2.out.size)).alloc (HB2.out.trans (hb3.mono HB2.out.size)).size (.cells #[.int .u64 ((0 : Nat) : Int), .int .u64 ((0 : Nat) : Int), .int .u64 ((0 : Nat) : Int), .int .u8 ((0 : Nat) : Int)] 33))
    clear hb3
    go_wp2_with fail
    refine (P4.out _ (HS.out.later HB3.out)).mono ?_
    rintro e w4 ⟨rfl, hb4⟩
    have HB4 := Lib.hid ((HB3.out.trans (hb4.mono HB3.out.size)).alloc (HB3.out.trans (hb4.mono HB3.out.size)).size (.cells #[.int .u64 ((0 : Nat) : Int), .int .u64 ((0 : Nat) : Int), .int .u64 ((0 : Nat) : Int), .int .u8 ((0 : Nat) : Int)] 33))
    clear hb4
    go_wp2_with fail
    refine (known_any _ (HS.out.later HB4.out)).mono ?_
    rintro e w5 ⟨rfl, hb5⟩
    have HB5 := Lib.hid (HB4.out.trans (hb5.mono HB4.out.size))
    clear hb5
    go_wp2_with fail
    go_ret
    exact ⟨rfl, HB5.out⟩

namespace CtxSmall
set_option linter.unusedSimpArgs false in
set_option maxRecDepth 100000 in
theorem lifted (os : Os) (started : os.Started) (H : Type) (enc : TypeId × Value → H) :
    ReturnsInHanded {} Tryd.checked os 4 .any (fun w args => (Rows.ctxSmallSpec.pre enc Tryd.prog Tryd.f4 [] false w args ∧ laidMetH Tryd.prog laidL w) ∧ sizedMet enc Tryd.prog Tryd.f4 (OpenSpec.ofChange Rows.ctxSmallSpec) false w args)
      (Rows.ctxSmallSpec.post enc Tryd.prog Tryd.f4 false true false false) := by
  refine returnsInHanded_of_change_and (C := Tryd.checked) (X := fun w _ => laidMetH Tryd.prog laidL w) (fun _ _ _ hh h => h.of_heap hh) own started (by kernel_rfl) Tryd.func4
    (ChangeSpec.witness_shaped (enc := enc) (C := Tryd.checked) (os := os) (X := fun w _ => laidMetH Tryd.prog laidL w) false (World.laidAll Tryd.prog os laidL) #[.int .u8 0, .int .u8 0] 8 (World.laidAll_os _ _ _) (World.shaped_of_ZipB (by kernel_rfl) (by kernel_rfl)) (by kernel_rfl) (by kernel_rfl) (by kernel_rfl) (door_met os _)) ?_
  intro W base args ds gs before hval0 hW _ _ hL _
  have hS := of_laid hL
  have hval : ∀ (j : Nat) t v, Tryd.f4.params[j]? = some t → args[j]? = some v → Value.okWide Tryd.prog W .any base t v := hval0
  have hW' := hW
  obtain ⟨p, q, hA0, hV, rfl, _, _⟩ := hW
  have hA : DataW.TrodAll enc Tryd.prog W 0 (fun _ => true) true Tryd.f4.params.toList args.toList ds p := hA0
  rw [Tryd.params4] at hA hval
  obtain ⟨v0, vs0, d0, ds0, p0, q0, hargs, rfl, rfl, h0, r0⟩ := trodAll_cons hA
  obtain ⟨v1, vs1, d1, ds1, p1, q1, rfl, rfl, rfl, h1, r1⟩ := trodAll_cons r0
  obtain ⟨rfl, rfl, rfl⟩ := trodAll_nil r1
  obtain rfl : args = #[v0, v1] := by cases args; simp_all
  obtain ⟨rfl, rfl⟩ := trodVars_none hV
  obtain ⟨a0, rfl, rfl, rfl, w0⟩ := open_int Tryd.underlying5 (hval 0 5 v0 rfl rfl) h0
  have k0 := wf_u8 w0
  obtain ⟨n0, rfl⟩ : ∃ u : UInt8, a0 = (u.toNat : Int) := ⟨UInt8.ofNat a0.toNat, by simp; omega⟩
  obtain ⟨a1, rfl, rfl, rfl, w1⟩ := open_int Tryd.underlying5 (hval 1 5 v1 rfl rfl) h1
  have k1 := wf_u8 w1
  obtain ⟨n1, rfl⟩ : ∃ u : UInt8, a1 = (u.toNat : Int) := ⟨UInt8.ofNat a1.toNat, by simp; omega⟩
  clear hA0 hval0
  simp only [List.append_nil] at hW'
  refine (small_walk n0.toNat n1.toNat n0.toNat_lt n1.toNat_lt W hS).mono fun e W' ⟨he, hg⟩ => ?_
  subst he
  exact ⟨_, rfl, true_last hW' rfl (by kernel_rfl) Tryd.underlying4 rfl rfl rfl (of_decide_eq_true (by kernel_rfl)) hg⟩

/-- The row. -/
theorem said : Rows.CtxSmallSaid :=
  OpenClaim.holds_of_wide 4 Tryd.f4 rfl rfl rfl rfl rfl rfl rfl ⟨rfl, rfl, rfl, rfl, rfl⟩ rfl rfl rfl rfl rfl (by kernel_rfl) Tryd.func4 (by kernel_rfl)
    (of_decide_eq_true (by kernel_rfl)) (by unfold Func.isWrapper; first | (rw [if_pos (by decide +kernel)]; kernel_rfl) | (rw [if_neg (by decide +kernel)]; exact ⟨rfl, rfl⟩))
    (fun os started H enc _ => lifted os started H enc)
/-- **CtxSmall, at every input: the card, its listed variables tied to the program's text.** -/
theorem proved : Rows.CtxSmallCardSaid :=
  Claim7.holds_tied_plain_at .later [] [.data, .data, .pinned] true Rows.ctxSmallCard.stood.harness false
    said (fun _ h => by cases h) (by kernel_rfl) (fun _ h => by cases h) ctxSmall_row_tie rfl ⟨rfl, rfl⟩ (by kernel_rfl) rfl
    (fun f fn hf hfn => by
      obtain rfl : f = 4 := Option.some.inj ((show Tryd.prog.funcNamed "telemeter/telemeterlaw04.CtxSmall" = some 4 by kernel_rfl).symm.trans hf) |>.symm
      obtain rfl : fn = Tryd.f4 := (Option.some.inj (Tryd.func4.symm.trans hfn)).symm
      exact ⟨by kernel_rfl, fun j t ht => by
        rw [Tryd.params4] at ht
        have hm : t ∈ [5, 5] := by simpa using Array.mem_of_getElem? ht
        have hall : ([5, 5].all fun u => !Tryd.prog.wantsStandIn u) = true := by kernel_rfl
        exact (show Tryd.prog.wantsStandIn t = false by simpa using List.all_eq_true.1 hall t hm)⟩)
    (by kernel_rfl)
end CtxSmall

end Go.Proofs.YtkfidolbbnmjfaaDoor
