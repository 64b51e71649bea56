/-
  The chapter's example holds.
-/
import Derived.Test.YtmjbdjcpjaeemaaDoorPoSpans
namespace Go.Proofs.YtmjbdjcpjaeemaaDoor
open Go.RowKit

def ex1 : Sp := ⟨0, 0, 0, 0, none8, 3, 9, false, [], 0⟩
def ex2 : Sp := ⟨0, 0, 0, 0, none8, 5, 12, false, [], 0⟩
def exCells : Array Value := #[.int .u64 0, .int .u64 0, .int .u64 0, .int .u64 0, .string ⟨#[]⟩, .int .i64 3, .int .i64 9, .bool false, .slice none 0 0, .int .u64 0, .int .u64 0, .int .u64 0, .int .u64 0, .int .u64 0, .string ⟨#[]⟩, .int .i64 5, .int .i64 12, .bool false, .slice none 0 0, .int .u64 0]
theorem ex_holds (w : World) : HoldsS (w.alloc (.cells exCells 36)).heap.size (w.alloc (.cells exCells 36)) (some ⟨w.heap.size, 0, none⟩) [ex1, ex2] := fun _ => by
  have hb := blk_new w exCells 36
  refine ⟨w.heap.size, 0, rfl, hb.lt, fun j hj => ?_⟩
  have hA : ∀ n W, HoldsA n W none [] := fun n W h => absurd h (by simp)
  match j, hj with
  | 0, _ => exact ⟨none, 0, hb.cell 0 rfl, hb.cell 1 rfl, hb.cell 2 rfl, hb.cell 3 rfl, hb.cell 4 rfl, hb.cell 5 rfl, hb.cell 6 rfl, hb.cell 7 rfl, hb.cell 8 rfl, hb.cell 9 rfl, hA _ _⟩
  | 1, _ => exact ⟨none, 0, hb.cell 10 rfl, hb.cell 11 rfl, hb.cell 12 rfl, hb.cell 13 rfl, hb.cell 14 rfl, hb.cell 15 rfl, hb.cell 16 rfl, hb.cell 17 rfl, hb.cell 18 rfl, hb.cell 19 rfl, hA _ _⟩
theorem ex_fits : Fits 2 2 [ex1, ex2] := ⟨rfl, by omega, by omega, fun i hi => by
  match i, hi with
  | 0, _ => exact (by decide : (0 : Nat) ≤ 9223372036854775807)
  | 1, _ => exact (by decide : (0 : Nat) ≤ 9223372036854775807)⟩
theorem ok_nil : OkRows [] := ⟨by decide, fun i hi => absurd hi (by simp)⟩

set_option maxRecDepth 100000 in
set_option maxHeartbeats 2000000 in
theorem known_any (w : World) (hM : Most w) : Calls Tryd.prog 10 #[] w fun e w' => e = .returned (.bool true) ∧ Below w.heap.size w w' := by
  have hB := box_below (W := w) (.cells exCells 36)
  have hH := ex_holds w
  have hM1 := hM.later hB
  obtain ⟨n0, hn0⟩ : ∃ n0, w.heap.size = n0 := ⟨_, rfl⟩
  obtain ⟨W1, hW1⟩ : ∃ W1, w.alloc (.cells exCells 36) = W1 := ⟨_, rfl⟩
  rw [hW1] at hB hH hM1
  rw [hn0] at hH
  have HB := Lib.hid hB
  have H1 : Hid (∀ W, Below W1.heap.size W1 W → Calls Tryd.prog 19 #[.slice (some ⟨n0, 0, none⟩) 2 2] W fun e w' => e = .returned (.int .i64 9) ∧ Below W1.heap.size W1 w') := Lib.hid fun W hW => by
    have e : lenM [ex1, ex2] = 9 := by decide +kernel
    have := len_any (some ⟨n0, 0, none⟩) [ex1, ex2] 2 2 W rfl (by omega) (by omega) (hH.later hW)
    rw [e] at this
    exact this.mono fun e w' ⟨he, hb⟩ => ⟨he, hW.trans (hb.mono hW.size)⟩
  have H2 : Hid (∀ W, Below W1.heap.size W1 W → Calls Tryd.prog 14 #[.agg #[.int .u8 1, .int .i64 9, .string ⟨#[]⟩, .string ⟨#[]⟩], .slice (some ⟨n0, 0, none⟩) 2 2, .int .u64 0] W fun e w' => e = .returned (.bool true) ∧ Below W1.heap.size W1 w') := Lib.hid fun W hW => by
    have e : holdsM ⟨1, 9, none8, none8⟩ [ex1, ex2] 0 = true := by decide +kernel
    have := holds_any ⟨1, 9, none8, none8⟩ (some ⟨n0, 0, none⟩) [ex1, ex2] 2 2 0 W ex_fits ⟨by decide, by decide⟩ (hH.later hW)
    rw [e] at this
    exact this.mono fun e w' ⟨he, hb⟩ => ⟨he, hW.trans (hb.mono hW.size)⟩
  have H3 : Hid (∀ W, Below W1.heap.size W1 W → Calls Tryd.prog 14 #[.agg #[.int .u8 1, .int .i64 10, .string ⟨#[]⟩, .string ⟨#[]⟩], .slice (some ⟨n0, 0, none⟩) 2 2, .int .u64 0] W fun e w' => e = .returned (.bool false) ∧ Below W1.heap.size W1 w') := Lib.hid fun W hW => by
    have e : holdsM ⟨1, 10, none8, none8⟩ [ex1, ex2] 0 = false := by decide +kernel
    have := holds_any ⟨1, 10, none8, none8⟩ (some ⟨n0, 0, none⟩) [ex1, ex2] 2 2 0 W ex_fits ⟨by decide, by decide⟩ (hH.later hW)
    rw [e] at this
    exact this.mono fun e w' ⟨he, hb⟩ => ⟨he, hW.trans (hb.mono hW.size)⟩
  have H4 : Hid (∀ W, Below W1.heap.size W1 W → Calls Tryd.prog 13 #[.slice none 0 0, .slice (some ⟨n0, 0, none⟩) 2 2, .int .u64 0] W fun e w' => e = .returned (.int .i64 (-1)) ∧ Below W1.heap.size W1 w') := Lib.hid fun W hW => by
    have e : whichM [] [ex1, ex2] 0 = -1 := rfl
    have := which_any none [] 0 0 (some ⟨n0, 0, none⟩) [ex1, ex2] 2 2 0 W rfl ok_nil (fun h => absurd h (by simp)) ex_fits (hH.later hW)
    rw [e] at this
    exact this.mono fun e w' ⟨he, hb⟩ => ⟨he, hW.trans (hb.mono hW.size)⟩
  have H5 : Hid (∀ W, Below W1.heap.size W1 W → Calls Tryd.prog 12 #[.slice none 0 0, .slice (some ⟨n0, 0, none⟩) 2 2, .int .u64 0] W fun e w' => e = .returned (.bool true) ∧ Below W1.heap.size W1 w') := Lib.hid fun W hW =>
    (all_any none [] 0 0 (some ⟨n0, 0, none⟩) [ex1, ex2] 2 2 0 W rfl (by omega) (fun i hi => absurd hi (by omega)) (fun h => absurd h (by simp)) ex_fits (hH.later hW)).mono fun e w' ⟨he, hb⟩ => ⟨he, hW.trans (hb.mono hW.size)⟩
  have H6 : Hid (∀ W, Below W1.heap.size W1 W → Calls Tryd.prog 15 #[.slice none 0 0] W fun e w' => e = .returned (.bool true) ∧ Below W1.heap.size W1 w') := Lib.hid fun W hW =>
    (right_any none [] 0 0 W rfl (by omega) (fun i hi => absurd hi (by omega)) (fun h => absurd h (by simp)) (hM1.later hW)).mono fun e w' ⟨he, hb⟩ => ⟨he, hW.trans (hb.mono hW.size)⟩
  have HE : Hid (∀ W, Below W1.heap.size W1 W → Below w.heap.size w W) := Lib.hid fun W hW => hB.trans (hW.mono hB.size)
  unfold exCells at hW1
  clear hB hH hM1 hM
  go_enter Tryd.func10, Tryd.ntmps10
  go_wp2_with fail
  refine (H1.out _ (Below.refl _ _)).mono ?_
  rintro e w1 ⟨rfl, hb1⟩
  go_wp2_with fail
  refine (H2.out _ hb1).mono ?_
  rintro e w2 ⟨rfl, hb2⟩
  clear hb1
  go_wp2_with fail
  refine (H3.out _ hb2).mono ?_
  rintro e w3 ⟨rfl, hb3⟩
  clear hb2
  go_wp2_with fail
  refine (H4.out _ hb3).mono ?_
  rintro e w4 ⟨rfl, hb4⟩
  clear hb3
  go_wp2_with fail
  refine (H5.out _ hb4).mono ?_
  rintro e w5 ⟨rfl, hb5⟩
  clear hb4
  go_wp2_with fail
  refine (H6.out _ hb5).mono ?_
  rintro e w6 ⟨rfl, hb6⟩
  clear hb5
  go_wp2_with fail
  go_ret
  exact ⟨rfl, HE.out _ hb6⟩
end Go.Proofs.YtmjbdjcpjaeemaaDoor
