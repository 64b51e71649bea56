/-
  What (*reader).mark does, whatever the text.
-/
import Derived.Test.YtkfidolbbnmjfaaDoorCtxNum
import Derived.Test.YtkfidolbbnmjfaaDoorCtxPairs
import Derived.Test.YtkfidolbbnmjfaaDoorBlk0
import Derived.BigRegion
namespace Go.Proofs.YtkfidolbbnmjfaaDoor
open Go.RowKit Go.Shelf Go.Proofs.CtxState Go.Proofs.SeqOwn

theorem part_none {l : Nat} {x : List UInt8} (h : CtxMath.hexNum x = none) : partOf l x = none := by unfold partOf; rw [h]
theorem part_short {l : Nat} {x : List UInt8} (h : x.length < l) : partOf l x = none := by
  unfold partOf; split; rfl; rw [if_neg (by simp; omega)]
theorem part_long {l : Nat} {x : List UInt8} (h : 14 < x.length) : partOf l x = none := by
  unfold partOf; split; rfl; rw [if_neg (by simp; omega)]
theorem part_some {l n : Nat} {x : List UInt8} (h : CtxMath.hexNum x = some n) (h1 : l ≤ x.length) (h2 : x.length ≤ 14) : partOf l x = some (n * 2 ^ (4 * (14 - x.length)) % 18446744073709551616) := by
  unfold partOf; rw [h]; simp only; rw [if_pos (by simp [h1, h2]), Nat.pow_mul]

theorem shl_u (n y : Nat) : IntKind.u64.wrap ((n : Int) * 2 ^ y) = ((n * 2 ^ y % 18446744073709551616 : Nat) : Int) := by
  rw [IntKind.wrap_u64]
  have : ((n : Int) * 2 ^ y) = ((n * 2 ^ y : Nat) : Int) := by rw [Int.natCast_mul, Int.natCast_pow]; rfl
  rw [this]
  rfl
def markRes (hasv : Bool) (o : Option Nat) (br bm i j : Nat) (C : Array Value) (w w' : World) : Prop :=
  (hasv = false ∧ ∃ n : Nat, o = some n ∧ Blk w' bm ((C.setIfInBounds i (.bool true)).setIfInBounds j (.int .u64 (n : Int))) 29 ∧ Only (fun k => k = bm) w w') ∨
  ((hasv = true ∨ o = none) ∧ Boxed w' br 72 (.int .u16 31) ∧ Only (fun k => k = br) w w')

set_option maxRecDepth 100000 in
set_option maxHeartbeats 4000000 in
theorem mark_any (x : ByteArray) (least br bm i j : Nat) (v tv : Int) (C : Array Value) (hasv : Bool) (w : World) (hs : x.size ≤ 9223372036854775807)
    (hB : Boxed w br 72 (.int .u16 v)) (hC : Blk w bm C 29) (hi : C[i]? = some (.bool hasv)) (hj : C[j]? = some (.int .u64 tv)) (hij : i ≠ j) :
    Calls Tryd.prog 50 #[.pointer (some ⟨br, 0, none⟩), .string x, .int .i64 (least : Int), .pointer (some ⟨bm, i, none⟩), .pointer (some ⟨bm, j, none⟩)] w fun e w' => (∃ v, e = .returned v) ∧ markRes hasv (partOf least x.data.toList) br bm i j C w w' := by
  have hN := number_any x w hs
  obtain ⟨L, hL⟩ : ∃ L, x.size = L := ⟨_, rfl⟩
  have hLl : x.data.toList.length = L := by rw [← hL]; simp
  obtain ⟨o, ho⟩ : ∃ o, CtxMath.hexNum x.data.toList = o := ⟨_, rfl⟩
  rw [ho] at hN
  cases hasv with
  | true =>
    replace hN := hN.mono (R' := fun e w' => (∃ a b, e = .returned (.tuple #[.int .u64 a, .bool b])) ∧ Below w.heap.size w w') fun _ _ ⟨he, hb⟩ => ⟨by rw [he]; cases o <;> exact ⟨_, _, rfl⟩, hb⟩
    have fin : ∀ w', Below w.heap.size w w' → markRes true (partOf least x.data.toList) br bm i j C w (w'.setCell ⟨br, 0, none⟩ (.int .u16 31)) := fun w' h =>
      .inr ⟨.inl rfl, Boxed.set _ (h.block _ hB.lt |>.trans hB), (Only.ofBelow h).setCell _ (fun _ => rfl)⟩
    have HF := Lib.hid fin
    have HBx := Lib.hid hB
    have HCx := Lib.hid hC
    have HN := Lib.hid hN
    clear hN fin ho hLl hB hC
    go_enter Tryd.func50, Tryd.ntmps50
    go_wp2_with fail
    refine HN.out.mono ?_
    rintro e w1 ⟨⟨a, b, rfl⟩, hb⟩
    have c1 := (HCx.out.later hb).cell i hi
    have z1 : Boxed w1 br 72 (.int .u16 v) := (hb.block _ HBx.out.lt).trans HBx.out
    have c2 := z1.cell
    have c3 := z1.frozen
    have HB1 := Lib.hid hb
    clear hb z1
    go_wp2_with fail
    refine bodyPost_ret (results_none rfl _ _ _) rfl ?_
    exact ⟨⟨_, rfl⟩, HF.out _ HB1.out⟩
  | false =>
    cases o with
    | none =>
      dsimp only [numV] at hN
      have fin : ∀ w', Below w.heap.size w w' → markRes false (partOf least x.data.toList) br bm i j C w (w'.setCell ⟨br, 0, none⟩ (.int .u16 31)) := fun w' h =>
        .inr ⟨.inr (part_none ho), Boxed.set _ (h.block _ hB.lt |>.trans hB), (Only.ofBelow h).setCell _ (fun _ => rfl)⟩
      have HF := Lib.hid fin
      have HBx := Lib.hid hB
      have HCx := Lib.hid hC
      have HN := Lib.hid hN
      clear hN fin ho hLl hB hC
      go_enter Tryd.func50, Tryd.ntmps50
      go_wp2_with fail
      refine HN.out.mono ?_
      rintro e w1 ⟨rfl, hb⟩
      have c1 := (HCx.out.later hb).cell i hi
      have z1 : Boxed w1 br 72 (.int .u16 v) := (hb.block _ HBx.out.lt).trans HBx.out
      have c2 := z1.cell
      have c3 := z1.frozen
      have HB1 := Lib.hid hb
      clear hb z1
      go_wp2_with fail
      refine bodyPost_ret (results_none rfl _ _ _) rfl ?_
      exact ⟨⟨_, rfl⟩, HF.out _ HB1.out⟩
    | some n =>
      dsimp only [numV] at hN
      by_cases h1 : L < least
      · have d1 : decide (L < least) = true := by simp [h1]
        have fin : ∀ w', Below w.heap.size w w' → markRes false (partOf least x.data.toList) br bm i j C w (w'.setCell ⟨br, 0, none⟩ (.int .u16 31)) := fun w' h =>
          .inr ⟨.inr (part_short (by omega)), Boxed.set _ (h.block _ hB.lt |>.trans hB), (Only.ofBelow h).setCell _ (fun _ => rfl)⟩
        have HF := Lib.hid fin
        have HBx := Lib.hid hB
        have HCx := Lib.hid hC
        have HN := Lib.hid hN
        clear hN fin ho hLl hB hC
        go_enter Tryd.func50, Tryd.ntmps50
        go_wp2_with fail
        refine HN.out.mono ?_
        rintro e w1 ⟨rfl, hb⟩
        have c1 := (HCx.out.later hb).cell i hi
        have z1 : Boxed w1 br 72 (.int .u16 v) := (hb.block _ HBx.out.lt).trans HBx.out
        have c2 := z1.cell
        have c3 := z1.frozen
        have HB1 := Lib.hid hb
        clear hb z1
        go_wp2_with fail
        refine bodyPost_ret (results_none rfl _ _ _) rfl ?_
        exact ⟨⟨_, rfl⟩, HF.out _ HB1.out⟩
      · have d1 : decide (L < least) = false := by simp [h1]
        by_cases h2 : 14 < L
        · have d2 : decide (14 < L) = true := by simp [h2]
          have fin : ∀ w', Below w.heap.size w w' → markRes false (partOf least x.data.toList) br bm i j C w (w'.setCell ⟨br, 0, none⟩ (.int .u16 31)) := fun w' h =>
            .inr ⟨.inr (part_long (by omega)), Boxed.set _ (h.block _ hB.lt |>.trans hB), (Only.ofBelow h).setCell _ (fun _ => rfl)⟩
          have HF := Lib.hid fin
          have HBx := Lib.hid hB
          have HCx := Lib.hid hC
          have HN := Lib.hid hN
          clear hN fin ho hLl hB hC
          go_enter Tryd.func50, Tryd.ntmps50
          go_wp2_with fail
          refine HN.out.mono ?_
          rintro e w1 ⟨rfl, hb⟩
          have c1 := (HCx.out.later hb).cell i hi
          have z1 : Boxed w1 br 72 (.int .u16 v) := (hb.block _ HBx.out.lt).trans HBx.out
          have c2 := z1.cell
          have c3 := z1.frozen
          have HB1 := Lib.hid hb
          clear hb z1
          go_wp2_with fail
          refine bodyPost_ret (results_none rfl _ _ _) rfl ?_
          exact ⟨⟨_, rfl⟩, HF.out _ HB1.out⟩
        · have d2 : decide (14 < L) = false := by simp [h2]
          have hp := part_some ho (by omega : least ≤ _) (by omega)
          rw [hLl] at hp
          obtain ⟨z, hz, hz'⟩ : ∃ z : Nat, (14 : Int) - (L : Int) = (z : Int) ∧ z = 14 - L := ⟨14 - L, by omega, rfl⟩
          obtain ⟨y, hy, hy'⟩ : ∃ y : Nat, (4 : Int) * (z : Int) = (y : Int) ∧ y = 4 * (14 - L) := ⟨4 * (14 - L), by omega, rfl⟩
          have hy63 : y ≤ 63 := by omega
          rw [← hy'] at hp
          obtain ⟨u, hu, hu'⟩ : ∃ u : Nat, IntKind.u64.wrap ((n : Int) * 2 ^ y) = (u : Int) ∧ u = n * 2 ^ y % 18446744073709551616 := ⟨n * 2 ^ y % 18446744073709551616, shl_u n y, rfl⟩
          rw [← hu'] at hp
          have HP := Lib.hid hp
          have HBx := Lib.hid hB
          have HCx := Lib.hid hC
          have HN := Lib.hid hN
          clear hN ho hLl hB hC hp hz' hy' hu'
          go_enter Tryd.func50, Tryd.ntmps50
          go_wp2_with fail
          refine HN.out.mono ?_
          rintro e w1 ⟨rfl, hb⟩
          have k1 := HCx.out.later hb
          have c1 := k1.cell i hi
          have c2 := k1.free i
          have c3 := k1.free j
          have c4 := k1.cell j hj
          have HB1 := Lib.hid hb
          have HK := Lib.hid k1
          clear hb k1
          go_wp2_with fail
          go_region
          go_wp2_with fail
          go_end0
          exact ⟨⟨_, rfl⟩, .inl ⟨rfl, u, HP.out, (HK.out.set i _).set j _, Only.drew (T := fun k => k = bm) (Only.setCell (T := fun k => k = bm) (Only.setCell (T := fun k => k = bm) (Only.ofBelow HB1.out) (a := ⟨bm, i, none⟩) _ (fun _ => rfl)) (a := ⟨bm, j, none⟩) _ (fun _ => rfl))⟩⟩
end Go.Proofs.YtkfidolbbnmjfaaDoor
