/-
  What ctx.Parse tells, whatever the text.
-/
import Derived.Test.YtkfidolbbnmjfaaDoorCtxRead
import Derived.Test.YtkfidolbbnmjfaaDoorCtxRefNum
namespace Go.Proofs.YtkfidolbbnmjfaaDoor
open Go.RowKit Go.Proofs.CtxMath

/-- A parent's four numbers and the error. -/
def parseOf (cs : List UInt8) : Nat × Nat × Nat × Nat × Nat :=
  match readAll cs with
  | some [a, b, c, d] => if isPar a b c = true then (a, b, c, d % 256, 0) else (0, 0, 0, 0, 1)
  | _ => (0, 0, 0, 0, 31)
def parentV (p : Nat × Nat × Nat × Nat × Nat) (k : IntKind) : Value := .tuple #[.agg #[.int .u64 (p.1 : Int), .int .u64 (p.2.1 : Int), .int .u64 (p.2.2.1 : Int), .int .u8 (p.2.2.2.1 : Int)], .int k (p.2.2.2.2 : Int)]

set_option linter.unusedSimpArgs false in
set_option linter.unusedVariables false in
set_option maxRecDepth 100000 in
set_option maxHeartbeats 4000000 in
theorem parse_any (s : ByteArray) (w : World) (hS : Shape w) (hs : s.size ≤ 9223372036854775807) :
    Calls Tryd.prog 12 #[.string s] w fun e w' => e = .returned (parentV (parseOf s.data.toList) .u16) ∧ Below w.heap.size w w' := by
  obtain ⟨cs, hcs⟩ : ∃ cs, s.data.toList = cs := ⟨_, rfl⟩
  have hR := readNumbers_any s (w.alloc (.cells #[.int .u64 0, .int .u64 0, .int .u64 0, .int .u8 0] 33)) (hS.later (box_below _)) hs
  rw [hcs] at hR ⊢
  have HR := Lib.hid hR
  have HB0 := Lib.hid (box_below (W := w) (.cells #[.int .u64 0, .int .u64 0, .int .u64 0, .int .u8 0] 33))
  have HK0 := Lib.hid (blk_new w #[.int .u64 0, .int .u64 0, .int .u64 0, .int .u8 0] 33)
  clear hR hcs
  go_enter Tryd.func12, Tryd.ntmps12
  go_wp2_with fail
  refine HR.out.mono ?_
  rintro e w1 ⟨hb1, hT⟩
  have HB1 := Lib.hid (HB0.out.trans (hb1.mono HB0.out.size))
  have HK1 := Lib.hid (HK0.out.later hb1)
  clear hb1 HR HB0 HK0
  rcases hT with ⟨hN, x0, x1, x2, x3, rfl⟩ | ⟨x0, x1, x2, x3, hN, rfl⟩
  · have hp : parseOf cs = (0, 0, 0, 0, 31) := by unfold parseOf; rw [hN]
    have HP := Lib.hid hp
    have HB2 := Lib.hid (HB1.out.alloc HB1.out.size (.cells #[.int .u64 (x0 : Int), .int .u64 (x1 : Int), .int .u64 (x2 : Int), .int .u64 (x3 : Int)] 60))
    have HK2 := Lib.hid (HK1.out.later (box_below (.cells #[.int .u64 (x0 : Int), .int .u64 (x1 : Int), .int .u64 (x2 : Int), .int .u64 (x3 : Int)] 60)))
    clear hN hp
    go_wp2_with (refine wpList_store_row rfl 33 (.tmp 2) _ rfl w.heap.size #[.int .u64 0, .int .u64 0, .int .u64 0, .int .u8 0] rfl rfl 33 #[.int .u64 0, .int .u64 0, .int .u64 0, .int .u8 0] HK2.out (by kernel_rfl) rfl (by simp [Value.oneCell']) ?_)
    have hrz := setRow_heap _ _ _ #[.int .u64 0, .int .u64 0, .int .u64 0, .int .u8 0] _ _ HK2.out
    have r0 := cell_of_row _ _ 0 _ _ _ hrz
    have r1 := cell_of_row _ _ 1 _ _ _ hrz
    have r2 := cell_of_row _ _ 2 _ _ _ hrz
    have r3 := cell_of_row _ _ 3 _ _ _ hrz
    exact bodyPost_ret (v := .tuple #[.agg #[.int .u64 0, .int .u64 0, .int .u64 0, .int .u8 0], .int .u16 31]) (by simp [results, Tryd.results12, go_sem, r0, r1, r2, r3]) rfl ⟨by rw [HP.out]; rfl, below_setRow HB2.out (Nat.le_refl _) _⟩
  · obtain ⟨d, hd, hd2⟩ : ∃ d : Nat, IntKind.u8.wrap (x3 : Int) = (d : Int) ∧ d = x3 % 256 := ⟨x3 % 256, by rw [IntKind.wrap_u8']; omega, rfl⟩
    have HK2 := Lib.hid ((HK1.out.later (box_below (.cells #[.int .u64 (x0 : Int), .int .u64 (x1 : Int), .int .u64 (x2 : Int), .int .u64 (x3 : Int)] 60))).later (box_below (.cells #[.int .u64 (x0 : Int), .int .u64 (x1 : Int), .int .u64 (x2 : Int), .int .u8 (d : Int)] 33)))
    have HB2 := Lib.hid ((HB1.out.alloc HB1.out.size (.cells #[.int .u64 (x0 : Int), .int .u64 (x1 : Int), .int .u64 (x2 : Int), .int .u64 (x3 : Int)] 60)).alloc (by rw [World.size_alloc]; have := HB1.out.size; omega) (.cells #[.int .u64 (x0 : Int), .int .u64 (x1 : Int), .int .u64 (x2 : Int), .int .u8 (d : Int)] 33))
    have HX := Lib.hid (blk_new (w1.alloc (.cells #[.int .u64 (x0 : Int), .int .u64 (x1 : Int), .int .u64 (x2 : Int), .int .u64 (x3 : Int)] 60)) #[.int .u64 (x0 : Int), .int .u64 (x1 : Int), .int .u64 (x2 : Int), .int .u8 (d : Int)] 33)
    cases hb : isPar x0 x1 x2 with
    | false =>
      have hp : parseOf cs = (0, 0, 0, 0, 1) := by unfold parseOf; rw [hN]; simp [hb]
      have HP := Lib.hid hp
      have HI := Lib.hid (fun W => isParent_any x0 x1 x2 d W false hb)
      clear hN hp hb hd2
      go_wp2_with fail
      refine (HI.out _).mono ?_
      rintro e w3 ⟨rfl, hb3⟩
      have HK3 := Lib.hid (HK2.out.later hb3)
      have HB3 := Lib.hid (HB2.out.trans (hb3.mono HB2.out.size))
      clear hb3
      go_wp2_with (refine wpList_store_row rfl 33 (.tmp 2) _ rfl w.heap.size #[.int .u64 0, .int .u64 0, .int .u64 0, .int .u8 0] rfl rfl 33 #[.int .u64 0, .int .u64 0, .int .u64 0, .int .u8 0] HK3.out (by kernel_rfl) rfl (by simp [Value.oneCell']) ?_)
      have hrz := setRow_heap _ _ _ #[.int .u64 0, .int .u64 0, .int .u64 0, .int .u8 0] _ _ HK3.out
      have r0 := cell_of_row _ _ 0 _ _ _ hrz
      have r1 := cell_of_row _ _ 1 _ _ _ hrz
      have r2 := cell_of_row _ _ 2 _ _ _ hrz
      have r3 := cell_of_row _ _ 3 _ _ _ hrz
      exact bodyPost_ret (v := .tuple #[.agg #[.int .u64 0, .int .u64 0, .int .u64 0, .int .u8 0], .int .u16 1]) (by simp [results, Tryd.results12, go_sem, r0, r1, r2, r3]) rfl ⟨by rw [HP.out]; rfl, below_setRow HB3.out (Nat.le_refl _) _⟩
    | true =>
      have hp : parseOf cs = (x0, x1, x2, d, 0) := by unfold parseOf; rw [hN]; simp [hb, hd2]
      have HP := Lib.hid hp
      have HI := Lib.hid (fun W => isParent_any x0 x1 x2 d W true hb)
      clear hN hp hb hd2
      go_wp2_with fail
      refine (HI.out _).mono ?_
      rintro e w3 ⟨rfl, hb3⟩
      have HK3 := Lib.hid (HK2.out.later hb3)
      have HB3 := Lib.hid (HB2.out.trans (hb3.mono HB2.out.size))
      have hX3 := HX.out.later hb3
      have e2 : (w1.alloc (.cells #[.int .u64 (x0 : Int), .int .u64 (x1 : Int), .int .u64 (x2 : Int), .int .u64 (x3 : Int)] 60)).heap.size = w1.heap.size + 1 := by simp
      rw [e2] at hX3
      have z0 : w3.cell? ⟨w1.heap.size + 1, 0, none⟩ = some (.int .u64 (x0 : Int)) := hX3.cell 0 rfl
      have z1 : w3.cell? ⟨w1.heap.size + 1, 1, none⟩ = some (.int .u64 (x1 : Int)) := hX3.cell 1 rfl
      have z2 : w3.cell? ⟨w1.heap.size + 1, 2, none⟩ = some (.int .u64 (x2 : Int)) := hX3.cell 2 rfl
      have z3 : w3.cell? ⟨w1.heap.size + 1, 3, none⟩ = some (.int .u8 (d : Int)) := hX3.cell 3 rfl
      clear hb3 hX3 e2
      go_wp2_with (refine wpList_store_row rfl 33 (.tmp 2) _ rfl w.heap.size #[.int .u64 (x0 : Int), .int .u64 (x1 : Int), .int .u64 (x2 : Int), .int .u8 (d : Int)] rfl rfl 33 #[.int .u64 0, .int .u64 0, .int .u64 0, .int .u8 0] HK3.out (by kernel_rfl) rfl (by simp [Value.oneCell']) ?_)
      have hrz := setRow_heap _ _ _ #[.int .u64 (x0 : Int), .int .u64 (x1 : Int), .int .u64 (x2 : Int), .int .u8 (d : Int)] _ _ HK3.out
      have r0 := cell_of_row _ _ 0 _ _ _ hrz
      have r1 := cell_of_row _ _ 1 _ _ _ hrz
      have r2 := cell_of_row _ _ 2 _ _ _ hrz
      have r3 := cell_of_row _ _ 3 _ _ _ hrz
      exact bodyPost_ret (v := .tuple #[.agg #[.int .u64 (x0 : Int), .int .u64 (x1 : Int), .int .u64 (x2 : Int), .int .u8 (d : Int)], .int .u16 0]) (by simp [results, Tryd.results12, go_sem, r0, r1, r2, r3]) rfl ⟨by rw [HP.out]; rfl, below_setRow HB3.out (Nat.le_refl _) _⟩
end Go.Proofs.YtkfidolbbnmjfaaDoor
