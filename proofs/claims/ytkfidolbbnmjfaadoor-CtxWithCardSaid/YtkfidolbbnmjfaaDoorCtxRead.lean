/-
  What ctx.readNumbers tells, whatever the text: the four numbers of a parent's shape, or that it has none.
-/
import Derived.Test.YtkfidolbbnmjfaaDoorCtxNum
import Derived.Test.YtkfidolbbnmjfaaDoorCtxLaid
import Derived.Test.YtkfidolbbnmjfaaDoorBlk0
namespace Go.Proofs.YtkfidolbbnmjfaaDoor
open Go.RowKit Go.Proofs.CtxMath

/-- What is read piece by piece. -/
def readFrom : List (List UInt8 × Nat) → List Nat → List UInt8 → Option (List Nat)
  | [], acc, t => if t = [] then some acc else none
  | q :: r, acc, t => match piece q.1 q.2 t with
    | none => none
    | some (a, t') => readFrom r (acc ++ [a]) t'
def shapeL : List (List UInt8 × Nat) := [([48, 48, 45], 16), ([], 16), ([45], 16), ([45], 2)]
def readAll (cs : List UInt8) : Option (List Nat) := readFrom shapeL [] cs
theorem piece_none {ahead t : List UInt8} {size : Nat} (h : ¬ ahead.isPrefixOf t = true) : piece ahead size t = none := if_neg h
theorem piece_short {ahead t : List UInt8} {size : Nat} (h : ahead.isPrefixOf t = true) (hl : (t.drop ahead.length).length < size) : piece ahead size t = none := by unfold piece; rw [if_pos h, if_pos hl]
theorem piece_bad {ahead t : List UInt8} {size : Nat} (h : ahead.isPrefixOf t = true) (hl : ¬ (t.drop ahead.length).length < size) (hn : hexNum ((t.drop ahead.length).take size) = none) : piece ahead size t = none := by unfold piece; rw [if_pos h, if_neg hl, hn]; rfl
theorem piece_ok {ahead t : List UInt8} {size a : Nat} (h : ahead.isPrefixOf t = true) (hl : ¬ (t.drop ahead.length).length < size) (hn : hexNum ((t.drop ahead.length).take size) = some a) : piece ahead size t = some (a, (t.drop ahead.length).drop size) := by unfold piece; rw [if_pos h, if_neg hl, hn]; rfl
theorem from_none {q : List UInt8 × Nat} {r : List (List UInt8 × Nat)} {acc : List Nat} {t : List UInt8} (h : piece q.1 q.2 t = none) : readFrom (q :: r) acc t = none := by rw [readFrom, h]
theorem from_some {q : List UInt8 × Nat} {r : List (List UInt8 × Nat)} {acc : List Nat} {t t' : List UInt8} {a : Nat} (h : piece q.1 q.2 t = some (a, t')) : readFrom (q :: r) acc t = readFrom r (acc ++ [a]) t' := by rw [readFrom, h]

theorem cut_yes (t q : ByteArray) (h : q.data.toList.isPrefixOf t.data.toList = true) : ∃ t1 : ByteArray, t1.data.toList = t.data.toList.drop q.data.toList.length ∧
    ∀ W, Calls Tryd.prog 40 #[.string t, .string q] W fun e w' => e = .returned (.tuple #[.string t1, .bool true]) ∧ W = w' :=
  ⟨⟨(t.data.toList.drop q.data.toList.length).toArray⟩, by simp, fun W => (Tryd.strings_CutPrefix t q W).mono fun e w' ⟨he, hw⟩ => ⟨by
    rw [he]
    have : Lib.hasPrefix t.data.toList q.data.toList = true := h
    unfold Lib.trimPrefix
    rw [this, if_pos rfl], hw.symm⟩⟩
theorem cut_no (t q : ByteArray) (h : ¬ q.data.toList.isPrefixOf t.data.toList = true) :
    ∀ W, Calls Tryd.prog 40 #[.string t, .string q] W fun e w' => e = .returned (.tuple #[.string t, .bool false]) ∧ W = w' :=
  fun W => (Tryd.strings_CutPrefix t q W).mono fun e w' ⟨he, hw⟩ => ⟨by
    rw [he]
    have : Lib.hasPrefix t.data.toList q.data.toList = false := by
      show q.data.toList.isPrefixOf t.data.toList = false
      simpa using h
    unfold Lib.trimPrefix
    rw [this, if_neg (by simp)], hw.symm⟩

theorem idxS0 (W : World) : (Instr.index 66 (.agg #[.string ⟨#[48, 48, 45]⟩, .int .i64 16, .string ⟨#[]⟩, .int .i64 16, .string ⟨#[45]⟩, .int .i64 16, .string ⟨#[45]⟩, .int .i64 2]) (.int .i64 0)).run Tryd.prog W = .ok (.agg #[.string ⟨#[48, 48, 45]⟩, .int .i64 16]) W := by kernel_rfl
theorem idxS1 (W : World) : (Instr.index 66 (.agg #[.string ⟨#[48, 48, 45]⟩, .int .i64 16, .string ⟨#[]⟩, .int .i64 16, .string ⟨#[45]⟩, .int .i64 16, .string ⟨#[45]⟩, .int .i64 2]) (.int .i64 1)).run Tryd.prog W = .ok (.agg #[.string ⟨#[]⟩, .int .i64 16]) W := by kernel_rfl
theorem idxS2 (W : World) : (Instr.index 66 (.agg #[.string ⟨#[48, 48, 45]⟩, .int .i64 16, .string ⟨#[]⟩, .int .i64 16, .string ⟨#[45]⟩, .int .i64 16, .string ⟨#[45]⟩, .int .i64 2]) (.int .i64 2)).run Tryd.prog W = .ok (.agg #[.string ⟨#[45]⟩, .int .i64 16]) W := by kernel_rfl
theorem idxS3 (W : World) : (Instr.index 66 (.agg #[.string ⟨#[48, 48, 45]⟩, .int .i64 16, .string ⟨#[]⟩, .int .i64 16, .string ⟨#[45]⟩, .int .i64 16, .string ⟨#[45]⟩, .int .i64 2]) (.int .i64 3)).run Tryd.prog W = .ok (.agg #[.string ⟨#[45]⟩, .int .i64 2]) W := by kernel_rfl

/-- What is told. -/
def ReadTold (cs : List UInt8) (w : World) (e : Ending) (w' : World) : Prop :=
  Below w.heap.size w w' ∧ ((readAll cs = none ∧ ∃ x0 x1 x2 x3 : Nat, e = .returned (.tuple #[.agg #[.int .u64 (x0 : Int), .int .u64 (x1 : Int), .int .u64 (x2 : Int), .int .u64 (x3 : Int)], .bool false])) ∨
    ∃ x0 x1 x2 x3 : Nat, readAll cs = some [x0, x1, x2, x3] ∧ e = .returned (.tuple #[.agg #[.int .u64 (x0 : Int), .int .u64 (x1 : Int), .int .u64 (x2 : Int), .int .u64 (x3 : Int)], .bool true]))

set_option linter.unusedSimpArgs false in
set_option linter.unusedVariables false in
set_option maxRecDepth 100000 in
set_option maxHeartbeats 8000000 in
theorem readNumbers_any (s : ByteArray) (w : World) (hS : Shape w) (hs : s.size ≤ 9223372036854775807) : Calls Tryd.prog 27 #[.string s] w (ReadTold s.data.toList w) := by
  obtain ⟨cs, hcs⟩ : ∃ cs, s.data.toList = cs := ⟨_, rfl⟩
  have HCS := Lib.hid hcs
  rw [hcs]
  have HS := Lib.hid hS
  obtain ⟨c0, c1, c2, c3, c4, c5, c6, c7⟩ := (hS.later (box_below (.cells #[.int .u64 0, .int .u64 0, .int .u64 0, .int .u64 0] 60))).cells
  have hS0 := hS.lt
  clear hcs
  go_enter Tryd.func27, Tryd.ntmps27
  go_wp2_with fail
  go_loopw [0, 7] (fun sv iv wr => ∃ (k a0 a1 a2 a3 : Nat) (t : ByteArray), iv = .int .i64 (k : Int) ∧ sv = .string t ∧ t.size ≤ 9223372036854775807 ∧ Hid (Blk wr w.heap.size #[.int .u64 (a0 : Int), .int .u64 (a1 : Int), .int .u64 (a2 : Int), .int .u64 (a3 : Int)] 60) ∧ Hid (Below w.heap.size w wr) ∧
    (k = 0 ∧ a0 = 0 ∧ a1 = 0 ∧ a2 = 0 ∧ a3 = 0 ∧ Hid (readAll cs = readFrom shapeL [] t.data.toList) ∨ k = 1 ∧ a1 = 0 ∧ a2 = 0 ∧ a3 = 0 ∧ Hid (readAll cs = readFrom (shapeL.drop 1) [a0] t.data.toList) ∨
     k = 2 ∧ a2 = 0 ∧ a3 = 0 ∧ Hid (readAll cs = readFrom (shapeL.drop 2) [a0, a1] t.data.toList) ∨ k = 3 ∧ a3 = 0 ∧ Hid (readAll cs = readFrom (shapeL.drop 3) [a0, a1, a2] t.data.toList) ∨ k = 4 ∧ Hid (readAll cs = readFrom [] [a0, a1, a2, a3] t.data.toList))) (fun _ iv _ => 4 - (intOf iv).toNat)
  case atStart => exact ⟨0, 0, 0, 0, 0, s, rfl, rfl, hs, Lib.hid (blk_new w _ _), Lib.hid (box_below _), .inl ⟨rfl, rfl, rfl, rfl, rfl, Lib.hid (by rw [HCS.out]; rfl)⟩⟩
  case round =>
    obtain ⟨k, a0, a1, a2, a3, t, rfl, rfl, ht, HK, HB, hcase⟩ := hrel
    rcases hcase with ⟨rfl, rfl, rfl, rfl, rfl, HR⟩ | ⟨rfl, rfl, rfl, rfl, HR⟩ | ⟨rfl, rfl, rfl, HR⟩ | ⟨rfl, rfl, HR⟩ | ⟨rfl, HR⟩
    · have hix := idxS0 wr
      have hWs : w.heap.size < wr.heap.size := HK.out.lt
      have HKA := Lib.hid (HK.out.later (box_below (.cells #[.string ⟨#[48, 48, 45]⟩, .int .i64 16] 65)))
      have HBA := Lib.hid (HB.out.trans ((box_below (.cells #[.string ⟨#[48, 48, 45]⟩, .int .i64 16] 65)).mono HB.out.size))
      obtain ⟨l, hl⟩ : ∃ l, t.data.toList = l := ⟨_, rfl⟩
      have HR2 := HR.out
      rw [hl] at HR2
      have hll : l.length = t.size := by rw [← hl]; simp
      by_cases hp : ([48, 48, 45] : List UInt8).isPrefixOf l = true
      · obtain ⟨t1, ht1, hcut⟩ := cut_yes t ⟨#[48, 48, 45]⟩ (by rw [hl]; exact hp)
        have HCUT := Lib.hid hcut
        have ht1' : t1.data.toList = l.drop 3 := by rw [ht1, hl]; rfl
        have ht1s : t1.size = t.size - 3 := by rw [← size_list, ht1', List.length_drop, hll]
        by_cases hz : (t1.size : Int) < 16
        · have dz : decide ((t1.size : Int) < 16) = true := by simp; omega
          have HN := Lib.hid (HR2.trans (from_none (q := ([48, 48, 45], 16)) (piece_short hp (by rw [show (l.drop ([48, 48, 45] : List UInt8).length) = l.drop 3 from rfl, ← ht1', size_list]; omega))))
          clear hcut HR HR2 hp ht1 ht1' hl hll ht1s
          go_wp2_with fail
          refine (HCUT.out _).mono ?_
          rintro e w1 ⟨rfl, rfl⟩
          have q0 : (wr.alloc (.cells #[.string ⟨#[48, 48, 45]⟩, .int .i64 16] 65)).cell? ⟨w.heap.size, 0, none⟩ = some (.int .u64 0) := HKA.out.cell 0 rfl
          have q1 : (wr.alloc (.cells #[.string ⟨#[48, 48, 45]⟩, .int .i64 16] 65)).cell? ⟨w.heap.size, 1, none⟩ = some (.int .u64 0) := HKA.out.cell 1 rfl
          have q2 : (wr.alloc (.cells #[.string ⟨#[48, 48, 45]⟩, .int .i64 16] 65)).cell? ⟨w.heap.size, 2, none⟩ = some (.int .u64 0) := HKA.out.cell 2 rfl
          have q3 : (wr.alloc (.cells #[.string ⟨#[48, 48, 45]⟩, .int .i64 16] 65)).cell? ⟨w.heap.size, 3, none⟩ = some (.int .u64 0) := HKA.out.cell 3 rfl
          go_wp2_with (refine wpList_store_row rfl 60 (.tmp 2) _ rfl w.heap.size #[.int .u64 0, .int .u64 0, .int .u64 0, .int .u64 0] rfl rfl 60 #[.int .u64 0, .int .u64 0, .int .u64 0, .int .u64 0] HKA.out (by kernel_rfl) rfl (by simp [Value.oneCell']) ?_)
          have hrz : Blk ((wr.alloc (.cells #[.string ⟨#[48, 48, 45]⟩, .int .i64 16] 65)).setRow w.heap.size #[.int .u64 0, .int .u64 0, .int .u64 0, .int .u64 0]) w.heap.size #[.int .u64 0, .int .u64 0, .int .u64 0, .int .u64 0] 60 := setRow_heap (wr.alloc (.cells #[.string ⟨#[48, 48, 45]⟩, .int .i64 16] 65)) _ _ _ _ _ HKA.out
          have r0 : ((wr.alloc (.cells #[.string ⟨#[48, 48, 45]⟩, .int .i64 16] 65)).setRow w.heap.size #[.int .u64 0, .int .u64 0, .int .u64 0, .int .u64 0]).cell? ⟨w.heap.size, 0, none⟩ = some (.int .u64 0) := hrz.cell 0 rfl
          have r1 : ((wr.alloc (.cells #[.string ⟨#[48, 48, 45]⟩, .int .i64 16] 65)).setRow w.heap.size #[.int .u64 0, .int .u64 0, .int .u64 0, .int .u64 0]).cell? ⟨w.heap.size, 1, none⟩ = some (.int .u64 0) := hrz.cell 1 rfl
          have r2 : ((wr.alloc (.cells #[.string ⟨#[48, 48, 45]⟩, .int .i64 16] 65)).setRow w.heap.size #[.int .u64 0, .int .u64 0, .int .u64 0, .int .u64 0]).cell? ⟨w.heap.size, 2, none⟩ = some (.int .u64 0) := hrz.cell 2 rfl
          have r3 : ((wr.alloc (.cells #[.string ⟨#[48, 48, 45]⟩, .int .i64 16] 65)).setRow w.heap.size #[.int .u64 0, .int .u64 0, .int .u64 0, .int .u64 0]).cell? ⟨w.heap.size, 3, none⟩ = some (.int .u64 0) := hrz.cell 3 rfl
          exact bodyPost_ret (v := .tuple #[.agg #[.int .u64 0, .int .u64 0, .int .u64 0, .int .u64 0], .bool false]) (by simp [results, Tryd.results27, go_sem, r0, r1, r2, r3]) rfl ⟨below_setRow HBA.out (Nat.le_refl _) _, .inl ⟨HN.out, 0, 0, 0, 0, rfl⟩⟩
        · have dz : decide ((t1.size : Int) < 16) = false := by simp; omega
          obtain ⟨u1, hu1⟩ : ∃ u1, t1.extract 0 16 = u1 := ⟨_, rfl⟩
          obtain ⟨u2, hu2⟩ : ∃ u2, t1.extract 16 t1.size = u2 := ⟨_, rfl⟩
          have hu1' : u1.data.toList = (l.drop 3).take 16 := by rw [← hu1, ext_list, ht1']; rfl
          have hu2' : u2.data.toList = (l.drop 3).drop 16 := by rw [← hu2, ext_list, ← size_list, List.take_length, ht1']
          have hu1s : u1.size ≤ 9223372036854775807 := by rw [← size_list, hu1', List.length_take]; omega
          have hu2s : u2.size ≤ 9223372036854775807 := by rw [← size_list, hu2', List.length_drop, List.length_drop, hll]; omega
          have hnum := number_any u1 (wr.alloc (.cells #[.string ⟨#[48, 48, 45]⟩, .int .i64 16] 65)) hu1s
          rw [hu1'] at hnum
          cases hx : hexNum ((l.drop 3).take 16) with
          | none =>
            have HN := Lib.hid (HR2.trans (from_none (q := ([48, 48, 45], 16)) (piece_bad hp (by rw [show (l.drop ([48, 48, 45] : List UInt8).length) = l.drop 3 from rfl, ← ht1', size_list]; omega) hx)))
            rw [hx] at hnum
            unfold numV at hnum
            have HNUM := Lib.hid hnum
            clear hcut HR HR2 hp ht1 ht1' hl hll hu1' hu2' hnum hx hu2 ht1s
            go_wp2_with fail
            refine (HCUT.out _).mono ?_
            rintro e w1 ⟨rfl, rfl⟩
            go_wp2_with fail
            refine HNUM.out.mono ?_
            rintro e w3 ⟨rfl, hb3⟩
            have HK3 := Lib.hid (HKA.out.later hb3)
            have HB3 := Lib.hid (HBA.out.trans (hb3.mono HBA.out.size))
            have z0 : w3.cell? ⟨w.heap.size, 0, none⟩ = some (.int .u64 0) := HK3.out.cell 0 rfl
            have y0 := HK3.out.free 0
            have HK4 : Hid (Blk (w3.setCell ⟨w.heap.size, 0, none⟩ (.int .u64 0)) w.heap.size #[.int .u64 0, .int .u64 0, .int .u64 0, .int .u64 0] 60) := Lib.hid (HK3.out.set 0 (.int .u64 0))
            have HB4 := Lib.hid (HB3.out.setCell (p := ⟨w.heap.size, 0, none⟩) (Nat.le_refl _) (.int .u64 0))
            clear hb3
            have q0 : (w3.setCell ⟨w.heap.size, 0, none⟩ (.int .u64 0)).cell? ⟨w.heap.size, 0, none⟩ = some (.int .u64 0) := HK4.out.cell 0 rfl
            have q1 : (w3.setCell ⟨w.heap.size, 0, none⟩ (.int .u64 0)).cell? ⟨w.heap.size, 1, none⟩ = some (.int .u64 0) := HK4.out.cell 1 rfl
            have q2 : (w3.setCell ⟨w.heap.size, 0, none⟩ (.int .u64 0)).cell? ⟨w.heap.size, 2, none⟩ = some (.int .u64 0) := HK4.out.cell 2 rfl
            have q3 : (w3.setCell ⟨w.heap.size, 0, none⟩ (.int .u64 0)).cell? ⟨w.heap.size, 3, none⟩ = some (.int .u64 0) := HK4.out.cell 3 rfl
            go_wp2_with (refine wpList_store_row rfl 60 (.tmp 2) _ rfl w.heap.size #[.int .u64 0, .int .u64 0, .int .u64 0, .int .u64 0] rfl rfl 60 #[.int .u64 0, .int .u64 0, .int .u64 0, .int .u64 0] HK4.out (by kernel_rfl) rfl (by simp [Value.oneCell']) ?_)
            have hrz : Blk ((w3.setCell ⟨w.heap.size, 0, none⟩ (.int .u64 0)).setRow w.heap.size #[.int .u64 0, .int .u64 0, .int .u64 0, .int .u64 0]) w.heap.size #[.int .u64 0, .int .u64 0, .int .u64 0, .int .u64 0] 60 := setRow_heap (w3.setCell ⟨w.heap.size, 0, none⟩ (.int .u64 0)) _ _ _ _ _ HK4.out
            have r0 : ((w3.setCell ⟨w.heap.size, 0, none⟩ (.int .u64 0)).setRow w.heap.size #[.int .u64 0, .int .u64 0, .int .u64 0, .int .u64 0]).cell? ⟨w.heap.size, 0, none⟩ = some (.int .u64 0) := hrz.cell 0 rfl
            have r1 : ((w3.setCell ⟨w.heap.size, 0, none⟩ (.int .u64 0)).setRow w.heap.size #[.int .u64 0, .int .u64 0, .int .u64 0, .int .u64 0]).cell? ⟨w.heap.size, 1, none⟩ = some (.int .u64 0) := hrz.cell 1 rfl
            have r2 : ((w3.setCell ⟨w.heap.size, 0, none⟩ (.int .u64 0)).setRow w.heap.size #[.int .u64 0, .int .u64 0, .int .u64 0, .int .u64 0]).cell? ⟨w.heap.size, 2, none⟩ = some (.int .u64 0) := hrz.cell 2 rfl
            have r3 : ((w3.setCell ⟨w.heap.size, 0, none⟩ (.int .u64 0)).setRow w.heap.size #[.int .u64 0, .int .u64 0, .int .u64 0, .int .u64 0]).cell? ⟨w.heap.size, 3, none⟩ = some (.int .u64 0) := hrz.cell 3 rfl
            exact bodyPost_ret (v := .tuple #[.agg #[.int .u64 0, .int .u64 0, .int .u64 0, .int .u64 0], .bool false]) (by simp [results, Tryd.results27, go_sem, r0, r1, r2, r3]) rfl ⟨below_setRow HB4.out (Nat.le_refl _) _, .inl ⟨HN.out, 0, 0, 0, 0, rfl⟩⟩
          | some a0 =>
            have HN := Lib.hid (HR2.trans (from_some (q := ([48, 48, 45], 16)) (piece_ok hp (by rw [show (l.drop ([48, 48, 45] : List UInt8).length) = l.drop 3 from rfl, ← ht1', size_list]; omega) hx)))
            rw [hx] at hnum
            unfold numV at hnum
            have HNUM := Lib.hid hnum
            have HU2 : Hid (readAll cs = readFrom (shapeL.drop 1) [a0] u2.data.toList) := Lib.hid (by rw [hu2']; exact HN.out)
            clear hcut HR HR2 hp ht1 ht1' hl hll hu1' hu2' hnum hx HN ht1s
            go_wp2_with fail
            refine (HCUT.out _).mono ?_
            rintro e w1 ⟨rfl, rfl⟩
            go_wp2_with fail
            refine HNUM.out.mono ?_
            rintro e w3 ⟨rfl, hb3⟩
            have HK3 := Lib.hid (HKA.out.later hb3)
            have HB3 := Lib.hid (HBA.out.trans (hb3.mono HBA.out.size))
            have HP3 := Lib.hid ((blk_new wr #[.string ⟨#[48, 48, 45]⟩, .int .i64 16] 65).later hb3)
            have z0 : w3.cell? ⟨w.heap.size, 0, none⟩ = some (.int .u64 0) := HK3.out.cell 0 rfl
            have y0 := HK3.out.free 0
            have hpl := HP3.out.lt
            have hpc : (w3.setCell ⟨w.heap.size, 0, none⟩ (.int .u64 (a0 : Int))).cell? ⟨wr.heap.size, 1, none⟩ = some (.int .i64 16) := (World.cell?_of_block (Below.heap_setCell w3 ⟨w.heap.size, 0, none⟩ _ _ (by show wr.heap.size ≠ w.heap.size; omega))).trans (HP3.out.cell 1 rfl)
            have HK4 : Hid (Blk (w3.setCell ⟨w.heap.size, 0, none⟩ (.int .u64 (a0 : Int))) w.heap.size #[.int .u64 (a0 : Int), .int .u64 (0 : Int), .int .u64 (0 : Int), .int .u64 (0 : Int)] 60) := Lib.hid (HK3.out.set 0 (.int .u64 (a0 : Int)))
            have HB4 := Lib.hid (HB3.out.setCell (p := ⟨w.heap.size, 0, none⟩) (Nat.le_refl _) (.int .u64 (a0 : Int)))
            clear hb3
            go_wp2_with fail
            go_roundw
            case rel => exact ⟨1, a0, 0, 0, 0, u2, rfl, rfl, hu2s, HK4, HB4, .inr (.inl ⟨rfl, rfl, rfl, rfl, HU2⟩)⟩
            case measure => simp [intOf]
      · have HCUT := Lib.hid (cut_no t ⟨#[48, 48, 45]⟩ (by rw [hl]; exact hp))
        have HN := Lib.hid (HR2.trans (from_none (q := ([48, 48, 45], 16)) (piece_none hp)))
        clear HR HR2 hp hl hll
        go_wp2_with fail
        refine (HCUT.out _).mono ?_
        rintro e w1 ⟨rfl, rfl⟩
        have q0 : (wr.alloc (.cells #[.string ⟨#[48, 48, 45]⟩, .int .i64 16] 65)).cell? ⟨w.heap.size, 0, none⟩ = some (.int .u64 0) := HKA.out.cell 0 rfl
        have q1 : (wr.alloc (.cells #[.string ⟨#[48, 48, 45]⟩, .int .i64 16] 65)).cell? ⟨w.heap.size, 1, none⟩ = some (.int .u64 0) := HKA.out.cell 1 rfl
        have q2 : (wr.alloc (.cells #[.string ⟨#[48, 48, 45]⟩, .int .i64 16] 65)).cell? ⟨w.heap.size, 2, none⟩ = some (.int .u64 0) := HKA.out.cell 2 rfl
        have q3 : (wr.alloc (.cells #[.string ⟨#[48, 48, 45]⟩, .int .i64 16] 65)).cell? ⟨w.heap.size, 3, none⟩ = some (.int .u64 0) := HKA.out.cell 3 rfl
        go_wp2_with (refine wpList_store_row rfl 60 (.tmp 2) _ rfl w.heap.size #[.int .u64 0, .int .u64 0, .int .u64 0, .int .u64 0] rfl rfl 60 #[.int .u64 0, .int .u64 0, .int .u64 0, .int .u64 0] HKA.out (by kernel_rfl) rfl (by simp [Value.oneCell']) ?_)
        have hrz : Blk ((wr.alloc (.cells #[.string ⟨#[48, 48, 45]⟩, .int .i64 16] 65)).setRow w.heap.size #[.int .u64 0, .int .u64 0, .int .u64 0, .int .u64 0]) w.heap.size #[.int .u64 0, .int .u64 0, .int .u64 0, .int .u64 0] 60 := setRow_heap (wr.alloc (.cells #[.string ⟨#[48, 48, 45]⟩, .int .i64 16] 65)) _ _ _ _ _ HKA.out
        have r0 : ((wr.alloc (.cells #[.string ⟨#[48, 48, 45]⟩, .int .i64 16] 65)).setRow w.heap.size #[.int .u64 0, .int .u64 0, .int .u64 0, .int .u64 0]).cell? ⟨w.heap.size, 0, none⟩ = some (.int .u64 0) := hrz.cell 0 rfl
        have r1 : ((wr.alloc (.cells #[.string ⟨#[48, 48, 45]⟩, .int .i64 16] 65)).setRow w.heap.size #[.int .u64 0, .int .u64 0, .int .u64 0, .int .u64 0]).cell? ⟨w.heap.size, 1, none⟩ = some (.int .u64 0) := hrz.cell 1 rfl
        have r2 : ((wr.alloc (.cells #[.string ⟨#[48, 48, 45]⟩, .int .i64 16] 65)).setRow w.heap.size #[.int .u64 0, .int .u64 0, .int .u64 0, .int .u64 0]).cell? ⟨w.heap.size, 2, none⟩ = some (.int .u64 0) := hrz.cell 2 rfl
        have r3 : ((wr.alloc (.cells #[.string ⟨#[48, 48, 45]⟩, .int .i64 16] 65)).setRow w.heap.size #[.int .u64 0, .int .u64 0, .int .u64 0, .int .u64 0]).cell? ⟨w.heap.size, 3, none⟩ = some (.int .u64 0) := hrz.cell 3 rfl
        exact bodyPost_ret (v := .tuple #[.agg #[.int .u64 0, .int .u64 0, .int .u64 0, .int .u64 0], .bool false]) (by simp [results, Tryd.results27, go_sem, r0, r1, r2, r3]) rfl ⟨below_setRow HBA.out (Nat.le_refl _) _, .inl ⟨HN.out, 0, 0, 0, 0, rfl⟩⟩
    · have hix := idxS1 wr
      have hWs : w.heap.size < wr.heap.size := HK.out.lt
      have HKA := Lib.hid (HK.out.later (box_below (.cells #[.string ⟨#[]⟩, .int .i64 16] 65)))
      have HBA := Lib.hid (HB.out.trans ((box_below (.cells #[.string ⟨#[]⟩, .int .i64 16] 65)).mono HB.out.size))
      obtain ⟨l, hl⟩ : ∃ l, t.data.toList = l := ⟨_, rfl⟩
      have HR2 := HR.out
      rw [hl] at HR2
      have hll : l.length = t.size := by rw [← hl]; simp
      by_cases hp : ([] : List UInt8).isPrefixOf l = true
      · obtain ⟨t1, ht1, hcut⟩ := cut_yes t ⟨#[]⟩ (by rw [hl]; exact hp)
        have HCUT := Lib.hid hcut
        have ht1' : t1.data.toList = l.drop 0 := by rw [ht1, hl]; rfl
        have ht1s : t1.size = t.size - 0 := by rw [← size_list, ht1', List.length_drop, hll]
        by_cases hz : (t1.size : Int) < 16
        · have dz : decide ((t1.size : Int) < 16) = true := by simp; omega
          have HN := Lib.hid (HR2.trans (from_none (q := ([], 16)) (piece_short hp (by rw [show (l.drop ([] : List UInt8).length) = l.drop 0 from rfl, ← ht1', size_list]; omega))))
          clear hcut HR HR2 hp ht1 ht1' hl hll ht1s
          go_wp2_with fail
          refine (HCUT.out _).mono ?_
          rintro e w1 ⟨rfl, rfl⟩
          have q0 : (wr.alloc (.cells #[.string ⟨#[]⟩, .int .i64 16] 65)).cell? ⟨w.heap.size, 0, none⟩ = some (.int .u64 (a0 : Int)) := HKA.out.cell 0 rfl
          have q1 : (wr.alloc (.cells #[.string ⟨#[]⟩, .int .i64 16] 65)).cell? ⟨w.heap.size, 1, none⟩ = some (.int .u64 0) := HKA.out.cell 1 rfl
          have q2 : (wr.alloc (.cells #[.string ⟨#[]⟩, .int .i64 16] 65)).cell? ⟨w.heap.size, 2, none⟩ = some (.int .u64 0) := HKA.out.cell 2 rfl
          have q3 : (wr.alloc (.cells #[.string ⟨#[]⟩, .int .i64 16] 65)).cell? ⟨w.heap.size, 3, none⟩ = some (.int .u64 0) := HKA.out.cell 3 rfl
          go_wp2_with (refine wpList_store_row rfl 60 (.tmp 2) _ rfl w.heap.size #[.int .u64 (a0 : Int), .int .u64 0, .int .u64 0, .int .u64 0] rfl rfl 60 #[.int .u64 (a0 : Int), .int .u64 0, .int .u64 0, .int .u64 0] HKA.out (by kernel_rfl) rfl (by simp [Value.oneCell']) ?_)
          have hrz : Blk ((wr.alloc (.cells #[.string ⟨#[]⟩, .int .i64 16] 65)).setRow w.heap.size #[.int .u64 (a0 : Int), .int .u64 0, .int .u64 0, .int .u64 0]) w.heap.size #[.int .u64 (a0 : Int), .int .u64 0, .int .u64 0, .int .u64 0] 60 := setRow_heap (wr.alloc (.cells #[.string ⟨#[]⟩, .int .i64 16] 65)) _ _ _ _ _ HKA.out
          have r0 : ((wr.alloc (.cells #[.string ⟨#[]⟩, .int .i64 16] 65)).setRow w.heap.size #[.int .u64 (a0 : Int), .int .u64 0, .int .u64 0, .int .u64 0]).cell? ⟨w.heap.size, 0, none⟩ = some (.int .u64 (a0 : Int)) := hrz.cell 0 rfl
          have r1 : ((wr.alloc (.cells #[.string ⟨#[]⟩, .int .i64 16] 65)).setRow w.heap.size #[.int .u64 (a0 : Int), .int .u64 0, .int .u64 0, .int .u64 0]).cell? ⟨w.heap.size, 1, none⟩ = some (.int .u64 0) := hrz.cell 1 rfl
          have r2 : ((wr.alloc (.cells #[.string ⟨#[]⟩, .int .i64 16] 65)).setRow w.heap.size #[.int .u64 (a0 : Int), .int .u64 0, .int .u64 0, .int .u64 0]).cell? ⟨w.heap.size, 2, none⟩ = some (.int .u64 0) := hrz.cell 2 rfl
          have r3 : ((wr.alloc (.cells #[.string ⟨#[]⟩, .int .i64 16] 65)).setRow w.heap.size #[.int .u64 (a0 : Int), .int .u64 0, .int .u64 0, .int .u64 0]).cell? ⟨w.heap.size, 3, none⟩ = some (.int .u64 0) := hrz.cell 3 rfl
          exact bodyPost_ret (v := .tuple #[.agg #[.int .u64 (a0 : Int), .int .u64 0, .int .u64 0, .int .u64 0], .bool false]) (by simp [results, Tryd.results27, go_sem, r0, r1, r2, r3]) rfl ⟨below_setRow HBA.out (Nat.le_refl _) _, .inl ⟨HN.out, a0, 0, 0, 0, rfl⟩⟩
        · have dz : decide ((t1.size : Int) < 16) = false := by simp; omega
          obtain ⟨u1, hu1⟩ : ∃ u1, t1.extract 0 16 = u1 := ⟨_, rfl⟩
          obtain ⟨u2, hu2⟩ : ∃ u2, t1.extract 16 t1.size = u2 := ⟨_, rfl⟩
          have hu1' : u1.data.toList = (l.drop 0).take 16 := by rw [← hu1, ext_list, ht1']; rfl
          have hu2' : u2.data.toList = (l.drop 0).drop 16 := by rw [← hu2, ext_list, ← size_list, List.take_length, ht1']
          have hu1s : u1.size ≤ 9223372036854775807 := by rw [← size_list, hu1', List.length_take]; omega
          have hu2s : u2.size ≤ 9223372036854775807 := by rw [← size_list, hu2', List.length_drop, List.length_drop, hll]; omega
          have hnum := number_any u1 (wr.alloc (.cells #[.string ⟨#[]⟩, .int .i64 16] 65)) hu1s
          rw [hu1'] at hnum
          cases hx : hexNum ((l.drop 0).take 16) with
          | none =>
            have HN := Lib.hid (HR2.trans (from_none (q := ([], 16)) (piece_bad hp (by rw [show (l.drop ([] : List UInt8).length) = l.drop 0 from rfl, ← ht1', size_list]; omega) hx)))
            rw [hx] at hnum
            unfold numV at hnum
            have HNUM := Lib.hid hnum
            clear hcut HR HR2 hp ht1 ht1' hl hll hu1' hu2' hnum hx hu2 ht1s
            go_wp2_with fail
            refine (HCUT.out _).mono ?_
            rintro e w1 ⟨rfl, rfl⟩
            go_wp2_with fail
            refine HNUM.out.mono ?_
            rintro e w3 ⟨rfl, hb3⟩
            have HK3 := Lib.hid (HKA.out.later hb3)
            have HB3 := Lib.hid (HBA.out.trans (hb3.mono HBA.out.size))
            have z1 : w3.cell? ⟨w.heap.size, 1, none⟩ = some (.int .u64 0) := HK3.out.cell 1 rfl
            have y1 := HK3.out.free 1
            have HK4 : Hid (Blk (w3.setCell ⟨w.heap.size, 1, none⟩ (.int .u64 0)) w.heap.size #[.int .u64 (a0 : Int), .int .u64 0, .int .u64 0, .int .u64 0] 60) := Lib.hid (HK3.out.set 1 (.int .u64 0))
            have HB4 := Lib.hid (HB3.out.setCell (p := ⟨w.heap.size, 1, none⟩) (Nat.le_refl _) (.int .u64 0))
            clear hb3
            have q0 : (w3.setCell ⟨w.heap.size, 1, none⟩ (.int .u64 0)).cell? ⟨w.heap.size, 0, none⟩ = some (.int .u64 (a0 : Int)) := HK4.out.cell 0 rfl
            have q1 : (w3.setCell ⟨w.heap.size, 1, none⟩ (.int .u64 0)).cell? ⟨w.heap.size, 1, none⟩ = some (.int .u64 0) := HK4.out.cell 1 rfl
            have q2 : (w3.setCell ⟨w.heap.size, 1, none⟩ (.int .u64 0)).cell? ⟨w.heap.size, 2, none⟩ = some (.int .u64 0) := HK4.out.cell 2 rfl
            have q3 : (w3.setCell ⟨w.heap.size, 1, none⟩ (.int .u64 0)).cell? ⟨w.heap.size, 3, none⟩ = some (.int .u64 0) := HK4.out.cell 3 rfl
            go_wp2_with (refine wpList_store_row rfl 60 (.tmp 2) _ rfl w.heap.size #[.int .u64 (a0 : Int), .int .u64 0, .int .u64 0, .int .u64 0] rfl rfl 60 #[.int .u64 (a0 : Int), .int .u64 0, .int .u64 0, .int .u64 0] HK4.out (by kernel_rfl) rfl (by simp [Value.oneCell']) ?_)
            have hrz : Blk ((w3.setCell ⟨w.heap.size, 1, none⟩ (.int .u64 0)).setRow w.heap.size #[.int .u64 (a0 : Int), .int .u64 0, .int .u64 0, .int .u64 0]) w.heap.size #[.int .u64 (a0 : Int), .int .u64 0, .int .u64 0, .int .u64 0] 60 := setRow_heap (w3.setCell ⟨w.heap.size, 1, none⟩ (.int .u64 0)) _ _ _ _ _ HK4.out
            have r0 : ((w3.setCell ⟨w.heap.size, 1, none⟩ (.int .u64 0)).setRow w.heap.size #[.int .u64 (a0 : Int), .int .u64 0, .int .u64 0, .int .u64 0]).cell? ⟨w.heap.size, 0, none⟩ = some (.int .u64 (a0 : Int)) := hrz.cell 0 rfl
            have r1 : ((w3.setCell ⟨w.heap.size, 1, none⟩ (.int .u64 0)).setRow w.heap.size #[.int .u64 (a0 : Int), .int .u64 0, .int .u64 0, .int .u64 0]).cell? ⟨w.heap.size, 1, none⟩ = some (.int .u64 0) := hrz.cell 1 rfl
            have r2 : ((w3.setCell ⟨w.heap.size, 1, none⟩ (.int .u64 0)).setRow w.heap.size #[.int .u64 (a0 : Int), .int .u64 0, .int .u64 0, .int .u64 0]).cell? ⟨w.heap.size, 2, none⟩ = some (.int .u64 0) := hrz.cell 2 rfl
            have r3 : ((w3.setCell ⟨w.heap.size, 1, none⟩ (.int .u64 0)).setRow w.heap.size #[.int .u64 (a0 : Int), .int .u64 0, .int .u64 0, .int .u64 0]).cell? ⟨w.heap.size, 3, none⟩ = some (.int .u64 0) := hrz.cell 3 rfl
            exact bodyPost_ret (v := .tuple #[.agg #[.int .u64 (a0 : Int), .int .u64 0, .int .u64 0, .int .u64 0], .bool false]) (by simp [results, Tryd.results27, go_sem, r0, r1, r2, r3]) rfl ⟨below_setRow HB4.out (Nat.le_refl _) _, .inl ⟨HN.out, a0, 0, 0, 0, rfl⟩⟩
          | some a1 =>
            have HN := Lib.hid (HR2.trans (from_some (q := ([], 16)) (piece_ok hp (by rw [show (l.drop ([] : List UInt8).length) = l.drop 0 from rfl, ← ht1', size_list]; omega) hx)))
            rw [hx] at hnum
            unfold numV at hnum
            have HNUM := Lib.hid hnum
            have HU2 : Hid (readAll cs = readFrom (shapeL.drop 2) [a0, a1] u2.data.toList) := Lib.hid (by rw [hu2']; exact HN.out)
            clear hcut HR HR2 hp ht1 ht1' hl hll hu1' hu2' hnum hx HN ht1s
            go_wp2_with fail
            refine (HCUT.out _).mono ?_
            rintro e w1 ⟨rfl, rfl⟩
            go_wp2_with fail
            refine HNUM.out.mono ?_
            rintro e w3 ⟨rfl, hb3⟩
            have HK3 := Lib.hid (HKA.out.later hb3)
            have HB3 := Lib.hid (HBA.out.trans (hb3.mono HBA.out.size))
            have HP3 := Lib.hid ((blk_new wr #[.string ⟨#[]⟩, .int .i64 16] 65).later hb3)
            have z1 : w3.cell? ⟨w.heap.size, 1, none⟩ = some (.int .u64 0) := HK3.out.cell 1 rfl
            have y1 := HK3.out.free 1
            have hpl := HP3.out.lt
            have hpc : (w3.setCell ⟨w.heap.size, 1, none⟩ (.int .u64 (a1 : Int))).cell? ⟨wr.heap.size, 1, none⟩ = some (.int .i64 16) := (World.cell?_of_block (Below.heap_setCell w3 ⟨w.heap.size, 1, none⟩ _ _ (by show wr.heap.size ≠ w.heap.size; omega))).trans (HP3.out.cell 1 rfl)
            have HK4 : Hid (Blk (w3.setCell ⟨w.heap.size, 1, none⟩ (.int .u64 (a1 : Int))) w.heap.size #[.int .u64 (a0 : Int), .int .u64 (a1 : Int), .int .u64 (0 : Int), .int .u64 (0 : Int)] 60) := Lib.hid (HK3.out.set 1 (.int .u64 (a1 : Int)))
            have HB4 := Lib.hid (HB3.out.setCell (p := ⟨w.heap.size, 1, none⟩) (Nat.le_refl _) (.int .u64 (a1 : Int)))
            clear hb3
            go_wp2_with fail
            go_roundw
            case rel => exact ⟨2, a0, a1, 0, 0, u2, rfl, rfl, hu2s, HK4, HB4, .inr (.inr (.inl ⟨rfl, rfl, rfl, HU2⟩))⟩
            case measure => simp [intOf]
      · have HCUT := Lib.hid (cut_no t ⟨#[]⟩ (by rw [hl]; exact hp))
        have HN := Lib.hid (HR2.trans (from_none (q := ([], 16)) (piece_none hp)))
        clear HR HR2 hp hl hll
        go_wp2_with fail
        refine (HCUT.out _).mono ?_
        rintro e w1 ⟨rfl, rfl⟩
        have q0 : (wr.alloc (.cells #[.string ⟨#[]⟩, .int .i64 16] 65)).cell? ⟨w.heap.size, 0, none⟩ = some (.int .u64 (a0 : Int)) := HKA.out.cell 0 rfl
        have q1 : (wr.alloc (.cells #[.string ⟨#[]⟩, .int .i64 16] 65)).cell? ⟨w.heap.size, 1, none⟩ = some (.int .u64 0) := HKA.out.cell 1 rfl
        have q2 : (wr.alloc (.cells #[.string ⟨#[]⟩, .int .i64 16] 65)).cell? ⟨w.heap.size, 2, none⟩ = some (.int .u64 0) := HKA.out.cell 2 rfl
        have q3 : (wr.alloc (.cells #[.string ⟨#[]⟩, .int .i64 16] 65)).cell? ⟨w.heap.size, 3, none⟩ = some (.int .u64 0) := HKA.out.cell 3 rfl
        go_wp2_with (refine wpList_store_row rfl 60 (.tmp 2) _ rfl w.heap.size #[.int .u64 (a0 : Int), .int .u64 0, .int .u64 0, .int .u64 0] rfl rfl 60 #[.int .u64 (a0 : Int), .int .u64 0, .int .u64 0, .int .u64 0] HKA.out (by kernel_rfl) rfl (by simp [Value.oneCell']) ?_)
        have hrz : Blk ((wr.alloc (.cells #[.string ⟨#[]⟩, .int .i64 16] 65)).setRow w.heap.size #[.int .u64 (a0 : Int), .int .u64 0, .int .u64 0, .int .u64 0]) w.heap.size #[.int .u64 (a0 : Int), .int .u64 0, .int .u64 0, .int .u64 0] 60 := setRow_heap (wr.alloc (.cells #[.string ⟨#[]⟩, .int .i64 16] 65)) _ _ _ _ _ HKA.out
        have r0 : ((wr.alloc (.cells #[.string ⟨#[]⟩, .int .i64 16] 65)).setRow w.heap.size #[.int .u64 (a0 : Int), .int .u64 0, .int .u64 0, .int .u64 0]).cell? ⟨w.heap.size, 0, none⟩ = some (.int .u64 (a0 : Int)) := hrz.cell 0 rfl
        have r1 : ((wr.alloc (.cells #[.string ⟨#[]⟩, .int .i64 16] 65)).setRow w.heap.size #[.int .u64 (a0 : Int), .int .u64 0, .int .u64 0, .int .u64 0]).cell? ⟨w.heap.size, 1, none⟩ = some (.int .u64 0) := hrz.cell 1 rfl
        have r2 : ((wr.alloc (.cells #[.string ⟨#[]⟩, .int .i64 16] 65)).setRow w.heap.size #[.int .u64 (a0 : Int), .int .u64 0, .int .u64 0, .int .u64 0]).cell? ⟨w.heap.size, 2, none⟩ = some (.int .u64 0) := hrz.cell 2 rfl
        have r3 : ((wr.alloc (.cells #[.string ⟨#[]⟩, .int .i64 16] 65)).setRow w.heap.size #[.int .u64 (a0 : Int), .int .u64 0, .int .u64 0, .int .u64 0]).cell? ⟨w.heap.size, 3, none⟩ = some (.int .u64 0) := hrz.cell 3 rfl
        exact bodyPost_ret (v := .tuple #[.agg #[.int .u64 (a0 : Int), .int .u64 0, .int .u64 0, .int .u64 0], .bool false]) (by simp [results, Tryd.results27, go_sem, r0, r1, r2, r3]) rfl ⟨below_setRow HBA.out (Nat.le_refl _) _, .inl ⟨HN.out, a0, 0, 0, 0, rfl⟩⟩
    · have hix := idxS2 wr
      have hWs : w.heap.size < wr.heap.size := HK.out.lt
      have HKA := Lib.hid (HK.out.later (box_below (.cells #[.string ⟨#[45]⟩, .int .i64 16] 65)))
      have HBA := Lib.hid (HB.out.trans ((box_below (.cells #[.string ⟨#[45]⟩, .int .i64 16] 65)).mono HB.out.size))
      obtain ⟨l, hl⟩ : ∃ l, t.data.toList = l := ⟨_, rfl⟩
      have HR2 := HR.out
      rw [hl] at HR2
      have hll : l.length = t.size := by rw [← hl]; simp
      by_cases hp : ([45] : List UInt8).isPrefixOf l = true
      · obtain ⟨t1, ht1, hcut⟩ := cut_yes t ⟨#[45]⟩ (by rw [hl]; exact hp)
        have HCUT := Lib.hid hcut
        have ht1' : t1.data.toList = l.drop 1 := by rw [ht1, hl]; rfl
        have ht1s : t1.size = t.size - 1 := by rw [← size_list, ht1', List.length_drop, hll]
        by_cases hz : (t1.size : Int) < 16
        · have dz : decide ((t1.size : Int) < 16) = true := by simp; omega
          have HN := Lib.hid (HR2.trans (from_none (q := ([45], 16)) (piece_short hp (by rw [show (l.drop ([45] : List UInt8).length) = l.drop 1 from rfl, ← ht1', size_list]; omega))))
          clear hcut HR HR2 hp ht1 ht1' hl hll ht1s
          go_wp2_with fail
          refine (HCUT.out _).mono ?_
          rintro e w1 ⟨rfl, rfl⟩
          have q0 : (wr.alloc (.cells #[.string ⟨#[45]⟩, .int .i64 16] 65)).cell? ⟨w.heap.size, 0, none⟩ = some (.int .u64 (a0 : Int)) := HKA.out.cell 0 rfl
          have q1 : (wr.alloc (.cells #[.string ⟨#[45]⟩, .int .i64 16] 65)).cell? ⟨w.heap.size, 1, none⟩ = some (.int .u64 (a1 : Int)) := HKA.out.cell 1 rfl
          have q2 : (wr.alloc (.cells #[.string ⟨#[45]⟩, .int .i64 16] 65)).cell? ⟨w.heap.size, 2, none⟩ = some (.int .u64 0) := HKA.out.cell 2 rfl
          have q3 : (wr.alloc (.cells #[.string ⟨#[45]⟩, .int .i64 16] 65)).cell? ⟨w.heap.size, 3, none⟩ = some (.int .u64 0) := HKA.out.cell 3 rfl
          go_wp2_with (refine wpList_store_row rfl 60 (.tmp 2) _ rfl w.heap.size #[.int .u64 (a0 : Int), .int .u64 (a1 : Int), .int .u64 0, .int .u64 0] rfl rfl 60 #[.int .u64 (a0 : Int), .int .u64 (a1 : Int), .int .u64 0, .int .u64 0] HKA.out (by kernel_rfl) rfl (by simp [Value.oneCell']) ?_)
          have hrz : Blk ((wr.alloc (.cells #[.string ⟨#[45]⟩, .int .i64 16] 65)).setRow w.heap.size #[.int .u64 (a0 : Int), .int .u64 (a1 : Int), .int .u64 0, .int .u64 0]) w.heap.size #[.int .u64 (a0 : Int), .int .u64 (a1 : Int), .int .u64 0, .int .u64 0] 60 := setRow_heap (wr.alloc (.cells #[.string ⟨#[45]⟩, .int .i64 16] 65)) _ _ _ _ _ HKA.out
          have r0 : ((wr.alloc (.cells #[.string ⟨#[45]⟩, .int .i64 16] 65)).setRow w.heap.size #[.int .u64 (a0 : Int), .int .u64 (a1 : Int), .int .u64 0, .int .u64 0]).cell? ⟨w.heap.size, 0, none⟩ = some (.int .u64 (a0 : Int)) := hrz.cell 0 rfl
          have r1 : ((wr.alloc (.cells #[.string ⟨#[45]⟩, .int .i64 16] 65)).setRow w.heap.size #[.int .u64 (a0 : Int), .int .u64 (a1 : Int), .int .u64 0, .int .u64 0]).cell? ⟨w.heap.size, 1, none⟩ = some (.int .u64 (a1 : Int)) := hrz.cell 1 rfl
          have r2 : ((wr.alloc (.cells #[.string ⟨#[45]⟩, .int .i64 16] 65)).setRow w.heap.size #[.int .u64 (a0 : Int), .int .u64 (a1 : Int), .int .u64 0, .int .u64 0]).cell? ⟨w.heap.size, 2, none⟩ = some (.int .u64 0) := hrz.cell 2 rfl
          have r3 : ((wr.alloc (.cells #[.string ⟨#[45]⟩, .int .i64 16] 65)).setRow w.heap.size #[.int .u64 (a0 : Int), .int .u64 (a1 : Int), .int .u64 0, .int .u64 0]).cell? ⟨w.heap.size, 3, none⟩ = some (.int .u64 0) := hrz.cell 3 rfl
          exact bodyPost_ret (v := .tuple #[.agg #[.int .u64 (a0 : Int), .int .u64 (a1 : Int), .int .u64 0, .int .u64 0], .bool false]) (by simp [results, Tryd.results27, go_sem, r0, r1, r2, r3]) rfl ⟨below_setRow HBA.out (Nat.le_refl _) _, .inl ⟨HN.out, a0, a1, 0, 0, rfl⟩⟩
        · have dz : decide ((t1.size : Int) < 16) = false := by simp; omega
          obtain ⟨u1, hu1⟩ : ∃ u1, t1.extract 0 16 = u1 := ⟨_, rfl⟩
          obtain ⟨u2, hu2⟩ : ∃ u2, t1.extract 16 t1.size = u2 := ⟨_, rfl⟩
          have hu1' : u1.data.toList = (l.drop 1).take 16 := by rw [← hu1, ext_list, ht1']; rfl
          have hu2' : u2.data.toList = (l.drop 1).drop 16 := by rw [← hu2, ext_list, ← size_list, List.take_length, ht1']
          have hu1s : u1.size ≤ 9223372036854775807 := by rw [← size_list, hu1', List.length_take]; omega
          have hu2s : u2.size ≤ 9223372036854775807 := by rw [← size_list, hu2', List.length_drop, List.length_drop, hll]; omega
          have hnum := number_any u1 (wr.alloc (.cells #[.string ⟨#[45]⟩, .int .i64 16] 65)) hu1s
          rw [hu1'] at hnum
          cases hx : hexNum ((l.drop 1).take 16) with
          | none =>
            have HN := Lib.hid (HR2.trans (from_none (q := ([45], 16)) (piece_bad hp (by rw [show (l.drop ([45] : List UInt8).length) = l.drop 1 from rfl, ← ht1', size_list]; omega) hx)))
            rw [hx] at hnum
            unfold numV at hnum
            have HNUM := Lib.hid hnum
            clear hcut HR HR2 hp ht1 ht1' hl hll hu1' hu2' hnum hx hu2 ht1s
            go_wp2_with fail
            refine (HCUT.out _).mono ?_
            rintro e w1 ⟨rfl, rfl⟩
            go_wp2_with fail
            refine HNUM.out.mono ?_
            rintro e w3 ⟨rfl, hb3⟩
            have HK3 := Lib.hid (HKA.out.later hb3)
            have HB3 := Lib.hid (HBA.out.trans (hb3.mono HBA.out.size))
            have z2 : w3.cell? ⟨w.heap.size, 2, none⟩ = some (.int .u64 0) := HK3.out.cell 2 rfl
            have y2 := HK3.out.free 2
            have HK4 : Hid (Blk (w3.setCell ⟨w.heap.size, 2, none⟩ (.int .u64 0)) w.heap.size #[.int .u64 (a0 : Int), .int .u64 (a1 : Int), .int .u64 0, .int .u64 0] 60) := Lib.hid (HK3.out.set 2 (.int .u64 0))
            have HB4 := Lib.hid (HB3.out.setCell (p := ⟨w.heap.size, 2, none⟩) (Nat.le_refl _) (.int .u64 0))
            clear hb3
            have q0 : (w3.setCell ⟨w.heap.size, 2, none⟩ (.int .u64 0)).cell? ⟨w.heap.size, 0, none⟩ = some (.int .u64 (a0 : Int)) := HK4.out.cell 0 rfl
            have q1 : (w3.setCell ⟨w.heap.size, 2, none⟩ (.int .u64 0)).cell? ⟨w.heap.size, 1, none⟩ = some (.int .u64 (a1 : Int)) := HK4.out.cell 1 rfl
            have q2 : (w3.setCell ⟨w.heap.size, 2, none⟩ (.int .u64 0)).cell? ⟨w.heap.size, 2, none⟩ = some (.int .u64 0) := HK4.out.cell 2 rfl
            have q3 : (w3.setCell ⟨w.heap.size, 2, none⟩ (.int .u64 0)).cell? ⟨w.heap.size, 3, none⟩ = some (.int .u64 0) := HK4.out.cell 3 rfl
            go_wp2_with (refine wpList_store_row rfl 60 (.tmp 2) _ rfl w.heap.size #[.int .u64 (a0 : Int), .int .u64 (a1 : Int), .int .u64 0, .int .u64 0] rfl rfl 60 #[.int .u64 (a0 : Int), .int .u64 (a1 : Int), .int .u64 0, .int .u64 0] HK4.out (by kernel_rfl) rfl (by simp [Value.oneCell']) ?_)
            have hrz : Blk ((w3.setCell ⟨w.heap.size, 2, none⟩ (.int .u64 0)).setRow w.heap.size #[.int .u64 (a0 : Int), .int .u64 (a1 : Int), .int .u64 0, .int .u64 0]) w.heap.size #[.int .u64 (a0 : Int), .int .u64 (a1 : Int), .int .u64 0, .int .u64 0] 60 := setRow_heap (w3.setCell ⟨w.heap.size, 2, none⟩ (.int .u64 0)) _ _ _ _ _ HK4.out
            have r0 : ((w3.setCell ⟨w.heap.size, 2, none⟩ (.int .u64 0)).setRow w.heap.size #[.int .u64 (a0 : Int), .int .u64 (a1 : Int), .int .u64 0, .int .u64 0]).cell? ⟨w.heap.size, 0, none⟩ = some (.int .u64 (a0 : Int)) := hrz.cell 0 rfl
            have r1 : ((w3.setCell ⟨w.heap.size, 2, none⟩ (.int .u64 0)).setRow w.heap.size #[.int .u64 (a0 : Int), .int .u64 (a1 : Int), .int .u64 0, .int .u64 0]).cell? ⟨w.heap.size, 1, none⟩ = some (.int .u64 (a1 : Int)) := hrz.cell 1 rfl
            have r2 : ((w3.setCell ⟨w.heap.size, 2, none⟩ (.int .u64 0)).setRow w.heap.size #[.int .u64 (a0 : Int), .int .u64 (a1 : Int), .int .u64 0, .int .u64 0]).cell? ⟨w.heap.size, 2, none⟩ = some (.int .u64 0) := hrz.cell 2 rfl
            have r3 : ((w3.setCell ⟨w.heap.size, 2, none⟩ (.int .u64 0)).setRow w.heap.size #[.int .u64 (a0 : Int), .int .u64 (a1 : Int), .int .u64 0, .int .u64 0]).cell? ⟨w.heap.size, 3, none⟩ = some (.int .u64 0) := hrz.cell 3 rfl
            exact bodyPost_ret (v := .tuple #[.agg #[.int .u64 (a0 : Int), .int .u64 (a1 : Int), .int .u64 0, .int .u64 0], .bool false]) (by simp [results, Tryd.results27, go_sem, r0, r1, r2, r3]) rfl ⟨below_setRow HB4.out (Nat.le_refl _) _, .inl ⟨HN.out, a0, a1, 0, 0, rfl⟩⟩
          | some a2 =>
            have HN := Lib.hid (HR2.trans (from_some (q := ([45], 16)) (piece_ok hp (by rw [show (l.drop ([45] : List UInt8).length) = l.drop 1 from rfl, ← ht1', size_list]; omega) hx)))
            rw [hx] at hnum
            unfold numV at hnum
            have HNUM := Lib.hid hnum
            have HU2 : Hid (readAll cs = readFrom (shapeL.drop 3) [a0, a1, a2] u2.data.toList) := Lib.hid (by rw [hu2']; exact HN.out)
            clear hcut HR HR2 hp ht1 ht1' hl hll hu1' hu2' hnum hx HN ht1s
            go_wp2_with fail
            refine (HCUT.out _).mono ?_
            rintro e w1 ⟨rfl, rfl⟩
            go_wp2_with fail
            refine HNUM.out.mono ?_
            rintro e w3 ⟨rfl, hb3⟩
            have HK3 := Lib.hid (HKA.out.later hb3)
            have HB3 := Lib.hid (HBA.out.trans (hb3.mono HBA.out.size))
            have HP3 := Lib.hid ((blk_new wr #[.string ⟨#[45]⟩, .int .i64 16] 65).later hb3)
            have z2 : w3.cell? ⟨w.heap.size, 2, none⟩ = some (.int .u64 0) := HK3.out.cell 2 rfl
            have y2 := HK3.out.free 2
            have hpl := HP3.out.lt
            have hpc : (w3.setCell ⟨w.heap.size, 2, none⟩ (.int .u64 (a2 : Int))).cell? ⟨wr.heap.size, 1, none⟩ = some (.int .i64 16) := (World.cell?_of_block (Below.heap_setCell w3 ⟨w.heap.size, 2, none⟩ _ _ (by show wr.heap.size ≠ w.heap.size; omega))).trans (HP3.out.cell 1 rfl)
            have HK4 : Hid (Blk (w3.setCell ⟨w.heap.size, 2, none⟩ (.int .u64 (a2 : Int))) w.heap.size #[.int .u64 (a0 : Int), .int .u64 (a1 : Int), .int .u64 (a2 : Int), .int .u64 (0 : Int)] 60) := Lib.hid (HK3.out.set 2 (.int .u64 (a2 : Int)))
            have HB4 := Lib.hid (HB3.out.setCell (p := ⟨w.heap.size, 2, none⟩) (Nat.le_refl _) (.int .u64 (a2 : Int)))
            clear hb3
            go_wp2_with fail
            go_roundw
            case rel => exact ⟨3, a0, a1, a2, 0, u2, rfl, rfl, hu2s, HK4, HB4, .inr (.inr (.inr (.inl ⟨rfl, rfl, HU2⟩)))⟩
            case measure => simp [intOf]
      · have HCUT := Lib.hid (cut_no t ⟨#[45]⟩ (by rw [hl]; exact hp))
        have HN := Lib.hid (HR2.trans (from_none (q := ([45], 16)) (piece_none hp)))
        clear HR HR2 hp hl hll
        go_wp2_with fail
        refine (HCUT.out _).mono ?_
        rintro e w1 ⟨rfl, rfl⟩
        have q0 : (wr.alloc (.cells #[.string ⟨#[45]⟩, .int .i64 16] 65)).cell? ⟨w.heap.size, 0, none⟩ = some (.int .u64 (a0 : Int)) := HKA.out.cell 0 rfl
        have q1 : (wr.alloc (.cells #[.string ⟨#[45]⟩, .int .i64 16] 65)).cell? ⟨w.heap.size, 1, none⟩ = some (.int .u64 (a1 : Int)) := HKA.out.cell 1 rfl
        have q2 : (wr.alloc (.cells #[.string ⟨#[45]⟩, .int .i64 16] 65)).cell? ⟨w.heap.size, 2, none⟩ = some (.int .u64 0) := HKA.out.cell 2 rfl
        have q3 : (wr.alloc (.cells #[.string ⟨#[45]⟩, .int .i64 16] 65)).cell? ⟨w.heap.size, 3, none⟩ = some (.int .u64 0) := HKA.out.cell 3 rfl
        go_wp2_with (refine wpList_store_row rfl 60 (.tmp 2) _ rfl w.heap.size #[.int .u64 (a0 : Int), .int .u64 (a1 : Int), .int .u64 0, .int .u64 0] rfl rfl 60 #[.int .u64 (a0 : Int), .int .u64 (a1 : Int), .int .u64 0, .int .u64 0] HKA.out (by kernel_rfl) rfl (by simp [Value.oneCell']) ?_)
        have hrz : Blk ((wr.alloc (.cells #[.string ⟨#[45]⟩, .int .i64 16] 65)).setRow w.heap.size #[.int .u64 (a0 : Int), .int .u64 (a1 : Int), .int .u64 0, .int .u64 0]) w.heap.size #[.int .u64 (a0 : Int), .int .u64 (a1 : Int), .int .u64 0, .int .u64 0] 60 := setRow_heap (wr.alloc (.cells #[.string ⟨#[45]⟩, .int .i64 16] 65)) _ _ _ _ _ HKA.out
        have r0 : ((wr.alloc (.cells #[.string ⟨#[45]⟩, .int .i64 16] 65)).setRow w.heap.size #[.int .u64 (a0 : Int), .int .u64 (a1 : Int), .int .u64 0, .int .u64 0]).cell? ⟨w.heap.size, 0, none⟩ = some (.int .u64 (a0 : Int)) := hrz.cell 0 rfl
        have r1 : ((wr.alloc (.cells #[.string ⟨#[45]⟩, .int .i64 16] 65)).setRow w.heap.size #[.int .u64 (a0 : Int), .int .u64 (a1 : Int), .int .u64 0, .int .u64 0]).cell? ⟨w.heap.size, 1, none⟩ = some (.int .u64 (a1 : Int)) := hrz.cell 1 rfl
        have r2 : ((wr.alloc (.cells #[.string ⟨#[45]⟩, .int .i64 16] 65)).setRow w.heap.size #[.int .u64 (a0 : Int), .int .u64 (a1 : Int), .int .u64 0, .int .u64 0]).cell? ⟨w.heap.size, 2, none⟩ = some (.int .u64 0) := hrz.cell 2 rfl
        have r3 : ((wr.alloc (.cells #[.string ⟨#[45]⟩, .int .i64 16] 65)).setRow w.heap.size #[.int .u64 (a0 : Int), .int .u64 (a1 : Int), .int .u64 0, .int .u64 0]).cell? ⟨w.heap.size, 3, none⟩ = some (.int .u64 0) := hrz.cell 3 rfl
        exact bodyPost_ret (v := .tuple #[.agg #[.int .u64 (a0 : Int), .int .u64 (a1 : Int), .int .u64 0, .int .u64 0], .bool false]) (by simp [results, Tryd.results27, go_sem, r0, r1, r2, r3]) rfl ⟨below_setRow HBA.out (Nat.le_refl _) _, .inl ⟨HN.out, a0, a1, 0, 0, rfl⟩⟩
    · have hix := idxS3 wr
      have hWs : w.heap.size < wr.heap.size := HK.out.lt
      have HKA := Lib.hid (HK.out.later (box_below (.cells #[.string ⟨#[45]⟩, .int .i64 2] 65)))
      have HBA := Lib.hid (HB.out.trans ((box_below (.cells #[.string ⟨#[45]⟩, .int .i64 2] 65)).mono HB.out.size))
      obtain ⟨l, hl⟩ : ∃ l, t.data.toList = l := ⟨_, rfl⟩
      have HR2 := HR.out
      rw [hl] at HR2
      have hll : l.length = t.size := by rw [← hl]; simp
      by_cases hp : ([45] : List UInt8).isPrefixOf l = true
      · obtain ⟨t1, ht1, hcut⟩ := cut_yes t ⟨#[45]⟩ (by rw [hl]; exact hp)
        have HCUT := Lib.hid hcut
        have ht1' : t1.data.toList = l.drop 1 := by rw [ht1, hl]; rfl
        have ht1s : t1.size = t.size - 1 := by rw [← size_list, ht1', List.length_drop, hll]
        by_cases hz : (t1.size : Int) < 2
        · have dz : decide ((t1.size : Int) < 2) = true := by simp; omega
          have HN := Lib.hid (HR2.trans (from_none (q := ([45], 2)) (piece_short hp (by rw [show (l.drop ([45] : List UInt8).length) = l.drop 1 from rfl, ← ht1', size_list]; omega))))
          clear hcut HR HR2 hp ht1 ht1' hl hll ht1s
          go_wp2_with fail
          refine (HCUT.out _).mono ?_
          rintro e w1 ⟨rfl, rfl⟩
          have q0 : (wr.alloc (.cells #[.string ⟨#[45]⟩, .int .i64 2] 65)).cell? ⟨w.heap.size, 0, none⟩ = some (.int .u64 (a0 : Int)) := HKA.out.cell 0 rfl
          have q1 : (wr.alloc (.cells #[.string ⟨#[45]⟩, .int .i64 2] 65)).cell? ⟨w.heap.size, 1, none⟩ = some (.int .u64 (a1 : Int)) := HKA.out.cell 1 rfl
          have q2 : (wr.alloc (.cells #[.string ⟨#[45]⟩, .int .i64 2] 65)).cell? ⟨w.heap.size, 2, none⟩ = some (.int .u64 (a2 : Int)) := HKA.out.cell 2 rfl
          have q3 : (wr.alloc (.cells #[.string ⟨#[45]⟩, .int .i64 2] 65)).cell? ⟨w.heap.size, 3, none⟩ = some (.int .u64 0) := HKA.out.cell 3 rfl
          go_wp2_with (refine wpList_store_row rfl 60 (.tmp 2) _ rfl w.heap.size #[.int .u64 (a0 : Int), .int .u64 (a1 : Int), .int .u64 (a2 : Int), .int .u64 0] rfl rfl 60 #[.int .u64 (a0 : Int), .int .u64 (a1 : Int), .int .u64 (a2 : Int), .int .u64 0] HKA.out (by kernel_rfl) rfl (by simp [Value.oneCell']) ?_)
          have hrz : Blk ((wr.alloc (.cells #[.string ⟨#[45]⟩, .int .i64 2] 65)).setRow w.heap.size #[.int .u64 (a0 : Int), .int .u64 (a1 : Int), .int .u64 (a2 : Int), .int .u64 0]) w.heap.size #[.int .u64 (a0 : Int), .int .u64 (a1 : Int), .int .u64 (a2 : Int), .int .u64 0] 60 := setRow_heap (wr.alloc (.cells #[.string ⟨#[45]⟩, .int .i64 2] 65)) _ _ _ _ _ HKA.out
          have r0 : ((wr.alloc (.cells #[.string ⟨#[45]⟩, .int .i64 2] 65)).setRow w.heap.size #[.int .u64 (a0 : Int), .int .u64 (a1 : Int), .int .u64 (a2 : Int), .int .u64 0]).cell? ⟨w.heap.size, 0, none⟩ = some (.int .u64 (a0 : Int)) := hrz.cell 0 rfl
          have r1 : ((wr.alloc (.cells #[.string ⟨#[45]⟩, .int .i64 2] 65)).setRow w.heap.size #[.int .u64 (a0 : Int), .int .u64 (a1 : Int), .int .u64 (a2 : Int), .int .u64 0]).cell? ⟨w.heap.size, 1, none⟩ = some (.int .u64 (a1 : Int)) := hrz.cell 1 rfl
          have r2 : ((wr.alloc (.cells #[.string ⟨#[45]⟩, .int .i64 2] 65)).setRow w.heap.size #[.int .u64 (a0 : Int), .int .u64 (a1 : Int), .int .u64 (a2 : Int), .int .u64 0]).cell? ⟨w.heap.size, 2, none⟩ = some (.int .u64 (a2 : Int)) := hrz.cell 2 rfl
          have r3 : ((wr.alloc (.cells #[.string ⟨#[45]⟩, .int .i64 2] 65)).setRow w.heap.size #[.int .u64 (a0 : Int), .int .u64 (a1 : Int), .int .u64 (a2 : Int), .int .u64 0]).cell? ⟨w.heap.size, 3, none⟩ = some (.int .u64 0) := hrz.cell 3 rfl
          exact bodyPost_ret (v := .tuple #[.agg #[.int .u64 (a0 : Int), .int .u64 (a1 : Int), .int .u64 (a2 : Int), .int .u64 0], .bool false]) (by simp [results, Tryd.results27, go_sem, r0, r1, r2, r3]) rfl ⟨below_setRow HBA.out (Nat.le_refl _) _, .inl ⟨HN.out, a0, a1, a2, 0, rfl⟩⟩
        · have dz : decide ((t1.size : Int) < 2) = false := by simp; omega
          obtain ⟨u1, hu1⟩ : ∃ u1, t1.extract 0 2 = u1 := ⟨_, rfl⟩
          obtain ⟨u2, hu2⟩ : ∃ u2, t1.extract 2 t1.size = u2 := ⟨_, rfl⟩
          have hu1' : u1.data.toList = (l.drop 1).take 2 := by rw [← hu1, ext_list, ht1']; rfl
          have hu2' : u2.data.toList = (l.drop 1).drop 2 := by rw [← hu2, ext_list, ← size_list, List.take_length, ht1']
          have hu1s : u1.size ≤ 9223372036854775807 := by rw [← size_list, hu1', List.length_take]; omega
          have hu2s : u2.size ≤ 9223372036854775807 := by rw [← size_list, hu2', List.length_drop, List.length_drop, hll]; omega
          have hnum := number_any u1 (wr.alloc (.cells #[.string ⟨#[45]⟩, .int .i64 2] 65)) hu1s
          rw [hu1'] at hnum
          cases hx : hexNum ((l.drop 1).take 2) with
          | none =>
            have HN := Lib.hid (HR2.trans (from_none (q := ([45], 2)) (piece_bad hp (by rw [show (l.drop ([45] : List UInt8).length) = l.drop 1 from rfl, ← ht1', size_list]; omega) hx)))
            rw [hx] at hnum
            unfold numV at hnum
            have HNUM := Lib.hid hnum
            clear hcut HR HR2 hp ht1 ht1' hl hll hu1' hu2' hnum hx hu2 ht1s
            go_wp2_with fail
            refine (HCUT.out _).mono ?_
            rintro e w1 ⟨rfl, rfl⟩
            go_wp2_with fail
            refine HNUM.out.mono ?_
            rintro e w3 ⟨rfl, hb3⟩
            have HK3 := Lib.hid (HKA.out.later hb3)
            have HB3 := Lib.hid (HBA.out.trans (hb3.mono HBA.out.size))
            have z3 : w3.cell? ⟨w.heap.size, 3, none⟩ = some (.int .u64 0) := HK3.out.cell 3 rfl
            have y3 := HK3.out.free 3
            have HK4 : Hid (Blk (w3.setCell ⟨w.heap.size, 3, none⟩ (.int .u64 0)) w.heap.size #[.int .u64 (a0 : Int), .int .u64 (a1 : Int), .int .u64 (a2 : Int), .int .u64 0] 60) := Lib.hid (HK3.out.set 3 (.int .u64 0))
            have HB4 := Lib.hid (HB3.out.setCell (p := ⟨w.heap.size, 3, none⟩) (Nat.le_refl _) (.int .u64 0))
            clear hb3
            have q0 : (w3.setCell ⟨w.heap.size, 3, none⟩ (.int .u64 0)).cell? ⟨w.heap.size, 0, none⟩ = some (.int .u64 (a0 : Int)) := HK4.out.cell 0 rfl
            have q1 : (w3.setCell ⟨w.heap.size, 3, none⟩ (.int .u64 0)).cell? ⟨w.heap.size, 1, none⟩ = some (.int .u64 (a1 : Int)) := HK4.out.cell 1 rfl
            have q2 : (w3.setCell ⟨w.heap.size, 3, none⟩ (.int .u64 0)).cell? ⟨w.heap.size, 2, none⟩ = some (.int .u64 (a2 : Int)) := HK4.out.cell 2 rfl
            have q3 : (w3.setCell ⟨w.heap.size, 3, none⟩ (.int .u64 0)).cell? ⟨w.heap.size, 3, none⟩ = some (.int .u64 0) := HK4.out.cell 3 rfl
            go_wp2_with (refine wpList_store_row rfl 60 (.tmp 2) _ rfl w.heap.size #[.int .u64 (a0 : Int), .int .u64 (a1 : Int), .int .u64 (a2 : Int), .int .u64 0] rfl rfl 60 #[.int .u64 (a0 : Int), .int .u64 (a1 : Int), .int .u64 (a2 : Int), .int .u64 0] HK4.out (by kernel_rfl) rfl (by simp [Value.oneCell']) ?_)
            have hrz : Blk ((w3.setCell ⟨w.heap.size, 3, none⟩ (.int .u64 0)).setRow w.heap.size #[.int .u64 (a0 : Int), .int .u64 (a1 : Int), .int .u64 (a2 : Int), .int .u64 0]) w.heap.size #[.int .u64 (a0 : Int), .int .u64 (a1 : Int), .int .u64 (a2 : Int), .int .u64 0] 60 := setRow_heap (w3.setCell ⟨w.heap.size, 3, none⟩ (.int .u64 0)) _ _ _ _ _ HK4.out
            have r0 : ((w3.setCell ⟨w.heap.size, 3, none⟩ (.int .u64 0)).setRow w.heap.size #[.int .u64 (a0 : Int), .int .u64 (a1 : Int), .int .u64 (a2 : Int), .int .u64 0]).cell? ⟨w.heap.size, 0, none⟩ = some (.int .u64 (a0 : Int)) := hrz.cell 0 rfl
            have r1 : ((w3.setCell ⟨w.heap.size, 3, none⟩ (.int .u64 0)).setRow w.heap.size #[.int .u64 (a0 : Int), .int .u64 (a1 : Int), .int .u64 (a2 : Int), .int .u64 0]).cell? ⟨w.heap.size, 1, none⟩ = some (.int .u64 (a1 : Int)) := hrz.cell 1 rfl
            have r2 : ((w3.setCell ⟨w.heap.size, 3, none⟩ (.int .u64 0)).setRow w.heap.size #[.int .u64 (a0 : Int), .int .u64 (a1 : Int), .int .u64 (a2 : Int), .int .u64 0]).cell? ⟨w.heap.size, 2, none⟩ = some (.int .u64 (a2 : Int)) := hrz.cell 2 rfl
            have r3 : ((w3.setCell ⟨w.heap.size, 3, none⟩ (.int .u64 0)).setRow w.heap.size #[.int .u64 (a0 : Int), .int .u64 (a1 : Int), .int .u64 (a2 : Int), .int .u64 0]).cell? ⟨w.heap.size, 3, none⟩ = some (.int .u64 0) := hrz.cell 3 rfl
            exact bodyPost_ret (v := .tuple #[.agg #[.int .u64 (a0 : Int), .int .u64 (a1 : Int), .int .u64 (a2 : Int), .int .u64 0], .bool false]) (by simp [results, Tryd.results27, go_sem, r0, r1, r2, r3]) rfl ⟨below_setRow HB4.out (Nat.le_refl _) _, .inl ⟨HN.out, a0, a1, a2, 0, rfl⟩⟩
          | some a3 =>
            have HN := Lib.hid (HR2.trans (from_some (q := ([45], 2)) (piece_ok hp (by rw [show (l.drop ([45] : List UInt8).length) = l.drop 1 from rfl, ← ht1', size_list]; omega) hx)))
            rw [hx] at hnum
            unfold numV at hnum
            have HNUM := Lib.hid hnum
            have HU2 : Hid (readAll cs = readFrom [] [a0, a1, a2, a3] u2.data.toList) := Lib.hid (by rw [hu2']; exact HN.out)
            clear hcut HR HR2 hp ht1 ht1' hl hll hu1' hu2' hnum hx HN ht1s
            go_wp2_with fail
            refine (HCUT.out _).mono ?_
            rintro e w1 ⟨rfl, rfl⟩
            go_wp2_with fail
            refine HNUM.out.mono ?_
            rintro e w3 ⟨rfl, hb3⟩
            have HK3 := Lib.hid (HKA.out.later hb3)
            have HB3 := Lib.hid (HBA.out.trans (hb3.mono HBA.out.size))
            have HP3 := Lib.hid ((blk_new wr #[.string ⟨#[45]⟩, .int .i64 2] 65).later hb3)
            have z3 : w3.cell? ⟨w.heap.size, 3, none⟩ = some (.int .u64 0) := HK3.out.cell 3 rfl
            have y3 := HK3.out.free 3
            have hpl := HP3.out.lt
            have hpc : (w3.setCell ⟨w.heap.size, 3, none⟩ (.int .u64 (a3 : Int))).cell? ⟨wr.heap.size, 1, none⟩ = some (.int .i64 2) := (World.cell?_of_block (Below.heap_setCell w3 ⟨w.heap.size, 3, none⟩ _ _ (by show wr.heap.size ≠ w.heap.size; omega))).trans (HP3.out.cell 1 rfl)
            have HK4 : Hid (Blk (w3.setCell ⟨w.heap.size, 3, none⟩ (.int .u64 (a3 : Int))) w.heap.size #[.int .u64 (a0 : Int), .int .u64 (a1 : Int), .int .u64 (a2 : Int), .int .u64 (a3 : Int)] 60) := Lib.hid (HK3.out.set 3 (.int .u64 (a3 : Int)))
            have HB4 := Lib.hid (HB3.out.setCell (p := ⟨w.heap.size, 3, none⟩) (Nat.le_refl _) (.int .u64 (a3 : Int)))
            clear hb3
            go_wp2_with fail
            go_roundw
            case rel => exact ⟨4, a0, a1, a2, a3, u2, rfl, rfl, hu2s, HK4, HB4, .inr (.inr (.inr (.inr ⟨rfl, HU2⟩)))⟩
            case measure => simp [intOf]
      · have HCUT := Lib.hid (cut_no t ⟨#[45]⟩ (by rw [hl]; exact hp))
        have HN := Lib.hid (HR2.trans (from_none (q := ([45], 2)) (piece_none hp)))
        clear HR HR2 hp hl hll
        go_wp2_with fail
        refine (HCUT.out _).mono ?_
        rintro e w1 ⟨rfl, rfl⟩
        have q0 : (wr.alloc (.cells #[.string ⟨#[45]⟩, .int .i64 2] 65)).cell? ⟨w.heap.size, 0, none⟩ = some (.int .u64 (a0 : Int)) := HKA.out.cell 0 rfl
        have q1 : (wr.alloc (.cells #[.string ⟨#[45]⟩, .int .i64 2] 65)).cell? ⟨w.heap.size, 1, none⟩ = some (.int .u64 (a1 : Int)) := HKA.out.cell 1 rfl
        have q2 : (wr.alloc (.cells #[.string ⟨#[45]⟩, .int .i64 2] 65)).cell? ⟨w.heap.size, 2, none⟩ = some (.int .u64 (a2 : Int)) := HKA.out.cell 2 rfl
        have q3 : (wr.alloc (.cells #[.string ⟨#[45]⟩, .int .i64 2] 65)).cell? ⟨w.heap.size, 3, none⟩ = some (.int .u64 0) := HKA.out.cell 3 rfl
        go_wp2_with (refine wpList_store_row rfl 60 (.tmp 2) _ rfl w.heap.size #[.int .u64 (a0 : Int), .int .u64 (a1 : Int), .int .u64 (a2 : Int), .int .u64 0] rfl rfl 60 #[.int .u64 (a0 : Int), .int .u64 (a1 : Int), .int .u64 (a2 : Int), .int .u64 0] HKA.out (by kernel_rfl) rfl (by simp [Value.oneCell']) ?_)
        have hrz : Blk ((wr.alloc (.cells #[.string ⟨#[45]⟩, .int .i64 2] 65)).setRow w.heap.size #[.int .u64 (a0 : Int), .int .u64 (a1 : Int), .int .u64 (a2 : Int), .int .u64 0]) w.heap.size #[.int .u64 (a0 : Int), .int .u64 (a1 : Int), .int .u64 (a2 : Int), .int .u64 0] 60 := setRow_heap (wr.alloc (.cells #[.string ⟨#[45]⟩, .int .i64 2] 65)) _ _ _ _ _ HKA.out
        have r0 : ((wr.alloc (.cells #[.string ⟨#[45]⟩, .int .i64 2] 65)).setRow w.heap.size #[.int .u64 (a0 : Int), .int .u64 (a1 : Int), .int .u64 (a2 : Int), .int .u64 0]).cell? ⟨w.heap.size, 0, none⟩ = some (.int .u64 (a0 : Int)) := hrz.cell 0 rfl
        have r1 : ((wr.alloc (.cells #[.string ⟨#[45]⟩, .int .i64 2] 65)).setRow w.heap.size #[.int .u64 (a0 : Int), .int .u64 (a1 : Int), .int .u64 (a2 : Int), .int .u64 0]).cell? ⟨w.heap.size, 1, none⟩ = some (.int .u64 (a1 : Int)) := hrz.cell 1 rfl
        have r2 : ((wr.alloc (.cells #[.string ⟨#[45]⟩, .int .i64 2] 65)).setRow w.heap.size #[.int .u64 (a0 : Int), .int .u64 (a1 : Int), .int .u64 (a2 : Int), .int .u64 0]).cell? ⟨w.heap.size, 2, none⟩ = some (.int .u64 (a2 : Int)) := hrz.cell 2 rfl
        have r3 : ((wr.alloc (.cells #[.string ⟨#[45]⟩, .int .i64 2] 65)).setRow w.heap.size #[.int .u64 (a0 : Int), .int .u64 (a1 : Int), .int .u64 (a2 : Int), .int .u64 0]).cell? ⟨w.heap.size, 3, none⟩ = some (.int .u64 0) := hrz.cell 3 rfl
        exact bodyPost_ret (v := .tuple #[.agg #[.int .u64 (a0 : Int), .int .u64 (a1 : Int), .int .u64 (a2 : Int), .int .u64 0], .bool false]) (by simp [results, Tryd.results27, go_sem, r0, r1, r2, r3]) rfl ⟨below_setRow HBA.out (Nat.le_refl _) _, .inl ⟨HN.out, a0, a1, a2, 0, rfl⟩⟩
    · have hR := HR.out
      by_cases ht0 : t.data.toList = []
      · have dt : t.toList.isEmpty = true := by rw [list_data, ht0]; rfl
        have HN := Lib.hid (hR.trans (show readFrom [] [a0, a1, a2, a3] t.data.toList = some [a0, a1, a2, a3] by unfold readFrom; rw [if_pos ht0]))
        clear hR HR ht0
        have q0 : wr.cell? ⟨w.heap.size, 0, none⟩ = some (.int .u64 (a0 : Int)) := HK.out.cell 0 rfl
        have q1 : wr.cell? ⟨w.heap.size, 1, none⟩ = some (.int .u64 (a1 : Int)) := HK.out.cell 1 rfl
        have q2 : wr.cell? ⟨w.heap.size, 2, none⟩ = some (.int .u64 (a2 : Int)) := HK.out.cell 2 rfl
        have q3 : wr.cell? ⟨w.heap.size, 3, none⟩ = some (.int .u64 (a3 : Int)) := HK.out.cell 3 rfl
        go_wp2_with (refine wpList_store_row rfl 60 (.tmp 2) _ rfl w.heap.size #[.int .u64 (a0 : Int), .int .u64 (a1 : Int), .int .u64 (a2 : Int), .int .u64 (a3 : Int)] rfl rfl 60 #[.int .u64 (a0 : Int), .int .u64 (a1 : Int), .int .u64 (a2 : Int), .int .u64 (a3 : Int)] HK.out (by kernel_rfl) rfl (by simp [Value.oneCell']) ?_)
        have hrz : Blk (wr.setRow w.heap.size #[.int .u64 (a0 : Int), .int .u64 (a1 : Int), .int .u64 (a2 : Int), .int .u64 (a3 : Int)]) w.heap.size #[.int .u64 (a0 : Int), .int .u64 (a1 : Int), .int .u64 (a2 : Int), .int .u64 (a3 : Int)] 60 := setRow_heap wr _ _ _ _ _ HK.out
        have r0 : (wr.setRow w.heap.size #[.int .u64 (a0 : Int), .int .u64 (a1 : Int), .int .u64 (a2 : Int), .int .u64 (a3 : Int)]).cell? ⟨w.heap.size, 0, none⟩ = some (.int .u64 (a0 : Int)) := hrz.cell 0 rfl
        have r1 : (wr.setRow w.heap.size #[.int .u64 (a0 : Int), .int .u64 (a1 : Int), .int .u64 (a2 : Int), .int .u64 (a3 : Int)]).cell? ⟨w.heap.size, 1, none⟩ = some (.int .u64 (a1 : Int)) := hrz.cell 1 rfl
        have r2 : (wr.setRow w.heap.size #[.int .u64 (a0 : Int), .int .u64 (a1 : Int), .int .u64 (a2 : Int), .int .u64 (a3 : Int)]).cell? ⟨w.heap.size, 2, none⟩ = some (.int .u64 (a2 : Int)) := hrz.cell 2 rfl
        have r3 : (wr.setRow w.heap.size #[.int .u64 (a0 : Int), .int .u64 (a1 : Int), .int .u64 (a2 : Int), .int .u64 (a3 : Int)]).cell? ⟨w.heap.size, 3, none⟩ = some (.int .u64 (a3 : Int)) := hrz.cell 3 rfl
        exact bodyPost_ret (v := .tuple #[.agg #[.int .u64 (a0 : Int), .int .u64 (a1 : Int), .int .u64 (a2 : Int), .int .u64 (a3 : Int)], .bool true]) (by simp [results, Tryd.results27, go_sem, r0, r1, r2, r3]) rfl ⟨below_setRow HB.out (Nat.le_refl _) _, .inr ⟨a0, a1, a2, a3, HN.out, rfl⟩⟩
      · have dt : t.toList.isEmpty = false := by rw [list_data]; simpa using ht0
        have HN := Lib.hid (hR.trans (show readFrom [] [a0, a1, a2, a3] t.data.toList = none by unfold readFrom; rw [if_neg ht0]))
        clear hR HR ht0
        have q0 : wr.cell? ⟨w.heap.size, 0, none⟩ = some (.int .u64 (a0 : Int)) := HK.out.cell 0 rfl
        have q1 : wr.cell? ⟨w.heap.size, 1, none⟩ = some (.int .u64 (a1 : Int)) := HK.out.cell 1 rfl
        have q2 : wr.cell? ⟨w.heap.size, 2, none⟩ = some (.int .u64 (a2 : Int)) := HK.out.cell 2 rfl
        have q3 : wr.cell? ⟨w.heap.size, 3, none⟩ = some (.int .u64 (a3 : Int)) := HK.out.cell 3 rfl
        go_wp2_with (refine wpList_store_row rfl 60 (.tmp 2) _ rfl w.heap.size #[.int .u64 (a0 : Int), .int .u64 (a1 : Int), .int .u64 (a2 : Int), .int .u64 (a3 : Int)] rfl rfl 60 #[.int .u64 (a0 : Int), .int .u64 (a1 : Int), .int .u64 (a2 : Int), .int .u64 (a3 : Int)] HK.out (by kernel_rfl) rfl (by simp [Value.oneCell']) ?_)
        have hrz : Blk (wr.setRow w.heap.size #[.int .u64 (a0 : Int), .int .u64 (a1 : Int), .int .u64 (a2 : Int), .int .u64 (a3 : Int)]) w.heap.size #[.int .u64 (a0 : Int), .int .u64 (a1 : Int), .int .u64 (a2 : Int), .int .u64 (a3 : Int)] 60 := setRow_heap wr _ _ _ _ _ HK.out
        have r0 : (wr.setRow w.heap.size #[.int .u64 (a0 : Int), .int .u64 (a1 : Int), .int .u64 (a2 : Int), .int .u64 (a3 : Int)]).cell? ⟨w.heap.size, 0, none⟩ = some (.int .u64 (a0 : Int)) := hrz.cell 0 rfl
        have r1 : (wr.setRow w.heap.size #[.int .u64 (a0 : Int), .int .u64 (a1 : Int), .int .u64 (a2 : Int), .int .u64 (a3 : Int)]).cell? ⟨w.heap.size, 1, none⟩ = some (.int .u64 (a1 : Int)) := hrz.cell 1 rfl
        have r2 : (wr.setRow w.heap.size #[.int .u64 (a0 : Int), .int .u64 (a1 : Int), .int .u64 (a2 : Int), .int .u64 (a3 : Int)]).cell? ⟨w.heap.size, 2, none⟩ = some (.int .u64 (a2 : Int)) := hrz.cell 2 rfl
        have r3 : (wr.setRow w.heap.size #[.int .u64 (a0 : Int), .int .u64 (a1 : Int), .int .u64 (a2 : Int), .int .u64 (a3 : Int)]).cell? ⟨w.heap.size, 3, none⟩ = some (.int .u64 (a3 : Int)) := hrz.cell 3 rfl
        exact bodyPost_ret (v := .tuple #[.agg #[.int .u64 (a0 : Int), .int .u64 (a1 : Int), .int .u64 (a2 : Int), .int .u64 (a3 : Int)], .bool false]) (by simp [results, Tryd.results27, go_sem, r0, r1, r2, r3]) rfl ⟨below_setRow HB.out (Nat.le_refl _) _, .inl ⟨HN.out, a0, a1, a2, a3, rfl⟩⟩
end Go.Proofs.YtkfidolbbnmjfaaDoor
