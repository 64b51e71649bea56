/-
  What the law's State and Marks hand over, whatever the choices: some text; some marks.
-/
import Derived.Test.YtkfidolbbnmjfaaDoorCtxKnown
import Derived.Test.YtkfidolbbnmjfaaDoorCtxArg
namespace Go.Proofs.YtkfidolbbnmjfaaDoor
open Go.ChangeShapes Go.WideShapes Go.ChangeAt Go.RowKit Go.Proofs.CtxState

def wordRow : Array Value := #[.string ⟨#[97, 61, 49]⟩, .string ⟨#[111, 116, 61, 116, 104, 58, 56]⟩, .string ⟨#[111, 116, 61, 116, 104, 58, 56, 59, 114, 118, 58, 48, 48, 48, 48, 48, 48, 48, 48, 48, 48, 48, 48, 49, 102]⟩, .string ⟨#[98, 61, 120, 32, 121]⟩, .string ⟨#[107, 45, 49, 42, 61, 33, 126]⟩, .string ⟨#[44]⟩, .string ⟨#[111, 116, 61, 114, 118, 58, 48, 48, 48, 48, 48, 48, 48, 48, 48, 48, 48, 48, 48, 48]⟩, .string ⟨#[111, 116, 61, 120, 58, 49, 59, 116, 104, 58, 99]⟩, .string ⟨#[111, 116, 61, 116, 104, 58]⟩, .string ⟨#[111, 116, 61, 116, 104, 58, 48, 59, 116, 104, 58, 49]⟩, .string ⟨#[65, 61, 49]⟩, .string ⟨#[97]⟩, .string ⟨#[61, 49]⟩, .string ⟨#[122, 64, 98, 61, 111, 107]⟩, .string ⟨#[111, 116, 61]⟩, .string ⟨#[111, 116, 61, 116, 104, 58, 49, 50, 51, 52, 53, 54, 55, 56, 57, 97, 98, 99, 100, 101]⟩, .string ⟨#[111, 116, 61, 116, 104, 58, 49, 50, 51, 52, 53, 54, 55, 56, 57, 97, 98, 99, 100, 101, 102]⟩, .string ⟨#[113, 47, 61, 59, 59]⟩, .string ⟨#[111, 116, 61, 116, 104, 58, 52, 59]⟩, .string ⟨#[97, 61, 50]⟩]
theorem word_at : ∀ x : Nat, x < 20 → ∃ y : ByteArray, wordRow[x]? = some (.string y) ∧ y.size ≤ 40 := by
  intro x hx
  have key : ∀ x : Fin 20, ∃ y : ByteArray, wordRow[x.val]? = some (.string y) ∧ y.size ≤ 40 := by
    intro ⟨x, hx⟩
    rcases (by omega : x = 0 ∨ x = 1 ∨ x = 2 ∨ x = 3 ∨ x = 4 ∨ x = 5 ∨ x = 6 ∨ x = 7 ∨ x = 8 ∨ x = 9 ∨ x = 10 ∨ x = 11 ∨ x = 12 ∨ x = 13 ∨ x = 14 ∨ x = 15 ∨ x = 16 ∨ x = 17 ∨ x = 18 ∨ x = 19) with rfl | rfl | rfl | rfl | rfl | rfl | rfl | rfl | rfl | rfl | rfl | rfl | rfl | rfl | rfl | rfl | rfl | rfl | rfl | rfl <;> exact ⟨_, rfl, by decide⟩
  exact key ⟨x, hx⟩
theorem state_num {cn : Nat} (_ : cn < 256) : ∃ x : Nat, wrap64 (cn : Int) = (cn : Int) ∧ (cn : Int).tmod 20 = (x : Int) ∧ (cn : Int) % 20 = (x : Int) ∧ x < 20 :=
  ⟨cn % 20, by unfold wrap64; omega, by rw [Int.tmod_eq_emod_of_nonneg (by omega)]; omega, by omega, by omega⟩
theorem state_texts (z y : ByteArray) (i : Nat) (hz : z.size ≤ 60 * i) (hi : i < 8) (hy : y.size ≤ 40) : ∃ zc z2 z3, z ++ (⟨#[44]⟩ : ByteArray) = zc ∧ zc ++ y = z2 ∧ z ++ y = z3 ∧ ¬ 9223372036854775807 < z.size + 1 ∧ ¬ 9223372036854775807 < zc.size + y.size ∧ ¬ 9223372036854775807 < z.size + y.size ∧ z2.size ≤ 60 * (i + 1) ∧ z3.size ≤ 60 * (i + 1) := by
  have h1 : (z ++ (⟨#[44]⟩ : ByteArray)).size = z.size + 1 := by rw [ByteArray.size_append]; rfl
  refine ⟨_, _, _, rfl, rfl, rfl, by omega, by rw [h1]; omega, by omega, ?_, ?_⟩
  · rw [ByteArray.size_append, h1]; omega
  · rw [ByteArray.size_append]; omega

set_option maxRecDepth 100000 in
set_option maxHeartbeats 4000000 in
theorem state_any (A : Option Addr) (cs : List UInt8) (len cap : Nat) (w : World) (hlen : cs.length = len) (hr : Holds8 w.heap.size w A cs) :
    Calls Tryd.prog 17 #[.slice A len cap] w fun e w' => (∃ s : ByteArray, e = .returned (.string s)) ∧ Below w.heap.size w w' := by
  have hb := box_below (W := w) (.cells wordRow 9)
  have kw := blk_new w wordRow 9
  have hr1 := hr.below hb
  obtain ⟨W1, hW1⟩ : ∃ W1, w.alloc (.cells wordRow 9) = W1 := ⟨_, rfl⟩
  rw [hW1] at hb kw hr1
  have HB := Lib.hid hb
  have HK := Lib.hid kw
  have HR := Lib.hid hr1
  have HL := Lib.hid hlen
  unfold wordRow at hW1
  clear hb kw hr1 hr hlen
  go_enter Tryd.func17, Tryd.ntmps17
  go_wp2_with fail
  clear hW1
  go_loopw [4, 5] (fun a b wr => ∃ (i : Nat) (z : ByteArray), i ≤ len ∧ i ≤ 8 ∧ a = .string z ∧ b = .int .i64 (i : Int) ∧ Hid (z.size ≤ 60 * i) ∧ wr = W1) (fun _ b _ => len - (intOf b).toNat)
  case atStart => exact ⟨0, ⟨#[]⟩, by omega, by omega, rfl, rfl, Nat.le_refl _, rfl⟩
  case round =>
    obtain ⟨i, z, hi, hi8, rfl, rfl, hz, rfl⟩ := hrel
    by_cases hlt : i < len
    · have dl : decide ((i : Int) < (len : Int)) = true := by simp; omega
      have dl' : decide (i < len) = true := by simp; omega
      by_cases h8 : i < 8
      · have d8 : decide ((i : Int) < 8) = true := by simp; omega
        have d8' : decide (i < 8) = true := by simp; omega
        obtain ⟨b, off, rfl, hbl, hcell⟩ := HR.out (by rw [HL.out]; omega)
        have hci := hcell i (by rw [HL.out]; exact hlt)
        obtain ⟨cn, hcn, hcl⟩ : ∃ cn : Nat, b8 (cs.getD i 0) = .int .u8 (cn : Int) ∧ cn < 256 := ⟨(cs.getD i 0).toNat, rfl, (cs.getD i 0).toNat_lt⟩
        rw [hcn] at hci
        obtain ⟨x, e0, e1, e2, hx⟩ := state_num hcl
        obtain ⟨y, hy, hys⟩ := word_at x hx
        have hcy := HK.out.cell x hy
        obtain ⟨zc, z2, z3, t1, t2, t3, q1, q2, q3, l2, l3⟩ := state_texts z y i hz.out h8 hys
        have L2 := Lib.hid l2
        have L3 := Lib.hid l3
        clear hcell hcn hz l2 l3 hys hy
        by_cases h0 : i = 0
        · have dz : decide ((0 : Int) < (i : Int)) = false := by simp; omega
          have dz' : decide (0 < i) = false := by simp; omega
          clear h0 t1 t2 q1 q2
          go_wp2_with fail
          go_roundw
          case rel => exact ⟨i + 1, z3, by omega, by omega, rfl, by go_num, L3, by trivial⟩
          case measure => simp [intOf]; omega
        · have dz : decide ((0 : Int) < (i : Int)) = true := by simp; omega
          have dz' : decide (0 < i) = true := by simp; omega
          clear h0 t3 q3
          go_wp2_with fail
          go_roundw
          case rel => exact ⟨i + 1, z2, by omega, by omega, rfl, by go_num, L2, by trivial⟩
          case measure => simp [intOf]; omega
      · have d8 : decide ((i : Int) < 8) = false := by simp; omega
        have d8' : decide (i < 8) = false := by simp; omega
        go_wp2_with fail
        go_ret
        exact ⟨⟨_, rfl⟩, HB.out⟩
    · have dl : decide ((i : Int) < (len : Int)) = false := by simp; omega
      have dl' : decide (i < len) = false := by simp; omega
      go_wp2_with fail
      go_ret
      exact ⟨⟨_, rfl⟩, HB.out⟩

theorem marks_num {a t r : Nat} (_ : a < 256) : ∃ t1 r1 q u v : Nat, (t : Int) % 72057594037927936 = (t1 : Int) ∧ (r : Int) % 72057594037927936 = (r1 : Int) ∧ (a : Int) / 4 = (q : Int) ∧ q ≤ 63 ∧ (t1 : Int) / 2 ^ q = (u : Int) ∧ IntKind.u64.wrap ((u : Int) * 2 ^ q) = (v : Int) :=
  ⟨t % 72057594037927936, r % 72057594037927936, a / 4, t % 72057594037927936 / 2 ^ (a / 4), t % 72057594037927936 / 2 ^ (a / 4) * 2 ^ (a / 4) % 18446744073709551616, by omega, by omega, by omega, by omega, by simp, shl_u _ _⟩
theorem mod_two (a : Nat) : ∃ b : Bool, ((a : Int) % 2 == 0) = b := ⟨_, rfl⟩

set_option maxRecDepth 100000 in
set_option maxHeartbeats 4000000 in
theorem lawMarks_any (a b t r : Nat) (ha : a < 256) (w : World) :
    Calls Tryd.prog 18 #[.int .u8 (a : Int), .int .u8 (b : Int), .int .u64 (t : Int), .int .u64 (r : Int)] w fun e w' => (∃ (A : Bool) (T : Nat) (B : Bool) (R : Nat), e = .returned (.agg #[.bool A, .int .u64 (T : Int), .bool B, .int .u64 (R : Int)])) ∧ Below w.heap.size w w' := by
  obtain ⟨t1, r1, q, u, v, n1, n2, n3, n4, n5, n6⟩ := marks_num (t := t) (r := r) ha
  obtain ⟨A, hA⟩ := mod_two a
  obtain ⟨B, hB⟩ := mod_two b
  clear ha
  cases A with
  | true =>
    cases B with
    | true =>
      have k0 := (blk_new w #[.bool false, .int .u64 0, .bool false, .int .u64 0] 29).later (box_below (.cells #[.bool true, .int .u64 (v : Int), .bool true, .int .u64 (r1 : Int)] 29))
      have hB5 := ((Below.refl w.heap.size w).alloc (Nat.le_refl _) (.cells #[.bool true, .int .u64 (v : Int), .bool true, .int .u64 (r1 : Int)] 29)).alloc (by simp) (.cells #[.bool true, .int .u64 (v : Int), .bool true, .int .u64 (r1 : Int)] 29)
      have c0 := k0.cell 0 rfl
      have c1 := k0.cell 1 rfl
      have c2 := k0.cell 2 rfl
      have c3 := k0.cell 3 rfl
      have f0 := k0.free 0
      have f1 := k0.free 1
      have f2 := k0.free 2
      have f3 := k0.free 3
      have HB := Lib.hid hB5
      clear k0 hB5
      go_enter Tryd.func18, Tryd.ntmps18
      go_wp2_with fail
      exact bodyPost_ret (v := .agg #[.bool true, .int .u64 (v : Int), .bool true, .int .u64 (r1 : Int)]) (by simp [results, Tryd.results18, go_sem]) rfl ⟨⟨true, v, true, r1, rfl⟩, HB.out⟩
    | false =>
      have k0 := (blk_new w #[.bool false, .int .u64 0, .bool false, .int .u64 0] 29).later (box_below (.cells #[.bool true, .int .u64 (v : Int), .bool false, .int .u64 0] 29))
      have hB5 := ((Below.refl w.heap.size w).alloc (Nat.le_refl _) (.cells #[.bool true, .int .u64 (v : Int), .bool false, .int .u64 0] 29)).alloc (by simp) (.cells #[.bool true, .int .u64 (v : Int), .bool false, .int .u64 0] 29)
      have c0 := k0.cell 0 rfl
      have c1 := k0.cell 1 rfl
      have c2 := k0.cell 2 rfl
      have c3 := k0.cell 3 rfl
      have f0 := k0.free 0
      have f1 := k0.free 1
      have f2 := k0.free 2
      have f3 := k0.free 3
      have HB := Lib.hid hB5
      clear k0 hB5
      go_enter Tryd.func18, Tryd.ntmps18
      go_wp2_with fail
      exact bodyPost_ret (v := .agg #[.bool true, .int .u64 (v : Int), .bool false, .int .u64 0]) (by simp [results, Tryd.results18, go_sem]) rfl ⟨⟨true, v, false, 0, rfl⟩, HB.out⟩
  | false =>
    cases B with
    | true =>
      have k0 := (blk_new w #[.bool false, .int .u64 0, .bool false, .int .u64 0] 29).later (box_below (.cells #[.bool false, .int .u64 0, .bool true, .int .u64 (r1 : Int)] 29))
      have hB5 := ((Below.refl w.heap.size w).alloc (Nat.le_refl _) (.cells #[.bool false, .int .u64 0, .bool true, .int .u64 (r1 : Int)] 29)).alloc (by simp) (.cells #[.bool false, .int .u64 0, .bool true, .int .u64 (r1 : Int)] 29)
      have c0 := k0.cell 0 rfl
      have c1 := k0.cell 1 rfl
      have c2 := k0.cell 2 rfl
      have c3 := k0.cell 3 rfl
      have f0 := k0.free 0
      have f1 := k0.free 1
      have f2 := k0.free 2
      have f3 := k0.free 3
      have HB := Lib.hid hB5
      clear k0 hB5
      go_enter Tryd.func18, Tryd.ntmps18
      go_wp2_with fail
      exact bodyPost_ret (v := .agg #[.bool false, .int .u64 0, .bool true, .int .u64 (r1 : Int)]) (by simp [results, Tryd.results18, go_sem]) rfl ⟨⟨false, 0, true, r1, rfl⟩, HB.out⟩
    | false =>
      have k0 := (blk_new w #[.bool false, .int .u64 0, .bool false, .int .u64 0] 29).later (box_below (.cells #[.bool false, .int .u64 0, .bool false, .int .u64 0] 29))
      have hB5 := ((Below.refl w.heap.size w).alloc (Nat.le_refl _) (.cells #[.bool false, .int .u64 0, .bool false, .int .u64 0] 29)).alloc (by simp) (.cells #[.bool false, .int .u64 0, .bool false, .int .u64 0] 29)
      have c0 := k0.cell 0 rfl
      have c1 := k0.cell 1 rfl
      have c2 := k0.cell 2 rfl
      have c3 := k0.cell 3 rfl
      have f0 := k0.free 0
      have f1 := k0.free 1
      have f2 := k0.free 2
      have f3 := k0.free 3
      have HB := Lib.hid hB5
      clear k0 hB5
      go_enter Tryd.func18, Tryd.ntmps18
      go_wp2_with fail
      exact bodyPost_ret (v := .agg #[.bool false, .int .u64 0, .bool false, .int .u64 0]) (by simp [results, Tryd.results18, go_sem]) rfl ⟨⟨false, 0, false, 0, rfl⟩, HB.out⟩
end Go.Proofs.YtkfidolbbnmjfaaDoor
