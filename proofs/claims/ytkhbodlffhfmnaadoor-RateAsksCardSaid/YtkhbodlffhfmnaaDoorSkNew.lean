/-
  What sketch's New does: nil, where there is none of such rows; else one whose cells are 0, in blocks of its own.
-/
import Derived.Laws.MakeOwn
import Derived.Test.YtkhbodlffhfmnaaDoorSkAdd
namespace Go.Proofs.YtkhbodlffhfmnaaDoor
open Go.RowKit Go.Proofs.HashMath Go.Proofs.SkMath

/-- Noughts, and slices that are nil. -/
def zer (n : Nat) : Array Value := madeCells #[.int .u64 0] n
def nils (n : Nat) : Array Value := madeCells #[.slice none 0 0] n
theorem made_at {v : Value} {n i : Nat} (h : i < n) : (madeCells #[v] n)[i]? = some v := by
  rw [← Array.getElem?_toList, toList_madeCells_one]
  simp [h]
theorem info_u64 : (Tryd.prog.info? 22).map (fun i => (i.zero, i.size, i.bytes)) = some (some (.int .u64 0), 1, 8) := by kernel_rfl
theorem info_cells : (Tryd.prog.info? 83).map (fun i => (i.zero, i.size, i.bytes)) = some (some (.slice none 0 0), 1, 24) := by kernel_rfl
theorem make_cells (n : Nat) (h : n ≤ 100000) (W : World) : (Instr.makeSlice 83 (.int .i64 (n : Int)) (.int .i64 (n : Int))).run Tryd.prog W = .ok (.slice (some ⟨W.heap.size, 0, none⟩) n n) (W.alloc (.cells (zer n) 22)) := by
  obtain ⟨i0, hi, hz0, hz1, hz2⟩ := info_parts info_u64
  have := run_make (P := Tryd.prog) W 83 22 i0 (.int .u64 0) Tryd.underlying83 hi hz0 .i64 .i64 (n : Int) (n : Int) (by omega) (by omega) (by rw [hz2]; omega) (by omega)
  rw [this, hz1]
  simp only [Int.toNat_natCast, Nat.mul_one]
  rfl
theorem make_rows (n : Nat) (h : n ≤ 100000) (W : World) : (Instr.makeSlice 36 (.int .i64 (n : Int)) (.int .i64 (n : Int))).run Tryd.prog W = .ok (.slice (some ⟨W.heap.size, 0, none⟩) n n) (W.alloc (.cells (nils n) 83)) := by
  obtain ⟨i0, hi, hz0, hz1, hz2⟩ := info_parts info_cells
  have := run_make (P := Tryd.prog) W 36 83 i0 (.slice none 0 0) Tryd.underlying36 hi hz0 .i64 .i64 (n : Int) (n : Int) (by omega) (by omega) (by rw [hz2]; omega) (by omega)
  rw [this, hz1]
  simp only [Int.toNat_natCast, Nat.mul_one]
  rfl
theorem cut_low (g o l m : Nat) (hm : m ≤ l) (h1 : 1 ≤ m) (W : World) : (Instr.slice 83 (.slice (some ⟨g, o, none⟩) l l) none (some (.int .i64 (m : Int))) (some (.int .i64 (m : Int)))).run Tryd.prog W = .ok (.slice (some ⟨g, o, none⟩) m m) W := by
  rw [run_slice_hm W 83 (some ⟨g, o, none⟩) l l (by kernel_rfl) .i64 .i64 (m : Int) (m : Int) (by omega) (by omega) (by omega)]
  have hz : (sizeOf (Tryd.prog.elem 83)).run Tryd.prog W = .ok 1 W := by kernel_rfl
  rw [hz]
  simp only [sliced, Result.andThen, Int.toNat_natCast, if_neg (show ¬ m = 0 by omega), Option.map_some, Nat.zero_mul, Nat.sub_zero]
  rfl
theorem cut_high (g o l m : Nat) (hm : m ≤ l) (h1 : 1 ≤ m) (W : World) : (Instr.slice 83 (.slice (some ⟨g, o, none⟩) l l) (some (.int .i64 (m : Int))) none none).run Tryd.prog W = .ok (.slice (some ⟨g, if l = m then o else o + m, none⟩) (l - m) (l - m)) W := by
  rw [run_slice_l W 83 (some ⟨g, o, none⟩) l l (by kernel_rfl) .i64 (m : Int) (by omega) (by omega)]
  have hz : (sizeOf (Tryd.prog.elem 83)).run Tryd.prog W = .ok 1 W := by kernel_rfl
  rw [hz]
  simp only [sliced, Result.andThen, Int.toNat_natCast, Option.map_some, Nat.mul_one]
  by_cases h : l = m
  · rw [if_pos h, if_pos h]
  · rw [if_neg h, if_neg h]
    unfold Addr.add
    simp
    omega

set_option maxRecDepth 100000 in
set_option maxHeartbeats 1000000 in
theorem blank_any (r m : Nat) (w : World) (r1 : 1 ≤ r) (r8 : r ≤ 8) (m1 : 1 ≤ m) (m2 : m ≤ 1024) :
    Calls Tryd.prog 46 #[.int .i64 (r : Int), .int .i64 (m : Int)] w fun e w' => e = .returned (.slice (some ⟨w.heap.size + 1, 0, none⟩) r r) ∧ Below w.heap.size w w' ∧
      Blk w' w.heap.size (zer (r * m)) 22 ∧ ∃ C, Blk w' (w.heap.size + 1) C 83 ∧ ∀ i, i < r → C[i]? = some (.slice (some ⟨w.heap.size, i * m, none⟩) m m) := by
  obtain ⟨n, hn⟩ : ∃ n, r * m = n := ⟨_, rfl⟩
  have hnl : n ≤ 100000 := by
    have := Nat.mul_le_mul r8 m2
    omega
  have hnm : (r : Int) * (m : Int) = (n : Int) := by rw [← hn]; simp
  obtain ⟨n0, hn0⟩ : ∃ n0, w.heap.size = n0 := ⟨_, rfl⟩
  have hmk1 := make_cells n hnl w
  have hmk2 := make_rows r (by omega) (w.alloc (.cells (zer n) 22))
  have hsz : (w.alloc (.cells (zer n) 22)).heap.size = n0 + 1 := by rw [World.size_alloc, hn0]
  rw [hsz] at hmk2
  rw [hn0] at hmk1 ⊢
  have hb0 : Below n0 w ((w.alloc (.cells (zer n) 22)).alloc (.cells (nils r) 83)) := hn0 ▸ ((box_below (W := w) _).alloc (by simp) _)
  have hbz : Blk ((w.alloc (.cells (zer n) 22)).alloc (.cells (nils r) 83)) n0 (zer n) 22 := hn0 ▸ (blk_new w (zer n) 22).later (box_below _)
  have hbn : Blk ((w.alloc (.cells (zer n) 22)).alloc (.cells (nils r) 83)) (n0 + 1) (nils r) 83 := hsz ▸ blk_new (w.alloc (.cells (zer n) 22)) (nils r) 83
  obtain ⟨w0, hw0⟩ : ∃ w0, (w.alloc (.cells (zer n) 22)).alloc (.cells (nils r) 83) = w0 := ⟨_, rfl⟩
  rw [hw0] at hmk2 hb0 hbz hbn
  have HB0 := Lib.hid hb0
  have HBZ := Lib.hid hbz
  have HBN := Lib.hid hbn
  have HN := Lib.hid hn
  rw [hn]
  clear hn hsz hb0 hbz hbn hw0 hn0
  go_enter Tryd.func46, Tryd.ntmps46
  go_wp2
  go_loopw [5, 16] (fun sv kv wr => ∃ k o l : Nat, k ≤ r ∧ kv = .int .i64 (k : Int) ∧ sv = .slice (some ⟨n0, o, none⟩) l l ∧ Hid (k < r → o = k * m ∧ l + k * m = n) ∧ Below n0 w wr ∧ Blk wr n0 (zer n) 22 ∧ Hid (∃ C, Blk wr (n0 + 1) C 83 ∧ C.size = r ∧ ∀ i, i < k → C[i]? = some (.slice (some ⟨n0, i * m, none⟩) m m))) (fun _ kv _ => r - (intOf kv).toNat)
  case atStart => exact ⟨0, 0, n, by omega, rfl, rfl, Lib.hid (fun _ => ⟨by omega, by omega⟩), HB0.out, HBZ.out, Lib.hid ⟨_, HBN.out, size_madeCells _ _, fun i hi => by omega⟩⟩
  case round =>
    obtain ⟨k, o, l, hkr, rfl, rfl, HO, hb, hz, HC⟩ := hrel
    by_cases hlt : k < r
    · have dl : decide ((k : Int) < (r : Int)) = true := by simp; omega
      obtain ⟨ho, hl⟩ := HO.out hlt
      have hml : m ≤ l := by
        have h1 : (k + 1) * m ≤ r * m := Nat.mul_le_mul_right m hlt
        rw [HN.out, Nat.add_mul] at h1
        omega
      obtain ⟨C, hC, hCs, hCi⟩ := HC.out
      have hs1 := cut_low n0 o l m hml m1
      have hs2 := cut_high n0 o l m hml m1
      obtain ⟨o2, ho2⟩ : ∃ o2, (if l = m then o else o + m) = o2 := ⟨_, rfl⟩
      obtain ⟨l2, hl2⟩ : ∃ l2, l - m = l2 := ⟨_, rfl⟩
      rw [ho2, hl2] at hs2
      obtain ⟨cv, hcv⟩ : ∃ cv, C[k]? = some cv := ⟨_, Array.getElem?_eq_getElem (by omega)⟩
      have hcl := hC.cell k hcv
      have hfr := hC.free k
      have hnext : Hid (k + 1 < r → o2 = (k + 1) * m ∧ l2 + (k + 1) * m = n) := Lib.hid (fun h => by
        have h1 : (k + 2) * m ≤ r * m := Nat.mul_le_mul_right m h
        rw [HN.out, Nat.add_mul] at h1
        have h2 : ¬ l = m := by omega
        rw [if_neg h2] at ho2
        rw [Nat.add_mul]
        omega)
      have hB' : Hid (Below n0 w (wr.setCell ⟨n0 + 1, k, none⟩ (.slice (some ⟨n0, o, none⟩) m m)).drew) := Lib.hid ((hb.setCell (by simp) _).drew)
      have hZ' : Hid (Blk (wr.setCell ⟨n0 + 1, k, none⟩ (.slice (some ⟨n0, o, none⟩) m m)).drew n0 (zer n) 22) := Lib.hid (hz.same (Below.heap_setCell _ _ _ _ (by simp)))
      have hC' : Hid (∃ C, Blk (wr.setCell ⟨n0 + 1, k, none⟩ (.slice (some ⟨n0, o, none⟩) m m)).drew (n0 + 1) C 83 ∧ C.size = r ∧ ∀ i, i < k + 1 → C[i]? = some (.slice (some ⟨n0, i * m, none⟩) m m)) := Lib.hid ⟨_, hC.set k _, by simpa using hCs, fun i hi => by
        by_cases e : i = k
        · subst e
          rw [Array.getElem?_setIfInBounds_self_of_lt (by omega), ho]
        · rw [Array.getElem?_setIfInBounds_ne (by omega)]
          exact hCi i (by omega)⟩
      clear HO ho hl HC hC hCs hCi ho2 hl2 hcv hb hz HN HB0 HBZ HBN hmk1 hmk2 hnm
      go_wp2
      go_region
      go_wp2
      go_roundw
      case rel => exact ⟨k + 1, o2, l2, by omega, by go_num, rfl, hnext, hB'.out, hZ'.out, hC'⟩
      case measure => simp [intOf]; omega
    · obtain rfl : k = r := by omega
      have dl : decide ((k : Int) < (k : Int)) = false := by simp
      obtain ⟨C, hC, hCs, hCi⟩ := HC.out
      have HEND := Lib.hid (show Below n0 w wr ∧ Blk wr n0 (zer n) 22 ∧ ∃ C, Blk wr (n0 + 1) C 83 ∧ ∀ i, i < k → C[i]? = some (.slice (some ⟨n0, i * m, none⟩) m m) from ⟨hb, hz, C, hC, hCi⟩)
      clear HO HC hC hCs hCi hb hz HN HB0 HBZ HBN hmk1 hmk2 hnm
      go_wp2
      go_ret
      exact ⟨rfl, HEND.out⟩

set_option maxRecDepth 100000 in
set_option maxHeartbeats 1000000 in
theorem new_any (r m seed : Nat) (w : World) (r1 : 1 ≤ r) (r8 : r ≤ 8) (m1 : 1 ≤ m) (m2 : m ≤ 1024) (hs : seed < 18446744073709551616) :
    Calls Tryd.prog 36 #[.int .i64 (r : Int), .int .i64 (m : Int), .int .u64 (seed : Int)] w fun e w' => ∃ S A G, e = .returned (.pointer (some ⟨S, 0, none⟩)) ∧ Below w.heap.size w w' ∧ w.heap.size ≤ S ∧ w.heap.size ≤ A ∧ w.heap.size ≤ G ∧ Sk w' S A G r m seed (fun _ _ => 0) 0 := by
  have hB := blank_any r m w r1 r8 m1 m2
  obtain ⟨n0, hn0⟩ : ∃ n0, w.heap.size = n0 := ⟨_, rfl⟩
  rw [hn0] at hB ⊢
  have HBL := Lib.hid hB
  have HN0 := Lib.hid hn0
  have d1 : decide ((r : Int) < 1) = false := by simp; omega
  have d2 : decide (8 < (r : Int)) = false := by simp; omega
  have d3 : decide ((m : Int) < 1) = false := by simp; omega
  have d4 : decide (1024 < (m : Int)) = false := by simp; omega
  clear hB hn0
  go_enter Tryd.func36, Tryd.ntmps36
  go_wp2_with fail
  refine HBL.out.mono ?_
  rintro e w1 ⟨rfl, hb, hz, hC⟩
  obtain ⟨n1, hn1⟩ : ∃ n1, w1.heap.size = n1 := ⟨_, rfl⟩
  have hle : n0 + 2 ≤ n1 := by
    obtain ⟨C, hC, _⟩ := hC
    have := hC.lt
    omega
  have hend : Sk (w1.alloc (.cells #[.int .u64 (seed : Int), .slice (some ⟨n0 + 1, 0, none⟩) r r, .int .u64 0] 91)) n1 (n0 + 1) n0 r m seed (fun _ _ => 0) 0 := by
    obtain ⟨C, hC, hCi⟩ := hC
    have hbx := box_below (W := w1) (.cells #[.int .u64 (seed : Int), .slice (some ⟨n0 + 1, 0, none⟩) r r, .int .u64 0] 91)
    have hz' := hz.later hbx
    have hC' := hC.later hbx
    exact { own := hn1 ▸ blk_new w1 _ _
            row := fun i hi => hC'.cell i (hCi i hi)
            cell := fun i j hi hj => ⟨hz'.cell _ (made_at (spot_lt hi hj)), hz'.free _⟩
            blk := ⟨_, _, hz', size_madeCells _ _⟩
            ltA := hC'.lt
            ltG := hz'.lt
            sa := by omega
            sg := by omega
            ag := by omega
            r1 := r1
            r8 := r8
            m1 := m1
            m2 := m2
            seedLt := hs
            totLt := by omega
            fLt := fun _ _ => by omega }
  have HEND := Lib.hid hend
  have HB2 := Lib.hid (hb.alloc (by omega) (.cells #[.int .u64 (seed : Int), .slice (some ⟨n0 + 1, 0, none⟩) r r, .int .u64 0] 91))
  clear hz hC hend hb
  go_wp2_with fail
  go_ret
  exact ⟨n1, n0 + 1, n0, rfl, HB2.out, by omega, by omega, by omega, HEND.out⟩

set_option maxRecDepth 100000 in
set_option maxHeartbeats 1000000 in
theorem new_no (r m seed : Int) (w : World) (h : r < 1 ∨ 8 < r ∨ m < 1 ∨ 1024 < m) :
    Calls Tryd.prog 36 #[.int .i64 r, .int .i64 m, .int .u64 seed] w fun e w' => e = .returned (.pointer none) ∧ w = w' := by
  by_cases h1 : r < 1
  · have d1 : decide (r < 1) = true := by simp; omega
    go_enter Tryd.func36, Tryd.ntmps36
    go_wp2
    go_ret
    exact ⟨rfl, rfl⟩
  by_cases h2 : 8 < r
  · have d1 : decide (r < 1) = false := by simp; omega
    have d2 : decide (8 < r) = true := by simp; omega
    go_enter Tryd.func36, Tryd.ntmps36
    go_wp2
    go_ret
    exact ⟨rfl, rfl⟩
  by_cases h3 : m < 1
  · have d1 : decide (r < 1) = false := by simp; omega
    have d2 : decide (8 < r) = false := by simp; omega
    have d3 : decide (m < 1) = true := by simp; omega
    go_enter Tryd.func36, Tryd.ntmps36
    go_wp2
    go_ret
    exact ⟨rfl, rfl⟩
  have h4 : 1024 < m := by omega
  have d1 : decide (r < 1) = false := by simp; omega
  have d2 : decide (8 < r) = false := by simp; omega
  have d3 : decide (m < 1) = false := by simp; omega
  have d4 : decide (1024 < m) = true := by simp; omega
  go_enter Tryd.func36, Tryd.ntmps36
  go_wp2
  go_ret
  exact ⟨rfl, rfl⟩
end Go.Proofs.YtkhbodlffhfmnaaDoor
