/-
  What the document's own New of sketches does: none of such rows, or one whose cells are 0, in memory of its own.
-/
import Derived.Deep.RegionHeld
import Derived.Deep.AppendLies
import Derived.Laws.MakeOwn
import Derived.Test.YtkhbodlffhfmnaaDoorRegionBut
import Derived.Test.YtkhbodlffhfmnaaDoorSkNew
import Derived.Test.YtkhbodlffhfmnaaDoorSkRef
namespace Go.Proofs.YtkhbodlffhfmnaaDoor
open Go.RowKit Go.Proofs.HashMath Go.Proofs.SkMath

/-- A row's cells as a list. -/
def rowL (m : Nat) (h : Nat → Nat) : List Value := (List.range m).map fun q => n64 (h q)
theorem rowL_length (m : Nat) (h : Nat → Nat) : (rowL m h).length = m := by simp [rowL]
theorem rowL_at {m : Nat} {h : Nat → Nat} {q : Nat} (hq : q < m) : (rowL m h)[q]? = some (n64 (h q)) := by simp [rowL, hq]
theorem rowL_one (m : Nat) (h : Nat → Nat) : ∀ u ∈ rowL m h, u.oneCell' = true := by
  intro u hu
  obtain ⟨j, _, rfl⟩ := List.mem_map.1 hu
  rfl
theorem rowL_set {m : Nat} {h g : Nat → Nat} {q : Nat} {v : Value} (hv : v = n64 (g q)) (ho : ∀ j, j ≠ q → g j = h j) : (rowL m h).set q v = rowL m g := by
  subst hv
  refine List.ext_getElem? fun j => ?_
  by_cases hj : j < m
  · by_cases e : j = q
    · subst e
      rw [List.getElem?_set_self (by rw [rowL_length]; exact hj), rowL_at hj]
    · rw [List.getElem?_set_ne (by omega), rowL_at hj, rowL_at hj, ho j e]
  · rw [List.getElem?_eq_none (by rw [List.length_set, rowL_length]; omega), List.getElem?_eq_none (by rw [rowL_length]; omega)]

/-- Values that are own rows. -/
def Rows6 (W : World) (base : Nat) (vs : List Value) (k m : Nat) (f : Nat → Nat → Nat) : Prop :=
  vs.length = k ∧ ∀ j, j < k → ∃ v, vs[j]? = some v ∧ W.ownsRow base 22 1 v m (rowL m (f j))
theorem apart6 {W : World} {base base' : Nat} {v u : Value} {n m : Nat} {xs ys : List Value} (h : W.ownsRow base 83 1 v n xs) (h' : W.ownsRow base' 22 1 u m ys) : u.ownBlock = none ∨ u.ownBlock ≠ v.ownBlock := by
  rcases h'.2 with ⟨rfl, _⟩ | ⟨g', cap', cur', rfl, _, hg', _⟩
  · exact .inl rfl
  · right
    rcases h.2 with ⟨rfl, _⟩ | ⟨g, cap, cur, rfl, _, hg, _⟩
    · simp [Value.ownBlock]
    · intro e
      have e' : g' = g := by simpa [Value.ownBlock] using e
      subst e'
      rw [hg] at hg'
      simp at hg'

/-- A sketch of the document's that is being made: its own block bt, its row of rows v. -/
structure Bld (W : World) (base bt : Nat) (v : Value) (vs : List Value) (k m : Nat) (f : Nat → Nat → Nat) (seed tot : Nat) : Prop where
  blk : Blk W bt #[v, .int .i64 (m : Int), .int .u64 (seed : Int), .int .u64 (tot : Int)] 38
  own : W.ownsRow base 83 1 v k vs
  rows : Rows6 W base vs k m f
  lt : bt < base
  le : base ≤ W.heap.size
theorem Bld.later {W W' : World} {base bt : Nat} {v : Value} {vs : List Value} {k m seed tot : Nat} {f : Nat → Nat → Nat} (h : Bld W base bt v vs k m f seed tot) (hb : Below W.heap.size W W') : Bld W' base bt v vs k m f seed tot :=
  { h with
    blk := h.blk.later hb
    own := own_later h.own hb
    rows := ⟨h.rows.1, fun j hj => by obtain ⟨u, h1, h2⟩ := h.rows.2 j hj; exact ⟨u, h1, own_later h2 hb⟩⟩
    le := Nat.le_trans h.le hb.size }
/-- One row more. -/
theorem Bld.more {W W2 : World} {base bt : Nat} {v u v2 : Value} {vs : List Value} {k m seed tot : Nat} {f g : Nat → Nat → Nat} (h : Bld W base bt v vs k m f seed tot) (hu : W.ownsRow base 22 1 u m (rowL m (g k))) (hg : W.grownBy W2 v.ownBlock)
    (ho : W2.ownsRow base 83 1 v2 (k + 1) (vs ++ [u])) (hfg : ∀ i, i < k → f i = g i) : Bld (W2.setCell ⟨bt, 0, none⟩ v2) base bt v2 (vs ++ [u]) (k + 1) m g seed tot := by
  have hbt := h.lt
  refine { blk := ?_, own := ownsRow_setCell_below ho hbt _, rows := ⟨by simp [h.rows.1], fun j hj => ?_⟩, lt := hbt, le := Nat.le_trans h.le (by rw [World.size_setCell]; exact hg.size) }
  · have h1 : Blk W2 bt #[v, .int .i64 (m : Int), .int .u64 (seed : Int), .int .u64 (tot : Int)] 38 := h.blk.same (hg.block _ h.blk.lt fun e => by
      have := (h.own.lt bt e.symm).1
      omega)
    exact h1.set 0 v2
  · by_cases hlt : j < k
    · obtain ⟨x, h1, h2⟩ := h.rows.2 j hlt
      refine ⟨x, by rw [List.getElem?_append_left (by rw [h.rows.1]; exact hlt)]; exact h1, ?_⟩
      rw [← hfg j hlt]
      exact ownsRow_setCell_below (h2.kept hg (apart6 h.own h2)) hbt _
    · obtain rfl : j = k := by omega
      refine ⟨u, by rw [← h.rows.1]; simp, ownsRow_setCell_below (hu.kept hg (apart6 h.own hu)) hbt _⟩
/-- What is made is such, in whatever world in which its blocks are as they were. -/
theorem Bld.refS {W : World} {base bt : Nat} {v : Value} {vs : List Value} {r m seed tot : Nat} {f : Nat → Nat → Nat} (h : Bld W base bt v vs r m f seed tot) (hr : 1 ≤ r) (hm : 1 ≤ m) :
    ∃ c cc, v = .slice (some ⟨c, 0, none⟩) r cc ∧ ∀ W' : World, W.heap.size ≤ W'.heap.size → (∀ i, base ≤ i → i < W.heap.size → W'.heap[i]? = W.heap[i]?) → RefS base W'.heap.size W' c cc r m f := by
  rcases h.own.2 with ⟨rfl, h0⟩ | ⟨g, cap, cur, rfl, hle, hg, hn, hcm, _, _⟩
  · omega
  · unfold maxLen at hcm
    have hgl := (Array.getElem?_eq_some_iff.1 hg).1
    refine ⟨g, cap, rfl, fun W' hsz hbl => ⟨⟨hle, by omega⟩, hn, hcm, fun i hi => ?_⟩⟩
    obtain ⟨u, h1, h2⟩ := h.rows.2 i hi
    have hc := h.own.cellAt i (by omega)
    rcases h2.2 with ⟨rfl, h0⟩ | ⟨g2, cap2, cur2, rfl, hle2, hg2, hn2, hcm2, _, _⟩
    · omega
    · unfold maxLen at hcm2
      have hgl2 := (Array.getElem?_eq_some_iff.1 hg2).1
      exact ⟨g2, cap2, (World.cell?_of_block (w := W) (a := ⟨g, i, none⟩) (hbl g hle hgl)).trans (hc.trans h1), ⟨hle2, by omega⟩, hn2, hcm2, fun j hj => (World.cell?_of_block (w := W) (a := ⟨g2, j, none⟩) (hbl g2 hle2 hgl2)).trans ((h2.cellAt j (by omega)).trans (rowL_at hj))⟩
/-- A row of noughts. -/
theorem own_zer (W : World) (base m : Nat) (hb : base ≤ W.heap.size) (hm : m ≤ 100000) : (W.alloc (.cells (zer m) 22)).ownsRow base 22 1 (.slice (some ⟨W.heap.size, 0, none⟩) m m) m (rowL m fun _ => 0) := by
  have h := World.ownsRow_lit (base := base) (e := 22) (size := 1) W (zer m) m hb (by unfold maxLen; omega) (by rw [Nat.mul_one]; exact size_madeCells _ _)
  have e : (zer m).toList = rowL m fun _ => 0 := by
    unfold zer rowL
    rw [toList_madeCells_one]
    refine List.ext_getElem? fun j => ?_
    by_cases hj : j < m
    · simp [hj, n64]
    · rw [List.getElem?_eq_none (by simp; omega), List.getElem?_eq_none (by simp; omega)]
  rw [e] at h
  exact h

theorem undrew {a b : World} {row : Option Nat} (h : a.drew.grownBy b row) : a.grownBy b row := ⟨h.os, h.tape, h.output, h.size, h.block⟩
theorem one_at {W : World} {g : Nat} {x : Value} (h : W.cell? ⟨g, 0, none⟩ = some x) : ∀ j u, [x][j]? = some u → W.cell? ((⟨g, 0, none⟩ : Addr).add j) = some u := by
  intro j u hu
  match j with
  | 0 =>
    simp at hu
    subst hu
    simpa [Addr.add] using h
  | j + 1 => simp at hu

set_option maxRecDepth 100000 in
set_option maxHeartbeats 1000000 in
theorem refNew_no (r m seed : Int) (w : World) (h : r < 1 ∨ 8 < r ∨ m < 1 ∨ 1024 < m) :
    Calls Tryd.prog 37 #[.int .i64 r, .int .i64 m, .int .u64 seed] w fun e w' => e = .returned (.tuple #[.agg #[.slice none 0 0, .int .i64 0, .int .u64 0, .int .u64 0], .bool false]) ∧ Below w.heap.size w w' := by
  obtain ⟨b1, b2, b3, b4, e1, e2, e3, e4, hor⟩ : ∃ b1 b2 b3 b4 : Bool, decide (r < 1) = b1 ∧ decide (8 < r) = b2 ∧ decide (m < 1) = b3 ∧ decide (1024 < m) = b4 ∧ (b1 || b2 || b3 || b4) = true := ⟨_, _, _, _, rfl, rfl, rfl, rfl, by simpa [or_assoc] using h⟩
  have hbn := blk_new w #[.slice none 0 0, .int .i64 0, .int .u64 0, .int .u64 0] 38
  have HBN := Lib.hid hbn
  have HB := Lib.hid (box_below (W := w) (.cells #[.slice none 0 0, .int .i64 0, .int .u64 0, .int .u64 0] 38))
  clear hbn h
  cases b1 <;> cases b2 <;> cases b3 <;> cases b4 <;> first
    | (simp at hor; done)
    | (clear hor
       go_enter Tryd.func37, Tryd.ntmps37
       go_wp2_with (refine wpList_store_row rfl 38 (.tmp 6) _ rfl w.heap.size #[.slice none 0 0, .int .i64 0, .int .u64 0, .int .u64 0] rfl rfl 38 #[.slice none 0 0, .int .i64 0, .int .u64 0, .int .u64 0] HBN.out (by kernel_rfl) rfl (by simp [Value.oneCell']) ?_)
       have hrz := setRow_heap _ _ _ #[.slice none 0 0, .int .i64 0, .int .u64 0, .int .u64 0] _ _ HBN.out
       have r0 := cell_of_row _ _ 0 _ _ _ hrz
       have r1 := cell_of_row _ _ 1 _ _ _ hrz
       have r2 := cell_of_row _ _ 2 _ _ _ hrz
       have r3 := cell_of_row _ _ 3 _ _ _ hrz
       exact bodyPost_ret (v := .tuple #[.agg #[.slice none 0 0, .int .i64 0, .int .u64 0, .int .u64 0], .bool false]) (by simp [results, Tryd.results37, go_sem, r0, r1, r2, r3]) rfl ⟨rfl, below_setRow HB.out (Nat.le_refl _) _⟩)

set_option linter.unusedSimpArgs false in
set_option maxRecDepth 100000 in
set_option maxHeartbeats 2000000 in
theorem refNew_any (r m seed : Nat) (w : World) (r1 : 1 ≤ r) (r8 : r ≤ 8) (m1 : 1 ≤ m) (m2 : m ≤ 1024) :
    Calls Tryd.prog 37 #[.int .i64 (r : Int), .int .i64 (m : Int), .int .u64 (seed : Int)] w fun e w' => ∃ c cc, e = .returned (.tuple #[.agg #[.slice (some ⟨c, 0, none⟩) r cc, .int .i64 (m : Int), .int .u64 (seed : Int), .int .u64 0], .bool true]) ∧ RefS w.heap.size w'.heap.size w' c cc r m (fun _ _ => 0) ∧ Below w.heap.size w w' := by
  have d1 : decide ((r : Int) < 1) = false := by simp; omega
  have d2 : decide (8 < (r : Int)) = false := by simp; omega
  have d3 : decide ((m : Int) < 1) = false := by simp; omega
  have d4 : decide (1024 < (m : Int)) = false := by simp; omega
  obtain ⟨i0, hi, hz0, hz1, hz2⟩ := info_parts info_cells
  obtain ⟨n0, hn0⟩ : ∃ n0, w.heap.size = n0 := ⟨_, rfl⟩
  rw [hn0]
  have hmk := make_cells m (by omega)
  obtain ⟨w1, hw1⟩ : ∃ w1, (w.alloc (.cells #[.slice none 0 0, .int .i64 0, .int .u64 0, .int .u64 0] 38)).alloc (.cells #[.slice none 0 0, .int .i64 (m : Int), .int .u64 (seed : Int), .int .u64 0] 38) = w1 := ⟨_, rfl⟩
  have hsz0 : (w.alloc (.cells #[.slice none 0 0, .int .i64 0, .int .u64 0, .int .u64 0] 38)).heap.size = n0 + 1 := by rw [World.size_alloc, hn0]
  have hsz1 : w1.heap.size = n0 + 2 := by rw [← hw1, World.size_alloc, hsz0]
  have hB : Below n0 w w1 := by
    rw [← hw1]
    exact hn0 ▸ (box_below (W := w) _).alloc (by simp) _
  have hb0 : Blk w1 n0 #[.slice none 0 0, .int .i64 0, .int .u64 0, .int .u64 0] 38 := by
    rw [← hw1]
    exact hn0 ▸ (blk_new w _ _).later (box_below _)
  have hb1 : Bld w1 (n0 + 2) (n0 + 1) (.slice none 0 0) [] 0 m (fun _ _ => 0) seed 0 :=
    { blk := by rw [← hw1]; exact hsz0 ▸ blk_new _ _ _
      own := World.ownsRow_nil _ _ _ _
      rows := ⟨rfl, fun j hj => by omega⟩
      lt := by omega
      le := by omega }
  subst hw1
  have HB := Lib.hid hB
  have HB0 := Lib.hid hb0
  have HB1 := Lib.hid hb1
  have HN0 := Lib.hid hn0
  clear hB hb0 hb1 hsz0 hsz1
  go_enter Tryd.func37, Tryd.ntmps37
  go_wp2_with fail
  go_loopw [9] (fun kv wr => ∃ k : Nat, k ≤ r ∧ kv = .int .i64 (k : Int) ∧ Hid (∃ v vs, Bld wr (n0 + 2) (n0 + 1) v vs k m (fun _ _ => 0) seed 0) ∧ Hid (Below n0 w wr ∧ Blk wr n0 #[.slice none 0 0, .int .i64 0, .int .u64 0, .int .u64 0] 38)) (fun kv _ => r - (intOf kv).toNat)
  case atStart => exact ⟨0, by omega, rfl, Lib.hid ⟨_, _, HB1.out⟩, Lib.hid ⟨HB.out, HB0.out⟩⟩
  case round =>
    obtain ⟨k, hkr, rfl, HV, HW⟩ := hrel
    by_cases hlt : k < r
    · have dl : decide ((k : Int) < (r : Int)) = true := by simp; omega
      obtain ⟨v, vs, hbd⟩ := HV.out
      have k0 : wr.cell? ⟨n0 + 1, 0, none⟩ = some v := hbd.blk.cell 0 rfl
      obtain ⟨nw, hnw⟩ : ∃ nw, wr.heap.size = nw := ⟨_, rfl⟩
      have hle : n0 + 2 ≤ nw := hnw ▸ hbd.le
      have hbl3 : Below wr.heap.size wr (wr.alloc (.cells (zer m) 22)) := box_below _
      have hbl4 : Below (wr.alloc (.cells (zer m) 22)).heap.size (wr.alloc (.cells (zer m) 22)) ((wr.alloc (.cells (zer m) 22)).alloc (.cells #[.slice (some ⟨nw, 0, none⟩) m m] 83)) := box_below _
      have hbd3 := hbd.later hbl3
      have hbd4 := hbd3.later hbl4
      have hs3 : (wr.alloc (.cells (zer m) 22)).heap.size = nw + 1 := by rw [World.size_alloc, hnw]
      have hs4 : ((wr.alloc (.cells (zer m) 22)).alloc (.cells #[.slice (some ⟨nw, 0, none⟩) m m] 83)).heap.size = nw + 2 := by rw [World.size_alloc, hs3]
      have hu := own_later (hnw ▸ own_zer wr (n0 + 2) m hbd.le (by omega)) hbl4
      have hone : ((wr.alloc (.cells (zer m) 22)).alloc (.cells #[.slice (some ⟨nw, 0, none⟩) m m] 83)).cell? ⟨nw + 1, 0, none⟩ = some (.slice (some ⟨nw, 0, none⟩) m m) := (hs3 ▸ blk_new (wr.alloc (.cells (zer m) 22)) #[.slice (some ⟨nw, 0, none⟩) m m] 83).cell 0 rfl
      have hS3 : (wr.alloc (.cells (zer m) 22)).cell? ⟨n0 + 1, 0, none⟩ = some v := hbd3.blk.cell 0 rfl
      have hS4 : ((wr.alloc (.cells (zer m) 22)).alloc (.cells #[.slice (some ⟨nw, 0, none⟩) m m] 83)).cell? ⟨n0 + 1, 0, none⟩ = some v := hbd4.blk.cell 0 rfl
      have HS3 := Lib.hid hS3
      have HS4 := Lib.hid hS4
      have HU := Lib.hid hu
      have HONE := Lib.hid hone
      have HBD4 := Lib.hid hbd4
      have HWB : Hid (Below n0 w ((wr.alloc (.cells (zer m) 22)).alloc (.cells #[.slice (some ⟨nw, 0, none⟩) m m] 83)) ∧ Blk ((wr.alloc (.cells (zer m) 22)).alloc (.cells #[.slice (some ⟨nw, 0, none⟩) m m] 83)) n0 #[.slice none 0 0, .int .i64 0, .int .u64 0, .int .u64 0] 38) := Lib.hid ⟨HW.out.1.trans ((hbl3.mono (by omega)).trans (hbl4.mono (by omega))), (HW.out.2.later hbl3).later hbl4⟩
      clear HV hbd hbd3 hbd4 hs3 hs4 hu hone hS3 hS4 hbl3 hbl4 HW
      have hmk := make_cells m (by omega)
      go_wp2_with fail
      refine RegionBut.region_but 7 (S := fun W => W.cell? ⟨n0 + 1, 0, none⟩ = some v) (by kernel_rfl) ?_ (fun hHeld => ?_)
      · exact k0
      refine RegionBut.but_take (i := 0) (v := ?_) rfl (by kernel_rfl) (by kernel_rfl) (by kernel_rfl) (by kernel_rfl) (fun _ _ _ h => h) (Or.inl ⟨by rfl, ?_⟩) (by assumption) ?_
      rotate_left
      · intro wq hSw; (try dsimp only at hSw); go_simp; (try with_reducible rfl)
      simp only [Act.put, List.getElem_toArray, List.getElem_cons_succ, List.getElem_cons_zero, List.setIfInBounds_toArray, List.set_cons_zero, List.set_cons_succ]
      refine RegionBut.but_take (i := 2) (v := ?_) rfl (by kernel_rfl) (by kernel_rfl) (by kernel_rfl) (by kernel_rfl) (fun _ _ _ h => h) (Or.inl ⟨by rfl, ?_⟩) (by assumption) ?_
      rotate_left
      · intro wq hSw; (try dsimp only at hSw); go_simp; (try with_reducible rfl)
      simp only [Act.put, List.getElem_toArray, List.getElem_cons_succ, List.getElem_cons_zero, List.setIfInBounds_toArray, List.set_cons_zero, List.set_cons_succ]
      refine RegionBut.but_take (i := 1) (v := ?_) rfl (by kernel_rfl) (by kernel_rfl) (by kernel_rfl) (by kernel_rfl) (fun _ _ _ h => h) (Or.inl ⟨by rfl, ?_⟩) (by assumption) ?_
      rotate_left
      · intro wq hSw; (try dsimp only at hSw); have hq := hSw; go_simp; (try with_reducible rfl)
      simp only [Act.put, List.getElem_toArray, List.getElem_cons_succ, List.getElem_cons_zero, List.setIfInBounds_toArray, List.set_cons_zero, List.set_cons_succ]
      refine RegionBut.but_ready (rs := [3]) (by kernel_rfl) (by simp) ?_
      refine RegionBut.Nexts.cons rfl (fun K hK => ?_) RegionBut.Nexts.nil
      go_simp
      (try go_wp2_with fail)
      refine hK.out _ _ ?_ (fun hHeld => ?_)
      · exact HS3.out
      clear hK K
      try simp only [Act.put, List.getElem_toArray, List.getElem_cons_succ, List.getElem_cons_zero, List.setIfInBounds_toArray, List.set_cons_zero, List.set_cons_succ]
      refine RegionBut.but_ready (rs := [4]) (by kernel_rfl) (by simp) ?_
      refine RegionBut.Nexts.cons rfl (fun K hK => ?_) RegionBut.Nexts.nil
      go_simp
      (try go_wp2_with fail)
      refine hK.out _ _ ?_ (fun hHeld => ?_)
      · exact HS4.out
      clear hK K
      try simp only [Act.put, List.getElem_toArray, List.getElem_cons_succ, List.getElem_cons_zero, List.setIfInBounds_toArray, List.set_cons_zero, List.set_cons_succ]
      refine RegionBut.but_ready (rs := [5]) (by kernel_rfl) (by simp) ?_
      refine RegionBut.Nexts.cons rfl (fun K hK => ?_) RegionBut.Nexts.nil
      refine step_append_lies _ rfl (.tmp 34) (.tmp 37) 36 rfl (n0 + 2) 83 i0 (.slice none 0 0) 1 24 Tryd.underlying36 hi hz0 hz1 hz2 rfl (by decide) v k vs rfl HBD4.out.own ⟨nw + 1, 0, none⟩ 1 1 [.slice (some ⟨nw, 0, none⟩) m m] rfl rfl (one_at HONE.out) (by simp [Value.oneCell']) (by decide) (by unfold maxLen; omega) (by omega) HBD4.out.le _ rfl ?_
      intro g2 c2 w2 hown2 hgrd _ _
      have hgr2 := undrew hgrd
      have hne : v.ownBlock = some (n0 + 1) → False := fun e => by have := (HBD4.out.own.lt (n0 + 1) e).1; omega
      have hbk2 : Blk w2 (n0 + 1) _ _ := HBD4.out.blk.same (hgr2.block _ HBD4.out.blk.lt (fun e => hne e.symm))
      have hS5 : w2.cell? ⟨n0 + 1, 0, none⟩ = some v := hbk2.cell 0 rfl
      have hfr5 := hbk2.free 0
      have HMORE := Lib.hid (HBD4.out.more (g := fun _ _ => 0) HU.out hgr2 hown2 (fun _ _ => rfl))
      have HB5 := Lib.hid (show Below n0 w (w2.setCell ⟨n0 + 1, 0, none⟩ (.slice (some ⟨g2, 0, none⟩) (k + 1) c2)) ∧ Blk (w2.setCell ⟨n0 + 1, 0, none⟩ (.slice (some ⟨g2, 0, none⟩) (k + 1) c2)) n0 #[.slice none 0 0, .int .i64 0, .int .u64 0, .int .u64 0] 38 from ⟨(HWB.out.1.grown hgr2 (Nat.le_trans (by omega) HBD4.out.le) (fun j hj => by have := (HBD4.out.own.lt j hj).1; omega)).setCell (by simp) _, (HWB.out.2.same (hgr2.block _ HWB.out.2.lt (fun e => by have := (HBD4.out.own.lt n0 e.symm).1; omega))).same (Below.heap_setCell _ _ _ _ (by simp))⟩)
      clear hne hbk2 hown2 hgr2 hgrd
      refine hK.out _ _ ?_ (fun hHeld => ?_)
      · exact hS5
      clear hK K
      try simp only [Act.put, List.getElem_toArray, List.getElem_cons_succ, List.getElem_cons_zero, List.setIfInBounds_toArray, List.set_cons_zero, List.set_cons_succ]
      refine RegionBut.but_take (i := 6) (v := ?_) rfl (by kernel_rfl) (by kernel_rfl) (by kernel_rfl) (by kernel_rfl) (fun _ _ _ h => h) (Or.inl ⟨by rfl, ?_⟩) (by assumption) ?_
      rotate_left
      · intro wq hSw; (try dsimp only at hSw); go_simp; (try with_reducible rfl)
      simp only [Act.put, List.getElem_toArray, List.getElem_cons_succ, List.getElem_cons_zero, List.setIfInBounds_toArray, List.set_cons_zero, List.set_cons_succ]
      refine RegionBut.but_ready (rs := [7]) (by kernel_rfl) (by simp) ?_
      refine RegionBut.Nexts.last rfl (fun K hK => ?_)
      have hz := hS5
      go_simp
      (try go_wp2_with fail)
      refine hK.out _ _ trivial (fun _ => ?_)
      clear hK K
      try simp only [Act.put, List.getElem_toArray, List.getElem_cons_succ, List.getElem_cons_zero, List.setIfInBounds_toArray, List.set_cons_zero, List.set_cons_succ]
      refine RegionBut.but_done (by kernel_rfl) ?_ _
      clear hHeld
      go_wp2_with fail
      go_roundw
      case rel => exact ⟨k + 1, by omega, by go_num, Lib.hid ⟨_, _, HMORE.out⟩, HB5⟩
      case measure => simp [intOf]; omega
    · obtain rfl : k = r := by omega
      have dl : decide ((k : Int) < (k : Int)) = false := by simp
      obtain ⟨v, vs, hbd⟩ := HV.out
      obtain ⟨c, cc, rfl, hrs⟩ := hbd.refS r1 m1
      have k0 := hbd.blk.cell 0 rfl
      have k1 := hbd.blk.cell 1 rfl
      have k2 := hbd.blk.cell 2 rfl
      have k3 := hbd.blk.cell 3 rfl
      have HRS := Lib.hid hrs
      have HBK := Lib.hid HW.out.2
      have HBW := Lib.hid HW.out.1
      clear hbd hrs HV HW
      go_wp2_with (refine wpList_store_row rfl 38 (.tmp 6) _ rfl n0 #[.slice (some ⟨c, 0, none⟩) k cc, .int .i64 (m : Int), .int .u64 (seed : Int), .int .u64 0] rfl rfl 38 #[.slice none 0 0, .int .i64 0, .int .u64 0, .int .u64 0] HBK.out (by kernel_rfl) rfl (by simp [Value.oneCell']) ?_)
      have hrz := setRow_heap _ _ _ #[.slice (some ⟨c, 0, none⟩) k cc, .int .i64 (m : Int), .int .u64 (seed : Int), .int .u64 0] _ _ HBK.out
      have r0 := cell_of_row _ _ 0 _ _ _ hrz
      have r1 := cell_of_row _ _ 1 _ _ _ hrz
      have r2 := cell_of_row _ _ 2 _ _ _ hrz
      have r3 := cell_of_row _ _ 3 _ _ _ hrz
      refine bodyPost_ret (v := .tuple #[.agg #[.slice (some ⟨c, 0, none⟩) k cc, .int .i64 (m : Int), .int .u64 (seed : Int), .int .u64 0], .bool true]) (by simp [results, Tryd.results37, go_sem, r0, r1, r2, r3]) rfl ⟨c, cc, rfl, ?_, below_setRow HBW.out (Nat.le_refl _) _⟩
      exact (HRS.out _ (by simp [World.setRow]) (fun i h1 _ => setRow_other _ _ _ _ (by omega))).mono (Nat.le_refl _) (by omega)
end Go.Proofs.YtkhbodlffhfmnaaDoor
