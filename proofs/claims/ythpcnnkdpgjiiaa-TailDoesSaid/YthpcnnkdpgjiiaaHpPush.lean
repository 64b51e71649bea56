/-
  What the row's Push does: one more timer is put behind all; the map tells so.
-/
import Derived.Test.YthpcnnkdpgjiiaaRegionBut
import Derived.Test.YthpcnnkdpgjiiaaHpPop
namespace Go.Proofs.Ythpcnnkdpgjiiaa
open Go.RowKit Go.Maps Go.Proofs.HeapMath

theorem info_tm : (Try.prog.info? 123).map (fun i => (i.zero, i.size, i.bytes)) = some (some (.agg #[.int .i64 0, .int .i64 0]), 2, 16) := by kernel_rfl
theorem as_tm (v : Value) (w : World) : (Instr.typeAssert (.iface 123 v) 20 123 false).run Try.prog w = .ok v w := by kernel_rfl
theorem pair_at (W : World) (n : Nat) (hn : W.heap.size = n) (a b : Int) (T : TypeId) : ∀ j u, [Value.int .i64 a, .int .i64 b][j]? = some u → (W.alloc (.cells #[.int .i64 a, .int .i64 b] T)).cell? ((⟨n, 0, none⟩ : Addr).add j) = some u := by
  intro j u hu
  subst hn
  have hp : (⟨W.heap.size, 0, none⟩ : Addr).add j = ⟨W.heap.size, j, none⟩ := by unfold Addr.add; split <;> simp_all
  rw [hp]
  exact (blk_new W _ T).cell j (by simpa using hu)

theorem push_end {S M n cap n0 n2 g2 c2 : Nat} {A : Option Addr} {mo : Value} {l : List Tm} {a b : Int} {bs : List Nat} {D : DataW Unit} {w w2 w3 : World}
    (y0 : Blk w3 S #[mo, .slice A n cap, .map (some M)] 108) (hown3 : w3.ownsRow 0 123 2 (.slice (some ⟨g2, 0, none⟩) (n + 1) c2) (n + 1) (cl l ++ [.int .i64 a, .int .i64 b])) (hM3 : w3.heap[M]? = w2.heap[M]?)
    (hmap : w2.ownsMap Try.prog 3 (plainElem Try.prog 3) M (n + 1) D) (hP : Pl D (l ++ [(a, b)])) (hi : Nn l ∧ ∀ t ∈ l, In64 t) (hno : isin b l = false) (hl : l.length = n) (hmost : n < 5000) (hmu : Mut bs w w3)
    (hv : (∀ k, (Value.slice A n cap).ownBlock = some k → k < n0) ∧ (∀ k, (Value.slice A n cap).ownBlock = some k → k ≠ M ∧ k ≠ S) ∧ (∀ k, (Value.slice A n cap).ownBlock = some k → k ∈ bs) ∧ S ≠ M ∧ S ∈ bs ∧ M ∈ bs)
    (hor : (Value.slice A n cap).ownBlock = some g2 ∨ g2 = n2 + 1) (h0 : n0 ≤ n2) (hSM : S < n0 ∧ M < n0) (ht : In64 (a, b)) :
    Ending.returned (Value.tuple #[]) = .returned (.tuple #[]) ∧ ∃ g cap', Rw (w3.setCell ⟨S, 1, none⟩ (.slice (some ⟨g2, 0, none⟩) (n + 1) c2)) S M mo (.slice (some ⟨g, 0, none⟩) (n + 1) cap') (l ++ [(a, b)]) ∧ Mut bs w (w3.setCell ⟨S, 1, none⟩ (.slice (some ⟨g2, 0, none⟩) (n + 1) c2)) ∧ ((Value.slice A n cap).ownBlock = some g ∨ n0 ≤ g) := by
  have hlen : (l ++ [(a, b)]).length = n + 1 := by simp [hl]
  have hgS : g2 ≠ S := by
    rcases hor with h | h
    · exact (hv.2.1 g2 h).2
    · omega
  refine ⟨rfl, g2, c2, ⟨y0.set 1 _, ?_, ⟨D, map_same ?_ ((Below.heap_setCell _ _ _ _ hv.2.2.2.1.symm).trans hM3), hP⟩, ?_, ?_, by omega⟩, hmu.setCell hv.2.2.2.2.1 _, ?_⟩
  · rw [hlen, cl_append]
    refine row_same hown3 fun g hg => ?_
    simp [Value.ownBlock] at hg
    subst hg
    exact Below.heap_setCell _ _ _ _ hgS
  · rw [hlen]; exact hmap
  · exact (hi.1.cons (t := (a, b)) (isin_false.1 hno)).perm (List.perm_append_comm (l₁ := l) (l₂ := [(a, b)]))
  · intro t h
    rcases List.mem_append.1 h with h | h
    · exact hi.2 t h
    · rw [List.mem_singleton.1 h]; exact ht
  · rcases hor with h | h
    · exact .inl h
    · exact .inr (by omega)

set_option linter.unusedSimpArgs false in
set_option maxRecDepth 100000 in
set_option maxHeartbeats 1000000 in
theorem rpush_any {S M : Nat} {mo v : Value} {l : List Tm} (t : Tm) (w : World) (h : Rw w S M mo v l) (ht : In64 t) (hno : isin t.2 l = false) (hmost : l.length < 5000) :
    Calls Try.prog 74 #[.pointer (some ⟨S, 1, none⟩), .iface 123 (.agg #[.int .i64 t.1, .int .i64 t.2])] w fun e w' => e = .returned (.tuple #[]) ∧ ∃ g cap, Rw w' S M mo (.slice (some ⟨g, 0, none⟩) (l.length + 1) cap) (l ++ [t]) ∧ Mut (S :: M :: v.ownBlock.toList) w w' ∧ (v.ownBlock = some g ∨ w.heap.size ≤ g) := by
  obtain ⟨A, cap, rfl, h1, h2⟩ := h.len
  obtain ⟨q1, q2⟩ := ht
  have s1 := h.own.cell 1 rfl
  have s2 := h.own.cell 2 rfl
  have hB : Below w.heap.size w (w.alloc (.cells #[.int .i64 t.1, .int .i64 t.2] 123)) := box_below _
  have hr := h.later hB
  have hb := blk_new w #[.int .i64 t.1, .int .i64 t.2] 123
  have hSl := h.own.lt
  have hMl := h.map.lt
  obtain ⟨n0, hn0⟩ : ∃ n0, w.heap.size = n0 := ⟨_, rfl⟩
  have hsz : (w.alloc (.cells #[.int .i64 t.1, .int .i64 t.2] 123)).heap.size = n0 + 1 := by rw [World.size_alloc, hn0]
  rw [hn0] at hb hB hSl hMl ⊢
  have hvl : ∀ k, (Value.slice A l.length cap).ownBlock = some k → k < n0 := fun k hk => by have := (h.row.lt k hk).2; omega
  have hap : ∀ k, (Value.slice A l.length cap).ownBlock = some k → k ≠ M ∧ k ≠ S := fun k hk => by
    rcases h.row.2 with ⟨e, _⟩ | ⟨g, cap', cur, e, _⟩
    · rw [e] at hk; simp [Value.ownBlock] at hk
    · have h3 := h
      rw [e] at hk h3
      simp [Value.ownBlock] at hk
      subst hk
      exact ⟨h3.apart.2.2, h3.apart.1.symm⟩
  have hap2 := h.apart2
  obtain ⟨a, b⟩ := t
  simp only at q1 q2 hno hb hB hr hsz ⊢
  obtain ⟨n, hn⟩ : ∃ n, l.length = n := ⟨_, rfl⟩
  rw [hn] at s1 h1 hr hmost hvl hap ⊢
  obtain ⟨bs, hbs⟩ : ∃ bs, S :: M :: (Value.slice A n cap).ownBlock.toList = bs := ⟨_, rfl⟩
  have hSb : S ∈ bs := by rw [← hbs]; simp
  have hMb : M ∈ bs := by rw [← hbs]; simp
  have hvb : ∀ k, (Value.slice A n cap).ownBlock = some k → k ∈ bs := fun k hk => by rw [← hbs, hk]; simp
  rw [hbs]
  have HV := Lib.hid (show (∀ k, (Value.slice A n cap).ownBlock = some k → k < n0) ∧ (∀ k, (Value.slice A n cap).ownBlock = some k → k ≠ M ∧ k ≠ S) ∧ (∀ k, (Value.slice A n cap).ownBlock = some k → k ∈ bs) ∧ S ≠ M ∧ S ∈ bs ∧ M ∈ bs from ⟨hvl, hap, hvb, hap2, hSb, hMb⟩)
  have HR := Lib.hid hr
  have HB := Lib.hid (show Below n0 w (w.alloc (.cells #[.int .i64 a, .int .i64 b] 123)) ∧ w.heap.size = n0 ∧ (w.alloc (.cells #[.int .i64 a, .int .i64 b] 123)).heap.size = n0 + 1 from ⟨hB, hn0, hsz⟩)
  have HK := Lib.hid hb
  have HL := Lib.hid (show l.length = n from hn)
  have HN := Lib.hid hno
  have HOB := Lib.hid (show ∀ g : Nat, (Value.slice A n cap).ownBlock = some g ∨ n0 ≤ g → (Value.slice A n cap).ownBlock = some g ∨ n0 ≤ g from fun _ h => h)
  have HI := Lib.hid (show Nn l ∧ ∀ t ∈ l, In64 t from ⟨h.nn, h.in64⟩)
  clear h hr hB hb hn hno hvl hap hap2 hbs hSb hMb hvb hsz
  have has := as_tm
  go_enter Try.func74, Try.ntmps74
  go_wp2_with fail
  clear s1 s2 hn0 has
  generalize w.alloc (.cells #[.int .i64 a, .int .i64 b] 123) = w1 at HR HB HK ⊢
  have s1 := HR.out.own.cell 1 rfl
  have s2 := HR.out.own.cell 2 rfl
  have b1 := HK.out.cell 1 rfl
  go_still_tail 12, (by kernel_rfl)
  change wpList _ _ _ _ _ w1.drew
  obtain ⟨D, hD, hP⟩ := HR.out.map
  have hPP := hP.snoc (t := (a, b)) (hD.tidy law_int) HN.out
  have hD2 : w1.drew.ownsMap Try.prog 3 (plainElem Try.prog 3) M l.length D := hD
  rw [HL.out] at hPP hD2
  clear hD hP
  have HPP := Lib.hid hPP
  clear hPP
  refine wpList_mapUpdate_own _ rfl _ _ _ 103 rfl 3 3 law_int Try.underlying103 _ M n D rfl hD2 (by unfold maxLen; omega) _ _ _ rfl rfl (key_int q2.1 q2.2) _ [] (plainElem_int Try.underlying3 (wf64 (by omega) (by omega))) ?_
  intro w2 hown2 hg2
  have hown : Blk w2 S #[mo, .slice A n cap, .map (some M)] 108 := HR.out.own.same (hg2.block _ HR.out.own.lt (by simpa using HV.out.2.2.2.1))
  have hrow : w2.ownsRow 0 123 2 (.slice A n cap) n (cl l) := by
    have h0 := HR.out.row
    rw [HL.out] at h0
    refine row_same h0 fun g hg => hg2.block g (h0.lt g hg).2 ?_
    simpa using (HV.out.2.1 g hg).1
  have hbx : Blk w2 n0 #[.int .i64 a, .int .i64 b] 123 := HK.out.same (hg2.block _ HK.out.lt (by simp; omega))
  have hmut : Mut bs w w2 := by
    have h1 : Mut bs w w1 := ⟨HB.out.1.os, HB.out.1.tape, HB.out.1.output, HB.out.1.size, fun k hk _ => HB.out.1.block k (by have := HB.out.2.1; omega)⟩
    exact h1.drew.grown hg2 HV.out.2.2.2.2.2
  have hsz2 : n0 + 1 ≤ w2.heap.size := by have := hg2.size; have := HB.out.2.2; simp at *; omega
  have HOWN := Lib.hid hown
  have HROW := Lib.hid hrow
  have HBX := Lib.hid hbx
  have HMU := Lib.hid hmut
  have HMAP := Lib.hid hown2
  have s1 := hown.cell 1 rfl
  have b0 := hbx.cell 0 rfl
  have b1 := hbx.cell 1 rfl
  have z1 : w2.drew.cell? ⟨S, 1, none⟩ = some (.slice A n cap) := hown.cell 1 rfl
  have z2 : Blk w2.drew n0 #[.int .i64 a, .int .i64 b] 123 := hbx
  obtain ⟨n2, hn2⟩ : ∃ n2, w2.heap.size = n2 := ⟨_, rfl⟩
  have hn2d : w2.drew.heap.size = n2 := hn2
  rw [hn2] at hsz2
  have hSl2 : S < n2 := by omega
  obtain ⟨i0, hi, hz0, hz1, hz2⟩ := info_parts info_tm
  clear hown hrow hbx hmut hown2 hg2 hD2 HR HK s1 b0 b1 s2
  dsimp only [Act.put]
  go_wp2_with fail
  refine RegionBut.region_but 10 (S := fun W => W.cell? ⟨S, 1, none⟩ = some (.slice A n cap) ∧ Blk W n0 #[.int .i64 a, .int .i64 b] 123) (by kernel_rfl) ?_ (fun hHeld => ?_)
  · exact ⟨z1, z2⟩
  refine RegionBut.but_take (i := 0) (v := ?_) rfl (by kernel_rfl) (by kernel_rfl) (by kernel_rfl) (by kernel_rfl) (fun _ _ _ h => h) (Or.inl ⟨by rfl, ?_⟩) (by assumption) ?_
  rotate_left
  · intro wq hSw; (try dsimp only at hSw); go_simp; (try with_reducible rfl)
  simp only [Act.put, List.getElem_toArray, List.getElem_cons_succ, List.getElem_cons_zero, List.setIfInBounds_toArray, List.set_cons_zero, List.set_cons_succ]
  refine RegionBut.but_take (i := 1) (v := ?_) rfl (by kernel_rfl) (by kernel_rfl) (by kernel_rfl) (by kernel_rfl) (fun _ _ _ h => h) (Or.inl ⟨by rfl, ?_⟩) (by assumption) ?_
  rotate_left
  · intro wq hSw; (try dsimp only at hSw); go_simp; (try with_reducible rfl)
  simp only [Act.put, List.getElem_toArray, List.getElem_cons_succ, List.getElem_cons_zero, List.setIfInBounds_toArray, List.set_cons_zero, List.set_cons_succ]
  refine RegionBut.but_take (i := 2) (v := ?_) rfl (by kernel_rfl) (by kernel_rfl) (by kernel_rfl) (by kernel_rfl) (fun _ _ _ h => h) (Or.inl ⟨by rfl, ?_⟩) (by assumption) ?_
  rotate_left
  · intro wq hSw; (try dsimp only at hSw); go_simp; (try with_reducible rfl)
  simp only [Act.put, List.getElem_toArray, List.getElem_cons_succ, List.getElem_cons_zero, List.setIfInBounds_toArray, List.set_cons_zero, List.set_cons_succ]
  refine RegionBut.but_take (i := 3) (v := ?_) rfl (by kernel_rfl) (by kernel_rfl) (by kernel_rfl) (by kernel_rfl) (fun _ _ _ h => h) (Or.inl ⟨by rfl, ?_⟩) (by assumption) ?_
  rotate_left
  · intro wq hSw; (try dsimp only at hSw); go_simp; (try with_reducible rfl)
  simp only [Act.put, List.getElem_toArray, List.getElem_cons_succ, List.getElem_cons_zero, List.setIfInBounds_toArray, List.set_cons_zero, List.set_cons_succ]
  refine RegionBut.but_take (i := 4) (v := ?_) rfl (by kernel_rfl) (by kernel_rfl) (by kernel_rfl) (by kernel_rfl) (fun _ _ _ h => h) (Or.inl ⟨by rfl, ?_⟩) (by assumption) ?_
  rotate_left
  · intro wq hSw; (try dsimp only at hSw); have hq := hSw.1; go_simp; (try with_reducible rfl)
  simp only [Act.put, List.getElem_toArray, List.getElem_cons_succ, List.getElem_cons_zero, List.setIfInBounds_toArray, List.set_cons_zero, List.set_cons_succ]
  refine RegionBut.but_take (i := 5) (v := ?_) rfl (by kernel_rfl) (by kernel_rfl) (by kernel_rfl) (by kernel_rfl) (fun _ _ _ h => h) (Or.inl ⟨by rfl, ?_⟩) (by assumption) ?_
  rotate_left
  · intro wq hSw; (try dsimp only at hSw); have q0 := hSw.2.cell 0 rfl; have q1 := hSw.2.cell 1 rfl; go_simp; (try with_reducible rfl)
  simp only [Act.put, List.getElem_toArray, List.getElem_cons_succ, List.getElem_cons_zero, List.setIfInBounds_toArray, List.set_cons_zero, List.set_cons_succ]
  refine RegionBut.but_ready (rs := [6]) (by kernel_rfl) (by simp) ?_
  refine RegionBut.Nexts.cons rfl (fun K hK => ?_) RegionBut.Nexts.nil
  go_simp
  (try go_wp2_with fail)
  refine hK.out _ _ ?_ (fun hHeld => ?_)
  · exact ⟨(World.cell?_alloc_lt _ _ _ (by show S < w2.heap.size; omega)).trans z1, z2.later (box_below _)⟩
  clear hK K
  try simp only [Act.put, List.getElem_toArray, List.getElem_cons_succ, List.getElem_cons_zero, List.setIfInBounds_toArray, List.set_cons_zero, List.set_cons_succ]
  refine RegionBut.but_ready (rs := [7]) (by kernel_rfl) (by simp) ?_
  refine RegionBut.Nexts.cons rfl (fun K hK => ?_) RegionBut.Nexts.nil
  refine step_append_lies _ rfl (.tmp 23) (.tmp 25) 104 rfl 0 123 i0 (.agg #[.int .i64 0, .int .i64 0]) 2 16 Try.underlying104 hi hz0 hz1 hz2 rfl (by decide) (.slice A n cap) n (cl l) rfl (World.ownsRow.alloc (w := w2.drew) (row_same HROW.out fun _ _ => rfl) _) ⟨n2, 0, none⟩ 1 1 [.int .i64 a, .int .i64 b] rfl rfl (pair_at w2.drew n2 hn2d a b _) (by simp [Value.oneCell']) (by decide) (by unfold maxLen; omega) (by omega) (Nat.zero_le _) (n2 + 1) (by simp [hn2]) ?_
  intro g2 c2 w3 hown3 hgr3 hor3 hlt3
  have hS3 : w3.heap[S]? = w2.heap[S]? := (hgr3.block S (by simp; omega) (fun e => (HV.out.2.1 S e.symm).2 rfl)).trans (Below.heap_alloc _ _ _ (by show S < w2.heap.size; omega))
  have hM3 : w3.heap[M]? = w2.heap[M]? := (hgr3.block M (by simp; omega) (fun e => (HV.out.2.1 M e.symm).1 rfl)).trans (Below.heap_alloc _ _ _ (by show M < w2.heap.size; omega))
  have h03 : w3.heap[n0]? = w2.heap[n0]? := (hgr3.block n0 (by simp; omega) (fun e => by have := HV.out.1 n0 e.symm; omega)).trans (Below.heap_alloc _ _ _ (by show n0 < w2.heap.size; omega))
  have y0 : Blk w3 S #[mo, .slice A n cap, .map (some M)] 108 := HOWN.out.same hS3
  have y1 : w3.cell? ⟨S, 1, none⟩ = some (.slice A n cap) := y0.cell 1 rfl
  have y2 : Blk w3 n0 #[.int .i64 a, .int .i64 b] 123 := HBX.out.same h03
  have HY := Lib.hid y0
  have hmut3 : Mut bs w w3 := HMU.out.drew.trans ⟨hgr3.os, hgr3.tape, hgr3.output, by have := hgr3.size; simp at this ⊢; omega, fun k hk hkb => (hgr3.block k (by simp at hk ⊢; omega) (fun e => hkb (HV.out.2.2.1 k e.symm))).trans (Below.heap_alloc _ _ _ hk)⟩
  have HMU3 := Lib.hid hmut3
  have HOWN3 := Lib.hid hown3
  have HM3 := Lib.hid hM3
  have HOR := Lib.hid hor3
  clear hS3 hM3 h03 y0 hmut3 hown3 hgr3 hor3
  refine hK.out _ _ ?_ (fun hHeld => ?_)
  · exact ⟨y1, y2⟩
  clear hK K
  try simp only [Act.put, List.getElem_toArray, List.getElem_cons_succ, List.getElem_cons_zero, List.setIfInBounds_toArray, List.set_cons_zero, List.set_cons_succ]
  refine RegionBut.but_ready (rs := [8]) (by kernel_rfl) (by simp) ?_
  refine RegionBut.Nexts.cons rfl (fun K hK => ?_) RegionBut.Nexts.nil
  go_simp
  (try go_wp2_with fail)
  refine hK.out _ _ ?_ (fun hHeld => ?_)
  · exact hHeld
  clear hK K
  try simp only [Act.put, List.getElem_toArray, List.getElem_cons_succ, List.getElem_cons_zero, List.setIfInBounds_toArray, List.set_cons_zero, List.set_cons_succ]
  refine RegionBut.but_take (i := 9) (v := ?_) rfl (by kernel_rfl) (by kernel_rfl) (by kernel_rfl) (by kernel_rfl) (fun _ _ _ h => h) (Or.inl ⟨by rfl, ?_⟩) (by assumption) ?_
  rotate_left
  · intro wq hSw; (try dsimp only at hSw); go_simp; (try with_reducible rfl)
  simp only [Act.put, List.getElem_toArray, List.getElem_cons_succ, List.getElem_cons_zero, List.setIfInBounds_toArray, List.set_cons_zero, List.set_cons_succ]
  refine RegionBut.but_ready (rs := [10]) (by kernel_rfl) (by simp) ?_
  refine RegionBut.Nexts.last rfl (fun K hK => ?_)
  have f1 : w3.frozen? ⟨S, 1, none⟩ = false := HY.out.free 1
  go_simp
  (try go_wp2_with fail)
  refine hK.out _ _ trivial (fun _ => ?_)
  clear hK K
  try simp only [Act.put, List.getElem_toArray, List.getElem_cons_succ, List.getElem_cons_zero, List.setIfInBounds_toArray, List.set_cons_zero, List.set_cons_succ]
  refine RegionBut.but_done (by kernel_rfl) ?_ _
  clear hHeld
  go_wp2_with fail
  go_end0
  exact push_end HY.out HOWN3.out HM3.out HMAP.out HPP.out HI.out HN.out HL.out hmost HMU3.out HV.out HOR.out (by omega) ⟨hSl, hMl⟩ ⟨q1, q2⟩
end Go.Proofs.Ythpcnnkdpgjiiaa
