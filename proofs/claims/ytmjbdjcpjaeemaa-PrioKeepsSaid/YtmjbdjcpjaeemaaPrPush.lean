/-
  What the row's Push does: one more offer is put behind all.
-/
import Derived.Test.YtmjbdjcpjaeemaaRegionBut
import Derived.Test.YtmjbdjcpjaeemaaPrPop
namespace Go.Proofs.Ytmjbdjcpjaeemaa
open Go.RowKit Go.Proofs.PrioMath

theorem info_of : (Try.prog.info? 59).map (fun i => (i.zero, i.size, i.bytes)) = some (some (.agg #[.int .i64 0, .int .u64 0, .int .u64 0]), 3, 24) := by kernel_rfl
theorem as_of (v : Value) (w : World) : (Instr.typeAssert (.iface 59 v) 20 59 false).run Try.prog w = .ok v w := by kernel_rfl
theorem pair_at (W : World) (n : Nat) (hn : W.heap.size = n) (a b c : Value) (T : TypeId) : ∀ j u, [a, b, c][j]? = some u → (W.alloc (.cells #[a, b, c] T)).cell? ((⟨n, 0, none⟩ : Addr).add j) = some u := by
  intro j u hu
  subst hn
  have hp : (⟨W.heap.size, 0, none⟩ : Addr).add j = ⟨W.heap.size, j, none⟩ := by unfold Addr.add; split <;> simp_all
  rw [hp]
  exact (blk_new W _ T).cell j (by simpa using hu)

theorem push_end {S n cap n0 g2 c2 : Nat} {A : Option Addr} {mo : Value × Value × Value} {l : List Of} {t : Of} {bs : List Nat} {w w3 : World}
    (y0 : Blk w3 S #[mo.1, mo.2.1, mo.2.2, .slice A n cap] 55) (hown3 : w3.ownsRow 0 59 3 (.slice (some ⟨g2, 0, none⟩) (n + 1) c2) (n + 1) (cl l ++ [.int .i64 (t.p : Int), .int .u64 (t.w : Int), .int .u64 (t.d : Int)]))
    (hi : ∀ t ∈ l, Fit t) (hl : l.length = n) (hmost : n < 5000) (hmu : Mut bs w w3)
    (hv : (∀ k, (Value.slice A n cap).ownBlock = some k → k < n0) ∧ (∀ k, (Value.slice A n cap).ownBlock = some k → k ≠ S) ∧ (∀ k, (Value.slice A n cap).ownBlock = some k → k ∈ bs) ∧ S ∈ bs)
    (hor : (Value.slice A n cap).ownBlock = some g2 ∨ g2 = n0 + 1) (hSM : S < n0) (ht : Fit t) :
    Ending.returned (Value.tuple #[]) = .returned (.tuple #[]) ∧ ∃ g cap', Rw (w3.setCell ⟨S, 3, none⟩ (.slice (some ⟨g2, 0, none⟩) (n + 1) c2)) S mo (.slice (some ⟨g, 0, none⟩) (n + 1) cap') (l ++ [t]) ∧ Mut bs w (w3.setCell ⟨S, 3, none⟩ (.slice (some ⟨g2, 0, none⟩) (n + 1) c2)) ∧ ((Value.slice A n cap).ownBlock = some g ∨ n0 ≤ g) := by
  have hlen : (l ++ [t]).length = n + 1 := by simp [hl]
  have hgS : g2 ≠ S := by
    rcases hor with h | h
    · exact hv.2.1 g2 h
    · omega
  refine ⟨rfl, g2, c2, ⟨y0.set 3 _, ?_, ?_, by omega⟩, hmu.setCell hv.2.2.2 _, ?_⟩
  · rw [hlen, cl_append]
    refine row_same hown3 fun g hg => ?_
    simp [Value.ownBlock] at hg
    subst hg
    exact Below.heap_setCell _ _ _ _ hgS
  · intro t h
    rcases List.mem_append.1 h with h | h
    · exact hi t h
    · rw [List.mem_singleton.1 h]; exact ht
  · rcases hor with h | h
    · exact .inl h
    · exact .inr (by omega)

set_option linter.unusedSimpArgs false in
set_option maxRecDepth 100000 in
set_option maxHeartbeats 1000000 in
theorem rpush_any {S : Nat} {mo : Value × Value × Value} {v : Value} {l : List Of} (t : Of) (w : World) (h : Rw w S mo v l) (ht : Fit t) (hmost : l.length < 5000) :
    Calls Try.prog 78 #[.pointer (some ⟨S, 3, none⟩), .iface 59 (.agg #[.int .i64 (t.p : Int), .int .u64 (t.w : Int), .int .u64 (t.d : Int)])] w fun e w' => e = .returned (.tuple #[]) ∧ ∃ g cap, Rw w' S mo (.slice (some ⟨g, 0, none⟩) (l.length + 1) cap) (l ++ [t]) ∧ Mut (S :: v.ownBlock.toList) w w' ∧ (v.ownBlock = some g ∨ w.heap.size ≤ g) := by
  obtain ⟨A, cap, rfl, h1, h2⟩ := h.len
  have hSl := h.own.lt
  obtain ⟨n0, hn0⟩ : ∃ n0, w.heap.size = n0 := ⟨_, rfl⟩
  have hn0d : w.drew.heap.size = n0 := hn0
  rw [hn0] at hSl ⊢
  have hvl : ∀ k, (Value.slice A l.length cap).ownBlock = some k → k < n0 := fun k hk => by have := (h.row.lt k hk).2; omega
  have hap : ∀ k, (Value.slice A l.length cap).ownBlock = some k → k ≠ S := fun k hk => by
    rcases h.row.2 with ⟨e, _⟩ | ⟨g, cap', cur, e, _⟩
    · rw [e] at hk; simp [Value.ownBlock] at hk
    · have h3 := h
      rw [e] at hk h3
      simp [Value.ownBlock] at hk
      subst hk
      exact h3.apart.symm
  obtain ⟨n, hn⟩ : ∃ n, l.length = n := ⟨_, rfl⟩
  have hown : Blk w S #[mo.1, mo.2.1, mo.2.2, .slice A l.length cap] 55 := h.own
  have hrow := h.row
  rw [hn] at h1 hmost hvl hap hown hrow ⊢
  obtain ⟨bs, hbs⟩ : ∃ bs, S :: (Value.slice A n cap).ownBlock.toList = bs := ⟨_, rfl⟩
  have hSb : S ∈ bs := by rw [← hbs]; simp
  have hvb : ∀ k, (Value.slice A n cap).ownBlock = some k → k ∈ bs := fun k hk => by rw [← hbs, hk]; simp
  rw [hbs]
  have HV := Lib.hid (show (∀ k, (Value.slice A n cap).ownBlock = some k → k < n0) ∧ (∀ k, (Value.slice A n cap).ownBlock = some k → k ≠ S) ∧ (∀ k, (Value.slice A n cap).ownBlock = some k → k ∈ bs) ∧ S ∈ bs from ⟨hvl, hap, hvb, hSb⟩)
  have HOWN := Lib.hid hown
  have HROW := Lib.hid hrow
  have HL := Lib.hid (show l.length = n from hn)
  have HI := Lib.hid h.fit
  have HT := Lib.hid ht
  have z1 : w.drew.cell? ⟨S, 3, none⟩ = some (.slice A n cap) := hown.cell 3 rfl
  obtain ⟨i0, hi, hz0, hz1, hz2⟩ := info_parts info_of
  have hSd : S < w.drew.heap.size := by rw [hn0d]; exact hSl
  obtain ⟨a, ha⟩ : ∃ a : Int, (t.p : Int) = a := ⟨_, rfl⟩
  obtain ⟨b, hb⟩ : ∃ a : Int, (t.w : Int) = a := ⟨_, rfl⟩
  obtain ⟨c, hc⟩ : ∃ a : Int, (t.d : Int) = a := ⟨_, rfl⟩
  have HABC := Lib.hid (show (t.p : Int) = a ∧ (t.w : Int) = b ∧ (t.d : Int) = c from ⟨ha, hb, hc⟩)
  rw [ha, hb, hc]
  have has := as_of (.agg #[.int .i64 a, .int .u64 b, .int .u64 c])
  clear h hown hrow hn hvl hap hbs hSb hvb ha hb hc ht
  go_enter Try.func78, Try.ntmps78
  go_wp2_with fail
  refine RegionBut.region_but 9 (S := fun W => W.cell? ⟨S, 3, none⟩ = some (.slice A n cap)) (by kernel_rfl) ?_ (fun hHeld => ?_)
  · exact z1
  refine RegionBut.but_take (i := 0) (v := ?_) rfl (by kernel_rfl) (by kernel_rfl) (by kernel_rfl) (by kernel_rfl) (fun _ _ _ h => h) (Or.inl ⟨by rfl, ?_⟩) (by assumption) ?_
  rotate_left
  · intro wq hSw; (try dsimp only at hSw); go_simp; (try with_reducible rfl)
  simp only [Act.put, List.getElem_toArray, List.getElem_cons_succ, List.getElem_cons_zero, List.setIfInBounds_toArray, List.set_cons_zero, List.set_cons_succ]
  refine RegionBut.but_take (i := 1) (v := ?_) rfl (by kernel_rfl) (by kernel_rfl) (by kernel_rfl) (by kernel_rfl) (fun _ _ _ h => h) (Or.inl ⟨by rfl, ?_⟩) (by assumption) ?_
  rotate_left
  · intro wq hSw; (try dsimp only at hSw); go_simp; (try with_reducible rfl)
  simp only [Act.put, List.getElem_toArray, List.getElem_cons_succ, List.getElem_cons_zero, List.setIfInBounds_toArray, List.set_cons_zero, List.set_cons_succ]
  refine RegionBut.but_take (i := 2) (v := ?_) rfl (by kernel_rfl) (by kernel_rfl) (by kernel_rfl) (by kernel_rfl) (fun _ _ _ h => h) (Or.inl ⟨by rfl, ?_⟩) (by assumption) ?_
  rotate_left
  · intro wq hSw; (try dsimp only at hSw); go_simp; (try with_reducible rfl)
  simp only [Act.put, List.getElem_toArray, List.getElem_cons_succ, List.getElem_cons_zero, List.setIfInBounds_toArray, List.set_cons_zero, List.set_cons_succ]
  refine RegionBut.but_take (i := 3) (v := ?_) rfl (by kernel_rfl) (by kernel_rfl) (by kernel_rfl) (by kernel_rfl) (fun _ _ _ h => h) (Or.inl ⟨by rfl, ?_⟩) (by assumption) ?_
  rotate_left
  · intro wq hSw; (try dsimp only at hSw); have q1 := hSw; go_simp; (try with_reducible rfl)
  simp only [Act.put, List.getElem_toArray, List.getElem_cons_succ, List.getElem_cons_zero, List.setIfInBounds_toArray, List.set_cons_zero, List.set_cons_succ]
  refine RegionBut.but_take (i := 4) (v := ?_) rfl (by kernel_rfl) (by kernel_rfl) (by kernel_rfl) (by kernel_rfl) (fun _ _ _ h => h) (Or.inl ⟨by rfl, ?_⟩) (by assumption) ?_
  rotate_left
  · intro wq hSw; (try dsimp only at hSw); go_simp; (try with_reducible rfl)
  simp only [Act.put, List.getElem_toArray, List.getElem_cons_succ, List.getElem_cons_zero, List.setIfInBounds_toArray, List.set_cons_zero, List.set_cons_succ]
  refine RegionBut.but_ready (rs := [5]) (by kernel_rfl) (by simp) ?_
  refine RegionBut.Nexts.cons rfl (fun K hK => ?_) RegionBut.Nexts.nil
  go_simp
  (try go_wp2_with fail)
  refine hK.out _ _ ?_ (fun hHeld => ?_)
  · exact hHeld
  clear hK K
  try simp only [Act.put, List.getElem_toArray, List.getElem_cons_succ, List.getElem_cons_zero, List.setIfInBounds_toArray, List.set_cons_zero, List.set_cons_succ]
  refine RegionBut.but_ready (rs := [6]) (by kernel_rfl) (by simp) ?_
  refine RegionBut.Nexts.cons rfl (fun K hK => ?_) RegionBut.Nexts.nil
  go_simp
  (try go_wp2_with fail)
  refine hK.out _ _ ?_ (fun hHeld => ?_)
  · exact ((World.cell?_alloc_lt _ _ _ hSd).trans z1)
  clear hK K
  try simp only [Act.put, List.getElem_toArray, List.getElem_cons_succ, List.getElem_cons_zero, List.setIfInBounds_toArray, List.set_cons_zero, List.set_cons_succ]
  refine RegionBut.but_ready (rs := [7]) (by kernel_rfl) (by simp) ?_
  refine RegionBut.Nexts.cons rfl (fun K hK => ?_) RegionBut.Nexts.nil
  refine step_append_lies _ rfl (.tmp 7) (.tmp 10) 53 rfl 0 59 i0 (.agg #[.int .i64 0, .int .u64 0, .int .u64 0]) 3 24 Try.underlying53 hi hz0 hz1 hz2 rfl (by decide) (.slice A n cap) n (cl l) rfl (World.ownsRow.alloc (w := w.drew) (row_same HROW.out fun _ _ => rfl) _) ⟨n0, 0, none⟩ 1 1 [.int .i64 a, .int .u64 b, .int .u64 c] rfl rfl (pair_at w.drew n0 hn0d _ _ _ _) (by simp [Value.oneCell']) (by decide) (by unfold maxLen; omega) (by omega) (Nat.zero_le _) (n0 + 1) (by simp [hn0]) ?_
  intro g2 c2 w3 hown3 hgr3 hor3 hlt3
  have hS3 : w3.heap[S]? = w.heap[S]? := (hgr3.block S (by simp; omega) (fun e => HV.out.2.1 S e.symm rfl)).trans (Below.heap_alloc _ _ _ hSd)
  have y0 : Blk w3 S #[mo.1, mo.2.1, mo.2.2, .slice A n cap] 55 := HOWN.out.same hS3
  have y1 : w3.cell? ⟨S, 3, none⟩ = some (.slice A n cap) := y0.cell 3 rfl
  have HY := Lib.hid y0
  have hmut3 : Mut bs w w3 := ⟨hgr3.os, hgr3.tape, hgr3.output, by have := hgr3.size; simp at this ⊢; omega, fun k hk hkb => (hgr3.block k (by simp at hk ⊢; omega) (fun e => hkb (HV.out.2.2.1 k e.symm))).trans (Below.heap_alloc _ _ _ hk)⟩
  have HMU3 := Lib.hid hmut3
  have HOWN3 := Lib.hid hown3
  have HOR := Lib.hid hor3
  clear hS3 y0 hmut3 hown3 hgr3 hor3
  refine hK.out _ _ ?_ (fun hHeld => ?_)
  · exact y1
  clear hK K
  try simp only [Act.put, List.getElem_toArray, List.getElem_cons_succ, List.getElem_cons_zero, List.setIfInBounds_toArray, List.set_cons_zero, List.set_cons_succ]
  refine RegionBut.but_take (i := 8) (v := ?_) rfl (by kernel_rfl) (by kernel_rfl) (by kernel_rfl) (by kernel_rfl) (fun _ _ _ h => h) (Or.inl ⟨by rfl, ?_⟩) (by assumption) ?_
  rotate_left
  · intro wq hSw; (try dsimp only at hSw); go_simp; (try with_reducible rfl)
  simp only [Act.put, List.getElem_toArray, List.getElem_cons_succ, List.getElem_cons_zero, List.setIfInBounds_toArray, List.set_cons_zero, List.set_cons_succ]
  refine RegionBut.but_ready (rs := [9]) (by kernel_rfl) (by simp) ?_
  refine RegionBut.Nexts.last rfl (fun K hK => ?_)
  have f1 : w3.frozen? ⟨S, 3, none⟩ = false := HY.out.free 3
  go_simp
  (try go_wp2_with fail)
  refine hK.out _ _ trivial (fun _ => ?_)
  clear hK K
  try simp only [Act.put, List.getElem_toArray, List.getElem_cons_succ, List.getElem_cons_zero, List.setIfInBounds_toArray, List.set_cons_zero, List.set_cons_succ]
  refine RegionBut.but_done (by kernel_rfl) ?_ _
  clear hHeld
  go_wp2_with fail
  go_end0
  refine push_end HY.out ?_ HI.out HL.out hmost HMU3.out HV.out HOR.out hSl HT.out
  rw [HABC.out.1, HABC.out.2.1, HABC.out.2.2]
  exact HOWN3.out
end Go.Proofs.Ytmjbdjcpjaeemaa
