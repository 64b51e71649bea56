/-
  The first of the traces that wait is taken out.
-/
import Derived.Test.YthpcnnkdpgjiiaaTlPutW
namespace Go.Proofs.Ythpcnnkdpgjiiaa
open Go.RowKit Go.Maps Go.Proofs.HeapMath Go.Proofs.TailMath

theorem tk_fin {w W : World} {S T N M H : Nat} {v : Value} {hbs : List Nat} {x : Ge} {G : List Ge} {b : St} {s : List Tm} {L' : List Gr} (h : Bf w S T N M H v hbs (x :: G) b s) (hL : b.L = x.g :: L') (hm : Mut [S, N, M] w W) (hblk : Blk W S (bfC { b with L := L' } T N M H v) 79)
    (hN : Am W 83 (plainElem Try.prog 3) N (nE L')) (hM : Am W 3 ptrElem M (gE G)) : Bf W S T N M H v hbs G { b with L := L' } s := by
  obtain ⟨s1, s2, s3, t2, t3, n3⟩ := h.nes
  obtain ⟨f1, f2⟩ := h.far
  have hsub : ∀ k ∈ core S T N M v G, k ∈ core S T N M v (x :: G) := fun k hk => by
    simp only [core, List.mem_cons, List.mem_append, List.flatMap_cons] at hk ⊢
    rcases hk with e | e | e | e | e | e
    · exact .inl e
    · exact .inr (.inl e)
    · exact .inr (.inr (.inl e))
    · exact .inr (.inr (.inr (.inl e)))
    · exact .inr (.inr (.inr (.inr (.inl e))))
    · exact .inr (.inr (.inr (.inr (.inr (.inr e)))))
  have hgl := h.gl
  rw [hL, List.map_cons] at hgl
  refine ⟨hblk, h.told.same (hm.block _ h.told.lt (by simp; exact ⟨s1.symm, t2, t3⟩)), h.row.mut hm fun g hg => ?_, h.heap.mut hm fun k hk hc => ?_, hN, hM, fun y hy => (h.each y (by simp [hy])).mut hm fun k hk => ?_, (List.cons.inj hgl).2, ?_, fun k hk => h.hnd k (hsub k hk)⟩
  · obtain ⟨a1, a2, a3, a4, _⟩ := f1 g hg
    simp
    exact ⟨a1, a3, a4⟩
  · simp at hc
    rcases hc with e | e | e <;> subst e
    · exact h.hnd k (by simp [core]) hk
    · exact h.hnd k (by simp [core]) hk
    · exact h.hnd k (by simp [core]) hk
  · obtain ⟨a1, a2, a3, a4⟩ := f2 k (List.mem_flatMap.2 ⟨y, by simp [hy], hk⟩)
    simp
    exact ⟨a1, a3, a4⟩
  · refine h.nd.sublist ?_
    unfold core
    rw [List.flatMap_cons]
    exact (((((List.Sublist.refl v.ownBlock.toList).append (List.sublist_append_right _ _)).cons_cons M).cons_cons N).cons_cons T).cons_cons S

set_option linter.unusedSimpArgs false in
set_option maxRecDepth 100000 in
set_option maxHeartbeats 2000000 in
theorem take_any {S T N M H : Nat} {v : Value} {hbs : List Nat} {x : Ge} {G : List Ge} {b : St} {s : List Tm} {L' : List Gr} (w : World) (h : Bf w S T N M H v hbs (x :: G) b s) (hL : b.L = x.g :: L') (hno : x.g.no ≤ 1000000000) (hu : u64 x.g.hi ∧ u64 x.g.lo) (htot : tot b.L ≤ 5000) :
    Calls Try.prog 30 #[.pointer (some ⟨S, 3, none⟩), .int .i64 (x.g.no : Int)] w fun e w' => e = .returned (.agg #[.int .u64 (x.g.hi : Int), .int .u64 (x.g.lo : Int), .slice x.A x.g.spans.length x.g.spans.length]) ∧ Bf w' S T N M H v hbs G { b with L := L' } s ∧ Mut [S, N, M] w w' := by
  obtain ⟨n0, hn0⟩ : ∃ n0, w.heap.size = n0 := ⟨_, rfl⟩
  have hlt := h.lt
  have hes := h.nes
  have hfar := h.far
  have hB : Below w.heap.size w (w.alloc (.cells #[.int .u64 0, .int .u64 0, .slice none 0 0] 41)) := box_below _
  have hb1 := blk_new w #[.int .u64 0, .int .u64 0, .slice none 0 0] 41
  have hbf1 := h.later hB
  obtain ⟨w1, hw1⟩ : ∃ w1, w.alloc (.cells #[.int .u64 0, .int .u64 0, .slice none 0 0] 41) = w1 := ⟨_, rfl⟩
  rw [hw1] at hB hb1 hbf1
  rw [hn0] at hb1 hlt
  obtain ⟨n, hn⟩ : ∃ n, x.g.spans.length = n := ⟨_, rfl⟩
  obtain ⟨A, hA⟩ : ∃ A, x.A = A := ⟨_, rfl⟩
  obtain ⟨cap, hcap⟩ : ∃ c, x.cap = c := ⟨_, rfl⟩
  obtain ⟨no, hno0⟩ : ∃ c, x.g.no = c := ⟨_, rfl⟩
  obtain ⟨p, hp⟩ : ∃ c, x.p = c := ⟨_, rfl⟩
  obtain ⟨hi, hhi⟩ : ∃ c, x.g.hi = c := ⟨_, rfl⟩
  obtain ⟨lo, hlo⟩ : ∃ c, x.g.lo = c := ⟨_, rfl⟩
  obtain ⟨tt, htt⟩ : ∃ c, tot b.L = c := ⟨_, rfl⟩
  have hxv : x.v = .slice A n cap := by unfold Ge.v; rw [hA, hn, hcap]
  have hgok := hbf1.each x (by simp)
  have hP1 : Blk w1 p #[.int .u64 (hi : Int), .int .u64 (lo : Int), .slice A n cap] 41 := by rw [← hxv, ← hp, ← hhi, ← hlo]; exact hgok.blk
  have hcapn : n ≤ cap := by
    have := hgok.row
    rw [hxv, hn] at this
    rcases this.2 with ⟨e, e2⟩ | ⟨g, c, cur, e, _, _, h2, _⟩
    · omega
    · injection e with _ _ e2; omega
  have hgl := grp_yes hbf1.grps (x := x) (by simp) hno
  have hpf := hfar.2 p (by rw [← hp]; simp [Ge.own])
  have hplt : p < n0 := hlt p (by rw [← hp]; simp [core, Ge.own])
  have htl : tt = n + tot L' := by rw [← htt, hL, tot_cons, hn]
  have hS7 : w1.cell? ⟨S, 7, none⟩ = some (.map (some M)) := hbf1.blk.cell 7 rfl
  have HB := Lib.hid (show Bf w1 S T N M H v hbs (x :: G) b s ∧ Blk w1 p #[.int .u64 (hi : Int), .int .u64 (lo : Int), .slice A n cap] 41 ∧ Blk w1 n0 #[.int .u64 0, .int .u64 0, .slice none 0 0] 41 ∧ Mut [S, N, M] w w1 from ⟨hbf1, hP1, hb1, Mut.of_below hB⟩)
  have HL := Lib.hid hL
  have HE := Lib.hid hes
  have hbn : S < n0 ∧ N < n0 ∧ M < n0 := ⟨hlt S (by simp [core]), hlt N (by simp [core]), hlt M (by simp [core])⟩
  have HN0 := Lib.hid hn0
  have HLT := Lib.hid (show (∀ k ∈ core S T N M v G, k < n0) ∧ ∀ k ∈ hbs, k < n0 from ⟨fun k hk => hlt k (by
    simp only [core, List.mem_cons, List.mem_append, List.flatMap_cons] at hk ⊢
    rcases hk with e | e | e | e | e | e
    · exact .inl e
    · exact .inr (.inl e)
    · exact .inr (.inr (.inl e))
    · exact .inr (.inr (.inr (.inl e)))
    · exact .inr (.inr (.inr (.inr (.inl e))))
    · exact .inr (.inr (.inr (.inr (.inr (.inr e)))))), fun k hk => hn0 ▸ h.heap.lt k hk⟩)
  have HX := Lib.hid (show x.g.no = no ∧ x.p = p ∧ x.g.hi = hi ∧ x.g.lo = lo ∧ tot b.L = tt ∧ tt = n + tot L' ∧ (p ≠ S ∧ p ≠ T ∧ p ≠ N ∧ p ≠ M) ∧ p < n0 ∧ (S < n0 ∧ N < n0 ∧ M < n0) from ⟨hno0, hp, hhi, hlo, htt, htl, hpf, hplt, hbn⟩)
  rw [htt] at htot
  rw [hno0] at hno hgl ⊢
  rw [hp] at hgl
  rw [hhi, hlo] at hu ⊢
  rw [hA, hn]
  clear h hL hlt hes hfar hB hb1 hbf1 hcap hxv hgok hP1 hpf hplt htl hbn hA hhi hlo htt hno0 hp
  have HN := Lib.hid hn
  clear hn
  go_enter Try.func30, Try.ntmps30
  have hge : gE (x :: G) = [] ++ (kl (no : Int), .pointer (some ⟨p, 0, none⟩)) :: gE G := by rw [← HX.out.1, ← HX.out.2.1]; rfl
  have hne : nE b.L = [] ++ (tk hi lo, .int .i64 (no : Int)) :: nE L' := by rw [HL.out, ← HX.out.1, ← HX.out.2.2.1, ← HX.out.2.2.2.1]; rfl
  have HGE := Lib.hid hge
  have HNE := Lib.hid hne
  clear hge hne
  go_wp2_with (refine wpList_am_del rfl (.tmp 15) (.tmp 16) (t := 75) (k := 3) (e := 114) rfl law_int Try.underlying75 rfl HB.out.1.grps HGE.out rfl (key_int (by omega) (by omega)) ?_)
  intro w2 hM2 hg2
  have hm2 : Mut [M] w1 w2 := (Mut.refl [M] w1).grown hg2 (by simp)
  have hS2 : Blk w2 S (bfC b T N M H v) 79 := HB.out.1.blk.mut hm2 (by simpa using HE.out.2.2.1)
  have hP2 : Blk w2 p #[.int .u64 (hi : Int), .int .u64 (lo : Int), .slice A n cap] 41 := HB.out.2.1.mut hm2 (by simpa using HX.out.2.2.2.2.2.2.1.2.2.2)
  have h02 : Blk w2 n0 #[.int .u64 0, .int .u64 0, .slice none 0 0] 41 := HB.out.2.2.1.mut hm2 (by have := HX.out.2.2.2.2.2.2.2.2; simp; omega)
  have hN2 := HB.out.1.nums.same (hm2.block _ HB.out.1.nums.lt (by simpa using HE.out.2.2.2.2.2))
  have hmm2 : Mut [S, N, M] w w2 := HB.out.2.2.2.trans (hm2.wider (by simp))
  have H2 := Lib.hid (show Blk w2 S (bfC b T N M H v) 79 ∧ Blk w2 p #[.int .u64 (hi : Int), .int .u64 (lo : Int), .slice A n cap] 41 ∧ Blk w2 n0 #[.int .u64 0, .int .u64 0, .slice none 0 0] 41 ∧ Am w2 83 (plainElem Try.prog 3) N (nE b.L) ∧ Am w2 3 ptrElem M (gE G) ∧ Mut [S, N, M] w w2 ∧ Mut [M] w1 w2 from ⟨hS2, hP2, h02, hN2, hM2, hmm2, hm2⟩)
  have u6 : w2.cell? ⟨S, 6, none⟩ = some (.map (some N)) := hS2.cell 6 rfl
  have p0 := hP2.cell 0 rfl
  have p1 := hP2.cell 1 rfl
  clear hM2 hg2 hm2 hS2 hP2 h02 hN2 hmm2 hgl hS7
  try dsimp only [Act.put]
  go_wp2_with fail
  go_still_tail 13, (by kernel_rfl)
  change wpList _ _ _ _ _ w2.drew
  refine wpList_am_del rfl _ _ (t := 74) (k := 83) (e := 3) rfl law_tr Try.underlying74 rfl (H2.out.2.2.2.1.same rfl) HNE.out rfl (key_tr hu.1 hu.2) ?_
  intro w3 hN3 hg3
  have hm3 : Mut [N] w2 w3 := (Mut.refl [N] w2).drew.grown hg3 (by simp)
  have hS3 : Blk w3 S (bfC b T N M H v) 79 := H2.out.1.mut hm3 (by simpa using HE.out.2.1)
  have hP3 : Blk w3 p #[.int .u64 (hi : Int), .int .u64 (lo : Int), .slice A n cap] 41 := H2.out.2.1.mut hm3 (by simpa using HX.out.2.2.2.2.2.2.1.2.2.1)
  have h03 : Blk w3 n0 #[.int .u64 0, .int .u64 0, .slice none 0 0] 41 := H2.out.2.2.1.mut hm3 (by have := HX.out.2.2.2.2.2.2.2.2; simp; omega)
  have hM3 := H2.out.2.2.2.2.1.same (hm3.block _ H2.out.2.2.2.2.1.lt (by simpa using HE.out.2.2.2.2.2.symm))
  have hmm3 : Mut [S, N, M] w1 w3 := (H2.out.2.2.2.2.2.2.wider (by simp)).trans (hm3.wider (by simp))
  have H3 := Lib.hid (show Blk w3 S (bfC b T N M H v) 79 ∧ Blk w3 p #[.int .u64 (hi : Int), .int .u64 (lo : Int), .slice A n cap] 41 ∧ Blk w3 n0 #[.int .u64 0, .int .u64 0, .slice none 0 0] 41 ∧ Am w3 83 (plainElem Try.prog 3) N (nE L') ∧ Am w3 3 ptrElem M (gE G) ∧ Mut [S, N, M] w1 w3 from ⟨hS3, hP3, h03, hN3, hM3, hmm3⟩)
  have u5 : w3.cell? ⟨S, 5, none⟩ = some (.int .i64 (tt : Int)) := HX.out.2.2.2.2.1 ▸ hS3.cell 5 rfl
  have f5 := hS3.free 5
  have p2 : w3.cell? ⟨p, 2, none⟩ = some (.slice A n cap) := hP3.cell 2 rfl
  clear hN3 hg3 hm3 hS3 hP3 h03 hM3 hmm3 u6 p0 p1
  have hnt : n ≤ tt := by have := HX.out.2.2.2.2.2.1; omega
  obtain ⟨rest, hrest⟩ : ∃ r, tot L' = r := ⟨_, rfl⟩
  have hsub : (tt : Int) - (n : Int) = (rest : Int) := by have := HX.out.2.2.2.2.2.1; omega
  try dsimp only [Act.put]
  go_wp2_with fail
  go_still_tail 12, (by kernel_rfl)
  go_wp2_with fail
  have hS4 : Blk (w3.setCell ⟨S, 5, none⟩ (.int .i64 (rest : Int))).drew S (bfC { b with L := L' } T N M H v) 79 := hrest ▸ H3.out.1.set 5 (.int .i64 (tot L' : Int))
  have hP4 : Blk (w3.setCell ⟨S, 5, none⟩ (.int .i64 (rest : Int))).drew p #[.int .u64 (hi : Int), .int .u64 (lo : Int), .slice A n cap] 41 := H3.out.2.1.same (Below.heap_setCell w3 _ _ _ HX.out.2.2.2.2.2.2.1.1)
  have h04 : Blk (w3.setCell ⟨S, 5, none⟩ (.int .i64 (rest : Int))).drew n0 #[.int .u64 0, .int .u64 0, .slice none 0 0] 41 := H3.out.2.2.1.same (Below.heap_setCell w3 _ _ _ (by have := HX.out.2.2.2.2.2.2.2.2; simp; omega))
  have hm4 : Mut [S, N, M] w1 (w3.setCell ⟨S, 5, none⟩ (.int .i64 (rest : Int))).drew := (H3.out.2.2.2.2.2.setCell (by simp) _).drew
  have hN4 : Am (w3.setCell ⟨S, 5, none⟩ (.int .i64 (rest : Int))).drew 83 (plainElem Try.prog 3) N (nE L') := H3.out.2.2.2.1.same (Below.heap_setCell w3 _ _ _ HE.out.2.1.symm)
  have hM4 : Am (w3.setCell ⟨S, 5, none⟩ (.int .i64 (rest : Int))).drew 3 ptrElem M (gE G) := H3.out.2.2.2.2.1.same (Below.heap_setCell w3 _ _ _ HE.out.2.2.1.symm)
  clear H3 H2 u5 f5 p2
  generalize (w3.setCell ⟨S, 5, none⟩ (.int .i64 (rest : Int))).drew = w4 at hS4 hP4 h04 hm4 hN4 hM4 ⊢
  have hfin := tk_fin HB.out.1 HL.out hm4 hS4 hN4 hM4
  have hz : Blk w4.drew p #[.int .u64 (hi : Int), .int .u64 (lo : Int), .slice A n cap] 41 := hP4
  have h05 : Blk w4.drew n0 #[.int .u64 0, .int .u64 0, .slice none 0 0] 41 := h04
  have H4 := Lib.hid (show Bf w4 S T N M H v hbs G { b with L := L' } s ∧ Mut [S, N, M] w1 w4 ∧ Blk w4.drew n0 #[.int .u64 0, .int .u64 0, .slice none 0 0] 41 from ⟨hfin, hm4, h05⟩)
  clear hfin hm4 hN4 hM4 hS4 hP4 h04
  have f0 : w4.frozen? ⟨n0, 0, none⟩ = false := h05.free 0
  have f1 : w4.frozen? ⟨n0, 1, none⟩ = false := h05.free 1
  have f2 : w4.frozen? ⟨n0, 2, none⟩ = false := h05.free 2
  have k0 : w4.cell? ⟨n0, 0, none⟩ = some (.int .u64 0) := h05.cell 0 rfl
  have k1 : w4.cell? ⟨n0, 1, none⟩ = some (.int .u64 0) := h05.cell 1 rfl
  have k2 : w4.cell? ⟨n0, 2, none⟩ = some (.slice none 0 0) := h05.cell 2 rfl
  have hend : Bf (((w4.setCell ⟨n0, 0, none⟩ (.int .u64 (hi : Int))).setCell ⟨n0, 1, none⟩ (.int .u64 (lo : Int))).setCell ⟨n0, 2, none⟩ (.slice A n n)).drew S T N M H v hbs G { b with L := L' } s ∧ Mut [S, N, M] w (((w4.setCell ⟨n0, 0, none⟩ (.int .u64 (hi : Int))).setCell ⟨n0, 1, none⟩ (.int .u64 (lo : Int))).setCell ⟨n0, 2, none⟩ (.slice A n n)).drew ∧ Blk (((w4.setCell ⟨n0, 0, none⟩ (.int .u64 (hi : Int))).setCell ⟨n0, 1, none⟩ (.int .u64 (lo : Int))).setCell ⟨n0, 2, none⟩ (.slice A n n)).drew n0 #[.int .u64 (hi : Int), .int .u64 (lo : Int), .slice A n n] 41 := by
    have hmn : Mut [n0] w4 (((w4.setCell ⟨n0, 0, none⟩ (.int .u64 (hi : Int))).setCell ⟨n0, 1, none⟩ (.int .u64 (lo : Int))).setCell ⟨n0, 2, none⟩ (.slice A n n)).drew := ((((Mut.refl [n0] w4).setCell (by simp) _).setCell (by simp) _).setCell (by simp) _).drew
    have hl0 := HLT.out
    refine ⟨H4.out.1.mut hmn (fun k hk e => ?_) (fun k hk e => ?_), (HB.out.2.2.2.trans H4.out.2.1).onto hmn (fun k hk => .inr (by rw [List.mem_singleton.1 hk, HN0.out]; exact Nat.le_refl _)), (((show Blk w4 n0 #[.int .u64 0, .int .u64 0, .slice none 0 0] 41 from h05).set 0 _).set 1 _).set 2 _⟩
    · have := hl0.1 k hk
      simp at e
      omega
    · have := hl0.2 k hk
      simp at e
      omega
  have HEND := Lib.hid hend
  clear hend h05
  refine wp_region_held_drew (S := fun W => Blk W p #[.int .u64 (hi : Int), .int .u64 (lo : Int), .slice A n cap] 41) (by kernel_rfl) ?_ (fun hHeld => ?_)
  · exact hz
  refine wpAnyH_take (i := 0) (v := ?_) rfl (by kernel_rfl) (by kernel_rfl) (by kernel_rfl) (fun _ _ _ h => h) (Or.inl ⟨by rfl, ?_⟩) (by assumption) ?_
  rotate_left
  · intro wq hSw; (try dsimp only at hSw); go_simp; (try with_reducible rfl)
  simp only [Act.put, List.getElem_toArray, List.getElem_cons_succ, List.getElem_cons_zero, List.setIfInBounds_toArray, List.set_cons_zero, List.set_cons_succ]
  refine wpAnyH_take (i := 1) (v := ?_) rfl (by kernel_rfl) (by kernel_rfl) (by kernel_rfl) (fun _ _ _ h => h) (Or.inl ⟨by rfl, ?_⟩) (by assumption) ?_
  rotate_left
  · intro wq hSw; (try dsimp only at hSw); go_simp; (try with_reducible rfl)
  simp only [Act.put, List.getElem_toArray, List.getElem_cons_succ, List.getElem_cons_zero, List.setIfInBounds_toArray, List.set_cons_zero, List.set_cons_succ]
  refine wpAnyH_take (i := 2) (v := ?_) rfl (by kernel_rfl) (by kernel_rfl) (by kernel_rfl) (fun _ _ _ h => h) (Or.inl ⟨by rfl, ?_⟩) (by assumption) ?_
  rotate_left
  · intro wq hSw; (try dsimp only at hSw); go_simp; (try with_reducible rfl)
  simp only [Act.put, List.getElem_toArray, List.getElem_cons_succ, List.getElem_cons_zero, List.setIfInBounds_toArray, List.set_cons_zero, List.set_cons_succ]
  refine wpAnyH_take (i := 3) (v := ?_) rfl (by kernel_rfl) (by kernel_rfl) (by kernel_rfl) (fun _ _ _ h => h) (Or.inl ⟨by rfl, ?_⟩) (by assumption) ?_
  rotate_left
  · intro wq hSw; (try dsimp only at hSw); have q0 := hSw.cell 0 rfl; go_simp; (try with_reducible rfl)
  simp only [Act.put, List.getElem_toArray, List.getElem_cons_succ, List.getElem_cons_zero, List.setIfInBounds_toArray, List.set_cons_zero, List.set_cons_succ]
  refine wpAnyH_take (i := 4) (v := ?_) rfl (by kernel_rfl) (by kernel_rfl) (by kernel_rfl) (fun _ _ _ h => h) (Or.inl ⟨by rfl, ?_⟩) (by assumption) ?_
  rotate_left
  · intro wq hSw; (try dsimp only at hSw); go_simp; (try with_reducible rfl)
  simp only [Act.put, List.getElem_toArray, List.getElem_cons_succ, List.getElem_cons_zero, List.setIfInBounds_toArray, List.set_cons_zero, List.set_cons_succ]
  refine wpAnyH_take (i := 5) (v := ?_) rfl (by kernel_rfl) (by kernel_rfl) (by kernel_rfl) (fun _ _ _ h => h) (Or.inl ⟨by rfl, ?_⟩) (by assumption) ?_
  rotate_left
  · intro wq hSw; (try dsimp only at hSw); go_simp; (try with_reducible rfl)
  simp only [Act.put, List.getElem_toArray, List.getElem_cons_succ, List.getElem_cons_zero, List.setIfInBounds_toArray, List.set_cons_zero, List.set_cons_succ]
  refine wpAnyH_take (i := 6) (v := ?_) rfl (by kernel_rfl) (by kernel_rfl) (by kernel_rfl) (fun _ _ _ h => h) (Or.inl ⟨by rfl, ?_⟩) (by assumption) ?_
  rotate_left
  · intro wq hSw; (try dsimp only at hSw); go_simp; (try with_reducible rfl)
  simp only [Act.put, List.getElem_toArray, List.getElem_cons_succ, List.getElem_cons_zero, List.setIfInBounds_toArray, List.set_cons_zero, List.set_cons_succ]
  refine wpAnyH_take (i := 7) (v := ?_) rfl (by kernel_rfl) (by kernel_rfl) (by kernel_rfl) (fun _ _ _ h => h) (Or.inl ⟨by rfl, ?_⟩) (by assumption) ?_
  rotate_left
  · intro wq hSw; (try dsimp only at hSw); have q0 := hSw.cell 1 rfl; go_simp; (try with_reducible rfl)
  simp only [Act.put, List.getElem_toArray, List.getElem_cons_succ, List.getElem_cons_zero, List.setIfInBounds_toArray, List.set_cons_zero, List.set_cons_succ]
  refine wpAnyH_take (i := 8) (v := ?_) rfl (by kernel_rfl) (by kernel_rfl) (by kernel_rfl) (fun _ _ _ h => h) (Or.inl ⟨by rfl, ?_⟩) (by assumption) ?_
  rotate_left
  · intro wq hSw; (try dsimp only at hSw); go_simp; (try with_reducible rfl)
  simp only [Act.put, List.getElem_toArray, List.getElem_cons_succ, List.getElem_cons_zero, List.setIfInBounds_toArray, List.set_cons_zero, List.set_cons_succ]
  refine wpAnyH_take (i := 9) (v := ?_) rfl (by kernel_rfl) (by kernel_rfl) (by kernel_rfl) (fun _ _ _ h => h) (Or.inl ⟨by rfl, ?_⟩) (by assumption) ?_
  rotate_left
  · intro wq hSw; (try dsimp only at hSw); go_simp; (try with_reducible rfl)
  simp only [Act.put, List.getElem_toArray, List.getElem_cons_succ, List.getElem_cons_zero, List.setIfInBounds_toArray, List.set_cons_zero, List.set_cons_succ]
  refine wpAnyH_take (i := 10) (v := ?_) rfl (by kernel_rfl) (by kernel_rfl) (by kernel_rfl) (fun _ _ _ h => h) (Or.inl ⟨by rfl, ?_⟩) (by assumption) ?_
  rotate_left
  · intro wq hSw; (try dsimp only at hSw); go_simp; (try with_reducible rfl)
  simp only [Act.put, List.getElem_toArray, List.getElem_cons_succ, List.getElem_cons_zero, List.setIfInBounds_toArray, List.set_cons_zero, List.set_cons_succ]
  refine wpAnyH_take (i := 11) (v := ?_) rfl (by kernel_rfl) (by kernel_rfl) (by kernel_rfl) (fun _ _ _ h => h) (Or.inl ⟨by rfl, ?_⟩) (by assumption) ?_
  rotate_left
  · intro wq hSw; (try dsimp only at hSw); have q0 := hSw.cell 2 rfl; go_simp; (try with_reducible rfl)
  simp only [Act.put, List.getElem_toArray, List.getElem_cons_succ, List.getElem_cons_zero, List.setIfInBounds_toArray, List.set_cons_zero, List.set_cons_succ]
  refine wpAnyH_ready (rs := [12]) (by kernel_rfl) (by simp) ?_
  refine AllReadyH.cons rfl (fun K hK => ?_) AllReadyH.nil
  go_simp
  refine (clipS_any A n cap _ hcapn (by omega)).mono ?_
  rintro e w6 ⟨rfl, rfl⟩
  (try go_wp2_with fail)
  refine hK.out _ _ ?_ (fun hHeld => ?_)
  · exact hHeld
  clear hK K
  try simp only [Act.put, List.getElem_toArray, List.getElem_cons_succ, List.getElem_cons_zero, List.setIfInBounds_toArray, List.set_cons_zero, List.set_cons_succ]
  refine wpAnyH_take (i := 13) (v := ?_) rfl (by kernel_rfl) (by kernel_rfl) (by kernel_rfl) (fun _ _ _ h => h) (Or.inl ⟨by rfl, ?_⟩) (by assumption) ?_
  rotate_left
  · intro wq hSw; (try dsimp only at hSw); go_simp; (try with_reducible rfl)
  simp only [Act.put, List.getElem_toArray, List.getElem_cons_succ, List.getElem_cons_zero, List.setIfInBounds_toArray, List.set_cons_zero, List.set_cons_succ]
  refine wpAnyH_ready (rs := [14]) (by kernel_rfl) (by simp) ?_
  refine AllReadyH.cons rfl (fun K hK => ?_) AllReadyH.nil
  go_simp
  (try go_wp2_with fail)
  have hS9 : Blk (((w4.setCell ⟨n0, 0, none⟩ (.int .u64 (hi : Int))).setCell ⟨n0, 1, none⟩ (.int .u64 (lo : Int))).setCell ⟨n0, 2, none⟩ (.slice A n n)).drew p #[.int .u64 (hi : Int), .int .u64 (lo : Int), .slice A n cap] 41 := Blk.mut (W := w4) hz ((((Mut.refl [n0] w4).setCell (by simp) _).setCell (by simp) _).setCell (by simp) _).drew (by have := HX.out.2.2.2.2.2.2.2.1; simp; omega)
  refine hK.out _ _ ?_ (fun hHeld => ?_)
  · exact hS9
  clear hK K
  try simp only [Act.put, List.getElem_toArray, List.getElem_cons_succ, List.getElem_cons_zero, List.setIfInBounds_toArray, List.set_cons_zero, List.set_cons_succ]
  refine wpAnyH_done (by kernel_rfl) ?_ _
  clear hHeld
  generalize (((w4.setCell ⟨n0, 0, none⟩ (.int .u64 (hi : Int))).setCell ⟨n0, 1, none⟩ (.int .u64 (lo : Int))).setCell ⟨n0, 2, none⟩ (.slice A n n)).drew = wf at HEND ⊢
  have q0 := HEND.out.2.2.cell 0 rfl
  have q1 := HEND.out.2.2.cell 1 rfl
  have q2 := HEND.out.2.2.cell 2 rfl
  go_wp2_with fail
  exact bodyPost_ret (v := .agg #[.int .u64 (hi : Int), .int .u64 (lo : Int), .slice A n n]) (by simp [results, Try.results30, go_sem, q0, q1, q2]) rfl ⟨rfl, HEND.out.1, HEND.out.2.1⟩
end Go.Proofs.Ythpcnnkdpgjiiaa
