/-
  What the row's Swap does: two offers change places.
-/
import Derived.Test.YtmjbdjcpjaeemaaPrRow
namespace Go.Proofs.Ytmjbdjcpjaeemaa
open Go.RowKit Go.Proofs.PrioMath

/-- Two offers have changed places in memory. -/
theorem row_swap {W : World} {B cap : Nat} {l : List Of} {i j : Nat} (h : W.ownsRow 0 59 3 (.slice (some ⟨B, 0, none⟩) l.length cap) l.length (cl l)) (hi : i < l.length) (hj : j < l.length) (a b : Of) (ha : at_ l i = a) (hb : at_ l j = b) :
    ((((((W.setCell ⟨B, i * 3, none⟩ (.int .i64 (b.p : Int))).setCell ⟨B, i * 3 + 1, none⟩ (.int .u64 (b.w : Int))).setCell ⟨B, i * 3 + 2, none⟩ (.int .u64 (b.d : Int))).setCell ⟨B, j * 3, none⟩ (.int .i64 (a.p : Int))).setCell ⟨B, j * 3 + 1, none⟩ (.int .u64 (a.w : Int))).setCell ⟨B, j * 3 + 2, none⟩ (.int .u64 (a.d : Int))).ownsRow 0 59 3 (.slice (some ⟨B, 0, none⟩) l.length cap) l.length (cl (sw l i j)) := by
  have h1 := (((((((h.stored (i * 3) (.int .i64 (b.p : Int))).1).stored (i * 3 + 1) (.int .u64 (b.w : Int))).1.stored (i * 3 + 2) (.int .u64 (b.d : Int))).1.stored (j * 3) (.int .i64 (a.p : Int))).1.stored (j * 3 + 1) (.int .u64 (a.w : Int))).1.stored (j * 3 + 2) (.int .u64 (a.d : Int))).1
  rw [cl_set _ hi, cl_set _ (by simpa using hj)] at h1
  unfold sw
  rw [ha, hb]
  exact h1

theorem mut6 (w : World) (B a b c d e f : Nat) (u v x y z t : Value) : Mut [B] w ((((((w.setCell ⟨B, a, none⟩ u).setCell ⟨B, b, none⟩ v).setCell ⟨B, c, none⟩ x).setCell ⟨B, d, none⟩ y).setCell ⟨B, e, none⟩ z).setCell ⟨B, f, none⟩ t) :=
  ((((((Mut.refl [B] w).setCell (p := ⟨B, a, none⟩) (by simp) u).setCell (p := ⟨B, b, none⟩) (by simp) v).setCell (p := ⟨B, c, none⟩) (by simp) x).setCell (p := ⟨B, d, none⟩) (by simp) y).setCell (p := ⟨B, e, none⟩) (by simp) z).setCell (p := ⟨B, f, none⟩) (by simp) t
theorem mut3 (w : World) (B a b c : Nat) (u v x : Value) : Mut [B] w (((w.setCell ⟨B, a, none⟩ u).setCell ⟨B, b, none⟩ v).setCell ⟨B, c, none⟩ x) :=
  (((Mut.refl [B] w).setCell (p := ⟨B, a, none⟩) (by simp) u).setCell (p := ⟨B, b, none⟩) (by simp) v).setCell (p := ⟨B, c, none⟩) (by simp) x

theorem swap_end {S B cap : Nat} {mo : Value × Value × Value} {l : List Of} {i j : Nat} {w X : World} (h : Rw w S mo (.slice (some ⟨B, 0, none⟩) l.length cap) l) (hi : i < l.length) (hj : j < l.length) (hm : Mut [B] w X) (hr : X.ownsRow 0 59 3 (.slice (some ⟨B, 0, none⟩) l.length cap) l.length (cl (sw l i j))) :
    Rw X.drew S mo (.slice (some ⟨B, 0, none⟩) l.length cap) (sw l i j) ∧ Mut [B] w X.drew :=
  ⟨⟨h.own.mut hm.drew (by simpa using h.apart), by rw [length_sw]; exact row_same hr fun _ _ => rfl, fun t ht => h.fit t ((sw_perm hi hj).mem_iff.1 ht), by rw [length_sw]; exact h.most⟩, hm.drew⟩
set_option linter.unusedSimpArgs false in
set_option maxRecDepth 100000 in
set_option maxHeartbeats 1000000 in
theorem swap_any {S B cap n : Nat} {mo : Value × Value × Value} {l : List Of} (i j : Nat) (w : World) (h : Rw w S mo (.slice (some ⟨B, 0, none⟩) n cap) l) (hi : i < l.length) (hj : j < l.length) :
    Calls Try.prog 79 #[.pointer (some ⟨S, 3, none⟩), .int .i64 (i : Int), .int .i64 (j : Int)] w fun e w' => e = .returned (.tuple #[]) ∧ Rw w' S mo (.slice (some ⟨B, 0, none⟩) n cap) (sw l i j) ∧ Mut [B] w w' := by
  have s0 := h.own
  obtain ⟨i1, i2, i3⟩ := h.cell hi
  obtain ⟨j1, j2, j3⟩ := h.cell hj
  have f1 := h.free (i * 3)
  have f2 := h.free (i * 3 + 1)
  have f3 := h.free (i * 3 + 2)
  have f4 := h.free (j * 3)
  have f5 := h.free (j * 3 + 1)
  have f6 := h.free (j * 3 + 2)
  obtain ⟨hnl, h1, h2⟩ := h.len2
  subst hnl
  have hm := h.most
  have ap1 := h.apart
  obtain ⟨⟨ia, ib, ic⟩, hia⟩ : ∃ a, at_ l i = a := ⟨_, rfl⟩
  obtain ⟨⟨ja, jb, jc⟩, hja⟩ : ∃ a, at_ l j = a := ⟨_, rfl⟩
  have hrow := row_swap h.row hi hj _ _ hia hja
  dsimp only at hrow
  have hend := swap_end h hi hj (mut6 w B (i * 3) (i * 3 + 1) (i * 3 + 2) (j * 3) (j * 3 + 1) (j * 3 + 2) _ _ _ _ _ _) hrow
  rw [hia] at i1 i2 i3
  rw [hja] at j1 j2 j3
  simp only at i1 i2 i3 j1 j2 j3
  obtain ⟨n, hn⟩ : ∃ n, l.length = n := ⟨_, rfl⟩
  rw [hn] at s0 h1 hi hj hm hend
  rw [hn]
  have s1 : w.cell? ⟨S, 3, none⟩ = some (.slice (some ⟨B, 0, none⟩) n cap) := s0.cell 3 rfl
  have y1 : (((w.setCell ⟨B, i * 3, none⟩ (.int .i64 (ja : Int))).setCell ⟨B, i * 3 + 1, none⟩ (.int .u64 (jb : Int))).setCell ⟨B, i * 3 + 2, none⟩ (.int .u64 (jc : Int))).drew.cell? ⟨S, 3, none⟩ = some (.slice (some ⟨B, 0, none⟩) n cap) := (s0.mut (mut3 w B (i * 3) (i * 3 + 1) (i * 3 + 2) _ _ _).drew (by simpa using ap1)).cell 3 rfl
  have y2 : ((((((w.setCell ⟨B, i * 3, none⟩ (.int .i64 (ja : Int))).setCell ⟨B, i * 3 + 1, none⟩ (.int .u64 (jb : Int))).setCell ⟨B, i * 3 + 2, none⟩ (.int .u64 (jc : Int))).setCell ⟨B, j * 3, none⟩ (.int .i64 (ia : Int))).setCell ⟨B, j * 3 + 1, none⟩ (.int .u64 (ib : Int))).setCell ⟨B, j * 3 + 2, none⟩ (.int .u64 (ic : Int))).drew.cell? ⟨S, 3, none⟩ = some (.slice (some ⟨B, 0, none⟩) n cap) := (s0.mut (mut6 w B (i * 3) (i * 3 + 1) (i * 3 + 2) (j * 3) (j * 3 + 1) (j * 3 + 2) _ _ _ _ _ _).drew (by simpa using ap1)).cell 3 rfl
  have Y1 := Lib.hid y1
  have Y2 := Lib.hid y2
  obtain ⟨l', hl'⟩ : ∃ l', sw l i j = l' := ⟨_, rfl⟩
  rw [hl'] at hend ⊢
  obtain ⟨v1, x1⟩ := cell?_setCell_some (w := w) (p := ⟨B, i * 3, none⟩) (x := .int .i64 (ja : Int)) j1
  obtain ⟨v2, x2⟩ := cell?_setCell_some (w := w) (p := ⟨B, i * 3, none⟩) (x := .int .i64 (ja : Int)) j2
  obtain ⟨v3, x3⟩ := cell?_setCell_some (w := w) (p := ⟨B, i * 3, none⟩) (x := .int .i64 (ja : Int)) j3
  obtain ⟨v4, x4⟩ := cell?_setCell_some (w := w.setCell ⟨B, i * 3, none⟩ (.int .i64 (ja : Int))) (p := ⟨B, i * 3 + 1, none⟩) (x := .int .u64 (jb : Int)) x2
  obtain ⟨v5, x5⟩ := cell?_setCell_some (w := w.setCell ⟨B, i * 3, none⟩ (.int .i64 (ja : Int))) (p := ⟨B, i * 3 + 1, none⟩) (x := .int .u64 (jb : Int)) x3
  obtain ⟨v6, x6⟩ := cell?_setCell_some (w := (w.setCell ⟨B, i * 3, none⟩ (.int .i64 (ja : Int))).setCell ⟨B, i * 3 + 1, none⟩ (.int .u64 (jb : Int))) (p := ⟨B, i * 3 + 2, none⟩) (x := .int .u64 (jc : Int)) x5
  have HE := Lib.hid hend
  clear h hn hia hja hend hrow hl' ap1 x2 x3 x5 s0 y1 y2
  go_enter Try.func79, Try.ntmps79
  go_wp2_with fail
  refine wp_region_held_drew (S := fun W => W.cell? ⟨S, 3, none⟩ = some (.slice (some ⟨B, 0, none⟩) n cap)) (by kernel_rfl) ?_ (fun hHeld => ?_)
  · exact s1
  refine wpAnyH_take (i := 0) (v := ?_) rfl (by kernel_rfl) (by kernel_rfl) (by kernel_rfl) (fun _ _ _ h => h) (Or.inl ⟨by rfl, ?_⟩) (by assumption) ?_
  rotate_left
  · intro wq hSw; (try dsimp only at hSw); go_simp; (try with_reducible rfl)
  simp only [Act.put, List.getElem_toArray, List.getElem_cons_succ, List.getElem_cons_zero, List.setIfInBounds_toArray, List.set_cons_zero, List.set_cons_succ]
  refine wpAnyH_take (i := 1) (v := ?_) rfl (by kernel_rfl) (by kernel_rfl) (by kernel_rfl) (fun _ _ _ h => h) (Or.inl ⟨by rfl, ?_⟩) (by assumption) ?_
  rotate_left
  · intro wq hSw; (try dsimp only at hSw); go_simp; (try with_reducible rfl)
  simp only [Act.put, List.getElem_toArray, List.getElem_cons_succ, List.getElem_cons_zero, List.setIfInBounds_toArray, List.set_cons_zero, List.set_cons_succ]
  refine wpAnyH_take (i := 2) (v := ?_) rfl (by kernel_rfl) (by kernel_rfl) (by kernel_rfl) (fun _ _ _ h => h) (Or.inl ⟨by rfl, ?_⟩) (by assumption) ?_
  rotate_left
  · intro wq hSw; (try dsimp only at hSw); have q1 := hSw; go_simp; (try with_reducible rfl)
  simp only [Act.put, List.getElem_toArray, List.getElem_cons_succ, List.getElem_cons_zero, List.setIfInBounds_toArray, List.set_cons_zero, List.set_cons_succ]
  refine wpAnyH_take (i := 3) (v := ?_) rfl (by kernel_rfl) (by kernel_rfl) (by kernel_rfl) (fun _ _ _ h => h) (Or.inl ⟨by rfl, ?_⟩) (by assumption) ?_
  rotate_left
  · intro wq hSw; (try dsimp only at hSw); go_simp; (try with_reducible rfl)
  simp only [Act.put, List.getElem_toArray, List.getElem_cons_succ, List.getElem_cons_zero, List.setIfInBounds_toArray, List.set_cons_zero, List.set_cons_succ]
  refine wpAnyH_take (i := 4) (v := ?_) rfl (by kernel_rfl) (by kernel_rfl) (by kernel_rfl) (fun _ _ _ h => h) (Or.inl ⟨by rfl, ?_⟩) (by assumption) ?_
  rotate_left
  · intro wq hSw; (try dsimp only at hSw); go_simp; (try with_reducible rfl)
  simp only [Act.put, List.getElem_toArray, List.getElem_cons_succ, List.getElem_cons_zero, List.setIfInBounds_toArray, List.set_cons_zero, List.set_cons_succ]
  refine wpAnyH_take (i := 5) (v := ?_) rfl (by kernel_rfl) (by kernel_rfl) (by kernel_rfl) (fun _ _ _ h => h) (Or.inl ⟨by rfl, ?_⟩) (by assumption) ?_
  rotate_left
  · intro wq hSw; (try dsimp only at hSw); go_simp; (try with_reducible rfl)
  simp only [Act.put, List.getElem_toArray, List.getElem_cons_succ, List.getElem_cons_zero, List.setIfInBounds_toArray, List.set_cons_zero, List.set_cons_succ]
  refine wpAnyH_take (i := 6) (v := ?_) rfl (by kernel_rfl) (by kernel_rfl) (by kernel_rfl) (fun _ _ _ h => h) (Or.inl ⟨by rfl, ?_⟩) (by assumption) ?_
  rotate_left
  · intro wq hSw; (try dsimp only at hSw); have q1 := hSw; go_simp; (try with_reducible rfl)
  simp only [Act.put, List.getElem_toArray, List.getElem_cons_succ, List.getElem_cons_zero, List.setIfInBounds_toArray, List.set_cons_zero, List.set_cons_succ]
  refine wpAnyH_take (i := 7) (v := ?_) rfl (by kernel_rfl) (by kernel_rfl) (by kernel_rfl) (fun _ _ _ h => h) (Or.inl ⟨by rfl, ?_⟩) (by assumption) ?_
  rotate_left
  · intro wq hSw; (try dsimp only at hSw); go_simp; (try with_reducible rfl)
  simp only [Act.put, List.getElem_toArray, List.getElem_cons_succ, List.getElem_cons_zero, List.setIfInBounds_toArray, List.set_cons_zero, List.set_cons_succ]
  refine wpAnyH_take (i := 8) (v := ?_) rfl (by kernel_rfl) (by kernel_rfl) (by kernel_rfl) (fun _ _ _ h => h) (Or.inl ⟨by rfl, ?_⟩) (by assumption) ?_
  rotate_left
  · intro wq hSw; (try dsimp only at hSw); go_simp; (try with_reducible rfl)
  simp only [Act.put, List.getElem_toArray, List.getElem_cons_succ, List.getElem_cons_zero, List.setIfInBounds_toArray, List.set_cons_zero, List.set_cons_succ]
  refine wpAnyH_take (i := 9) (v := ?_) rfl (by kernel_rfl) (by kernel_rfl) (by kernel_rfl) (fun _ _ _ h => h) (Or.inl ⟨by rfl, ?_⟩) (by assumption) ?_
  rotate_left
  · intro wq hSw; (try dsimp only at hSw); go_simp; (try with_reducible rfl)
  simp only [Act.put, List.getElem_toArray, List.getElem_cons_succ, List.getElem_cons_zero, List.setIfInBounds_toArray, List.set_cons_zero, List.set_cons_succ]
  refine wpAnyH_take (i := 10) (v := ?_) rfl (by kernel_rfl) (by kernel_rfl) (by kernel_rfl) (fun _ _ _ h => h) (Or.inl ⟨by rfl, ?_⟩) (by assumption) ?_
  rotate_left
  · intro wq hSw; (try dsimp only at hSw); have q1 := hSw; go_simp; (try with_reducible rfl)
  simp only [Act.put, List.getElem_toArray, List.getElem_cons_succ, List.getElem_cons_zero, List.setIfInBounds_toArray, List.set_cons_zero, List.set_cons_succ]
  refine wpAnyH_take (i := 11) (v := ?_) rfl (by kernel_rfl) (by kernel_rfl) (by kernel_rfl) (fun _ _ _ h => h) (Or.inl ⟨by rfl, ?_⟩) (by assumption) ?_
  rotate_left
  · intro wq hSw; (try dsimp only at hSw); go_simp; (try with_reducible rfl)
  simp only [Act.put, List.getElem_toArray, List.getElem_cons_succ, List.getElem_cons_zero, List.setIfInBounds_toArray, List.set_cons_zero, List.set_cons_succ]
  refine wpAnyH_take (i := 12) (v := ?_) rfl (by kernel_rfl) (by kernel_rfl) (by kernel_rfl) (fun _ _ _ h => h) (Or.inl ⟨by rfl, ?_⟩) (by assumption) ?_
  rotate_left
  · intro wq hSw; (try dsimp only at hSw); go_simp; (try with_reducible rfl)
  simp only [Act.put, List.getElem_toArray, List.getElem_cons_succ, List.getElem_cons_zero, List.setIfInBounds_toArray, List.set_cons_zero, List.set_cons_succ]
  refine wpAnyH_take (i := 14) (v := ?_) rfl (by kernel_rfl) (by kernel_rfl) (by kernel_rfl) (fun _ _ _ h => h) (Or.inl ⟨by rfl, ?_⟩) (by assumption) ?_
  rotate_left
  · intro wq hSw; (try dsimp only at hSw); go_simp; (try with_reducible rfl)
  simp only [Act.put, List.getElem_toArray, List.getElem_cons_succ, List.getElem_cons_zero, List.setIfInBounds_toArray, List.set_cons_zero, List.set_cons_succ]
  refine wpAnyH_take (i := 15) (v := ?_) rfl (by kernel_rfl) (by kernel_rfl) (by kernel_rfl) (fun _ _ _ h => h) (Or.inl ⟨by rfl, ?_⟩) (by assumption) ?_
  rotate_left
  · intro wq hSw; (try dsimp only at hSw); go_simp; (try with_reducible rfl)
  simp only [Act.put, List.getElem_toArray, List.getElem_cons_succ, List.getElem_cons_zero, List.setIfInBounds_toArray, List.set_cons_zero, List.set_cons_succ]
  refine wpAnyH_take (i := 16) (v := ?_) rfl (by kernel_rfl) (by kernel_rfl) (by kernel_rfl) (fun _ _ _ h => h) (Or.inl ⟨by rfl, ?_⟩) (by assumption) ?_
  rotate_left
  · intro wq hSw; (try dsimp only at hSw); have q1 := hSw; go_simp; (try with_reducible rfl)
  simp only [Act.put, List.getElem_toArray, List.getElem_cons_succ, List.getElem_cons_zero, List.setIfInBounds_toArray, List.set_cons_zero, List.set_cons_succ]
  refine wpAnyH_take (i := 17) (v := ?_) rfl (by kernel_rfl) (by kernel_rfl) (by kernel_rfl) (fun _ _ _ h => h) (Or.inl ⟨by rfl, ?_⟩) (by assumption) ?_
  rotate_left
  · intro wq hSw; (try dsimp only at hSw); go_simp; (try with_reducible rfl)
  simp only [Act.put, List.getElem_toArray, List.getElem_cons_succ, List.getElem_cons_zero, List.setIfInBounds_toArray, List.set_cons_zero, List.set_cons_succ]
  refine wpAnyH_take (i := 18) (v := ?_) rfl (by kernel_rfl) (by kernel_rfl) (by kernel_rfl) (fun _ _ _ h => h) (Or.inl ⟨by rfl, ?_⟩) (by assumption) ?_
  rotate_left
  · intro wq hSw; (try dsimp only at hSw); go_simp; (try with_reducible rfl)
  simp only [Act.put, List.getElem_toArray, List.getElem_cons_succ, List.getElem_cons_zero, List.setIfInBounds_toArray, List.set_cons_zero, List.set_cons_succ]
  refine wpAnyH_ready (rs := [13, 19]) (by kernel_rfl) (by simp) ?_
  refine AllReadyH.cons rfl (fun K hK => ?_) (AllReadyH.cons rfl (fun K hK => ?_) (AllReadyH.nil))
  · go_simp
    (try go_wp2_with fail)
    refine hK.out _ _ ?_ (fun hHeld => ?_)
    · exact s1
    clear hK K
    try simp only [Act.put, List.getElem_toArray, List.getElem_cons_succ, List.getElem_cons_zero, List.setIfInBounds_toArray, List.set_cons_zero, List.set_cons_succ]
    refine wpAnyH_ready (rs := [19]) (by kernel_rfl) (by simp) ?_
    refine AllReadyH.cons rfl (fun K hK => ?_) AllReadyH.nil
    go_simp
    (try go_wp2_with fail)
    refine hK.out _ _ ?_ (fun hHeld => ?_)
    · exact s1
    clear hK K
    try simp only [Act.put, List.getElem_toArray, List.getElem_cons_succ, List.getElem_cons_zero, List.setIfInBounds_toArray, List.set_cons_zero, List.set_cons_succ]
    refine wpAnyH_take (i := 20) (v := ?_) rfl (by kernel_rfl) (by kernel_rfl) (by kernel_rfl) (fun _ _ _ h => h) (Or.inl ⟨by rfl, ?_⟩) (by assumption) ?_
    rotate_left
    · intro wq hSw; (try dsimp only at hSw); go_simp; (try with_reducible rfl)
    simp only [Act.put, List.getElem_toArray, List.getElem_cons_succ, List.getElem_cons_zero, List.setIfInBounds_toArray, List.set_cons_zero, List.set_cons_succ]
    refine wpAnyH_ready (rs := [21]) (by kernel_rfl) (by simp) ?_
    refine AllReadyH.cons rfl (fun K hK => ?_) AllReadyH.nil
    go_simp
    (try go_wp2_with fail)
    refine hK.out _ _ ?_ (fun hHeld => ?_)
    · exact Y1.out
    clear hK K
    try simp only [Act.put, List.getElem_toArray, List.getElem_cons_succ, List.getElem_cons_zero, List.setIfInBounds_toArray, List.set_cons_zero, List.set_cons_succ]
    refine wpAnyH_take (i := 22) (v := ?_) rfl (by kernel_rfl) (by kernel_rfl) (by kernel_rfl) (fun _ _ _ h => h) (Or.inl ⟨by rfl, ?_⟩) (by assumption) ?_
    rotate_left
    · intro wq hSw; (try dsimp only at hSw); go_simp; (try with_reducible rfl)
    simp only [Act.put, List.getElem_toArray, List.getElem_cons_succ, List.getElem_cons_zero, List.setIfInBounds_toArray, List.set_cons_zero, List.set_cons_succ]
    refine wpAnyH_ready (rs := [23]) (by kernel_rfl) (by simp) ?_
    refine AllReadyH.cons rfl (fun K hK => ?_) AllReadyH.nil
    go_simp
    (try go_wp2_with fail)
    refine hK.out _ _ ?_ (fun hHeld => ?_)
    · exact Y2.out
    clear hK K
    try simp only [Act.put, List.getElem_toArray, List.getElem_cons_succ, List.getElem_cons_zero, List.setIfInBounds_toArray, List.set_cons_zero, List.set_cons_succ]
    refine wpAnyH_done (by kernel_rfl) ?_ _
    clear hHeld
    go_wp2_with fail
    go_end0
    exact ⟨rfl, HE.out⟩
  · go_simp
    (try go_wp2_with fail)
    refine hK.out _ _ ?_ (fun hHeld => ?_)
    · exact s1
    clear hK K
    try simp only [Act.put, List.getElem_toArray, List.getElem_cons_succ, List.getElem_cons_zero, List.setIfInBounds_toArray, List.set_cons_zero, List.set_cons_succ]
    refine wpAnyH_ready (rs := [13]) (by kernel_rfl) (by simp) ?_
    refine AllReadyH.cons rfl (fun K hK => ?_) AllReadyH.nil
    go_simp
    (try go_wp2_with fail)
    refine hK.out _ _ ?_ (fun hHeld => ?_)
    · exact s1
    clear hK K
    try simp only [Act.put, List.getElem_toArray, List.getElem_cons_succ, List.getElem_cons_zero, List.setIfInBounds_toArray, List.set_cons_zero, List.set_cons_succ]
    refine wpAnyH_take (i := 20) (v := ?_) rfl (by kernel_rfl) (by kernel_rfl) (by kernel_rfl) (fun _ _ _ h => h) (Or.inl ⟨by rfl, ?_⟩) (by assumption) ?_
    rotate_left
    · intro wq hSw; (try dsimp only at hSw); go_simp; (try with_reducible rfl)
    simp only [Act.put, List.getElem_toArray, List.getElem_cons_succ, List.getElem_cons_zero, List.setIfInBounds_toArray, List.set_cons_zero, List.set_cons_succ]
    refine wpAnyH_ready (rs := [21]) (by kernel_rfl) (by simp) ?_
    refine AllReadyH.cons rfl (fun K hK => ?_) AllReadyH.nil
    go_simp
    (try go_wp2_with fail)
    refine hK.out _ _ ?_ (fun hHeld => ?_)
    · exact Y1.out
    clear hK K
    try simp only [Act.put, List.getElem_toArray, List.getElem_cons_succ, List.getElem_cons_zero, List.setIfInBounds_toArray, List.set_cons_zero, List.set_cons_succ]
    refine wpAnyH_take (i := 22) (v := ?_) rfl (by kernel_rfl) (by kernel_rfl) (by kernel_rfl) (fun _ _ _ h => h) (Or.inl ⟨by rfl, ?_⟩) (by assumption) ?_
    rotate_left
    · intro wq hSw; (try dsimp only at hSw); go_simp; (try with_reducible rfl)
    simp only [Act.put, List.getElem_toArray, List.getElem_cons_succ, List.getElem_cons_zero, List.setIfInBounds_toArray, List.set_cons_zero, List.set_cons_succ]
    refine wpAnyH_ready (rs := [23]) (by kernel_rfl) (by simp) ?_
    refine AllReadyH.cons rfl (fun K hK => ?_) AllReadyH.nil
    go_simp
    (try go_wp2_with fail)
    refine hK.out _ _ ?_ (fun hHeld => ?_)
    · exact Y2.out
    clear hK K
    try simp only [Act.put, List.getElem_toArray, List.getElem_cons_succ, List.getElem_cons_zero, List.setIfInBounds_toArray, List.set_cons_zero, List.set_cons_succ]
    refine wpAnyH_done (by kernel_rfl) ?_ _
    clear hHeld
    go_wp2_with fail
    go_end0
    exact ⟨rfl, HE.out⟩
end Go.Proofs.Ytmjbdjcpjaeemaa
