/-
  What the row's Swap does: two timers change places, and the map tells so.
-/
import Derived.StillTailTactics
import Derived.Test.YthpcnnkdpgjiiaaHpRow
namespace Go.Proofs.Ythpcnnkdpgjiiaa
open Go.RowKit Go.Maps Go.Proofs.HeapMath

/-- Two timers have changed places in memory. -/
theorem row_swap {W : World} {B cap : Nat} {l : List Tm} {i j : Nat} (h : W.ownsRow 0 123 2 (.slice (some ⟨B, 0, none⟩) l.length cap) l.length (cl l)) (hi : i < l.length) (hj : j < l.length) (a b : Tm) (ha : at_ l i = a) (hb : at_ l j = b) :
    ((((W.setCell ⟨B, i * 2, none⟩ (.int .i64 b.1)).setCell ⟨B, i * 2 + 1, none⟩ (.int .i64 b.2)).setCell ⟨B, j * 2, none⟩ (.int .i64 a.1)).setCell ⟨B, j * 2 + 1, none⟩ (.int .i64 a.2)).ownsRow 0 123 2 (.slice (some ⟨B, 0, none⟩) l.length cap) l.length (cl (sw l i j)) := by
  have h1 := (((((h.stored (i * 2) (.int .i64 b.1)).1).stored (i * 2 + 1) (.int .i64 b.2)).1.stored (j * 2) (.int .i64 a.1)).1.stored (j * 2 + 1) (.int .i64 a.2)).1
  rw [cl_set _ hi, cl_set _ (by simpa using hj)] at h1
  unfold sw
  rw [ha, hb]
  exact h1
structure Mid (w W : World) (S M B cap n : Nat) (mo : Value) (l : List Tm) (D : DataW Unit) : Prop where
  own : Blk W S #[mo, .slice (some ⟨B, 0, none⟩) n cap, .map (some M)] 108
  row : W.ownsRow 0 123 2 (.slice (some ⟨B, 0, none⟩) n cap) n (cl l)
  map : W.ownsMap Try.prog 3 (plainElem Try.prog 3) M n D
  turn : Mut [B, M] w W
theorem Mid.cell {w W : World} {S M B cap n : Nat} {mo : Value} {l : List Tm} {D : DataW Unit} (h : Mid w W S M B cap n mo l D) (hl : l.length = n) {i : Nat} (hi : i < n) : W.cell? ⟨B, i * 2 + 1, none⟩ = some (.int .i64 (at_ l i).2) := by
  rw [h.row.cellAt _ (by omega)]
  exact (cl_at (by omega)).2
theorem Mid.drew {w W : World} {S M B cap n : Nat} {mo : Value} {l : List Tm} {D : DataW Unit} (h : Mid w W S M B cap n mo l D) : Mid w W.drew S M B cap n mo l D := ⟨h.own, h.row, h.map, h.turn.drew⟩
theorem Mid.step {w W W' : World} {S M B cap n : Nat} {mo : Value} {l : List Tm} {D D' : DataW Unit} (h : Mid w W S M B cap n mo l D) (hS : S ≠ M) (hB : B ≠ M) (hg : W.grownBy W' (some M)) (hm : W'.ownsMap Try.prog 3 (plainElem Try.prog 3) M n D') : Mid w W' S M B cap n mo l D' :=
  ⟨h.own.same (hg.block _ h.own.lt (by simpa using hS)), row_same h.row fun g hgv => hg.block g (h.row.lt g hgv).2 (by
    simp [Value.ownBlock] at hgv
    subst hgv
    simpa using hB), hm, h.turn.grown hg (by simp)⟩

set_option maxRecDepth 100000 in
set_option maxHeartbeats 1000000 in
theorem swap_any {S M B cap n : Nat} {mo : Value} {l : List Tm} (i j : Nat) (w : World) (h : Rw w S M mo (.slice (some ⟨B, 0, none⟩) n cap) l) (hi : i < l.length) (hj : j < l.length) :
    Calls Try.prog 75 #[.pointer (some ⟨S, 1, none⟩), .int .i64 (i : Int), .int .i64 (j : Int)] w fun e w' => e = .returned (.tuple #[]) ∧ Rw w' S M mo (.slice (some ⟨B, 0, none⟩) n cap) (sw l i j) ∧ Mut [B, M] w w' := by
  have s1 := h.own.cell 1 rfl
  have s2 := h.own.cell 2 rfl
  obtain ⟨i1, i2⟩ := h.cell hi
  obtain ⟨j1, j2⟩ := h.cell hj
  have f1 := h.free (i * 2)
  have f2 := h.free (i * 2 + 1)
  have f3 := h.free (j * 2)
  have f4 := h.free (j * 2 + 1)
  obtain ⟨rfl, h1, h2⟩ := h.len2
  have hm := h.most
  obtain ⟨ap1, ap2, ap3⟩ := h.apart
  obtain ⟨D, hD, hP⟩ := h.map
  have hT := hD.tidy law_int
  have hPS := hP.swap hT h.nn hi hj
  have hTS := hT.put (kl_key (at_ (sw l i j) i).2) (.lit (.int .i64 (i : Int)))
  have hi64 : ∀ k, k < l.length → In64 (at_ (sw l i j) k) := fun k hk => h.in64 _ ((sw_perm hi hj).mem_iff.1 (at_mem (by rw [length_sw]; exact hk)))
  have q1 := hi64 i hi
  have q2 := hi64 j hj
  obtain ⟨⟨ia, ib⟩, hia⟩ : ∃ a, at_ l i = a := ⟨_, rfl⟩
  obtain ⟨⟨ja, jb⟩, hja⟩ : ∃ a, at_ l j = a := ⟨_, rfl⟩
  have hrow := row_swap h.row hi hj _ _ hia hja
  have hmid : Mid w ((((w.setCell ⟨B, i * 2, none⟩ (.int .i64 ja)).setCell ⟨B, i * 2 + 1, none⟩ (.int .i64 jb)).setCell ⟨B, j * 2, none⟩ (.int .i64 ia)).setCell ⟨B, j * 2 + 1, none⟩ (.int .i64 ib)).drew S M B cap l.length mo (sw l i j) D :=
    ⟨((((h.own.same (Below.heap_setCell _ _ _ _ ap1)).same (Below.heap_setCell _ _ _ _ ap1)).same (Below.heap_setCell _ _ _ _ ap1)).same (Below.heap_setCell _ _ _ _ ap1)).same rfl, row_same hrow fun _ _ => rfl,
      map_same (map_same (map_same (map_same (map_same hD (Below.heap_setCell _ _ _ _ ap3.symm)) (Below.heap_setCell _ _ _ _ ap3.symm)) (Below.heap_setCell _ _ _ _ ap3.symm)) (Below.heap_setCell _ _ _ _ ap3.symm)) rfl,
      (((((Mut.refl _ w).setCell (by simp) _).setCell (by simp) _).setCell (by simp) _).setCell (by simp) _).drew⟩
  rw [hia] at i1 i2
  rw [hja] at j1 j2
  simp only at i1 i2 j1 j2
  have hno1 : (at_ (sw l i j) i).2 = (at_ (sw l i j) i).2 := rfl
  obtain ⟨a, ha⟩ : ∃ a, (at_ (sw l i j) i).2 = a := ⟨_, rfl⟩
  obtain ⟨b, hb⟩ : ∃ b, (at_ (sw l i j) j).2 = b := ⟨_, rfl⟩
  have hna := q1.2
  have hnb := q2.2
  have hls : (sw l i j).length = l.length := length_sw _ _ _
  have hend : ∀ W, Mid w W S M B cap l.length mo (sw l i j) ((D.put (kl a) (.lit (.int .i64 (i : Int)))).put (kl b) (.lit (.int .i64 (j : Int)))) → Rw W S M mo (.slice (some ⟨B, 0, none⟩) l.length cap) (sw l i j) := fun W hW =>
    ⟨hW.own, by rw [hls]; exact hW.row, ⟨_, by rw [hls]; exact hW.map, by rw [← ha, ← hb]; exact hPS⟩, h.nn.perm (sw_perm hi hj), fun t ht => h.in64 t ((sw_perm hi hj).mem_iff.1 ht), by rw [hls]; exact hm⟩
  have c1 := fun W D (hW : Mid w W S M B cap l.length mo (sw l i j) D) => hW.cell hls hi
  have c2 := fun W D (hW : Mid w W S M B cap l.length mo (sw l i j) D) => hW.cell hls hj
  have z1 : Maps.size (D.put (kl a) (.lit (.int .i64 (i : Int)))) ≤ l.length := by
    rw [size_put hT, hP.size]
    split
    · exact Nat.le_refl _
    · rename_i hh
      rw [hP.is, ← ha, isin_true.2 ⟨_, (sw_perm hi hj).mem_iff.1 (at_mem (by rw [length_sw]; exact hi)), rfl⟩] at hh
      exact absurd rfl hh
  have z2 : Maps.size ((D.put (kl a) (.lit (.int .i64 (i : Int)))).put (kl b) (.lit (.int .i64 (j : Int)))) ≤ l.length := by
    rw [← ha, ← hb, hPS.size, hls]
    exact Nat.le_refl _
  rw [ha] at c1 hna
  rw [hb] at c2 hnb
  obtain ⟨n, hn⟩ : ∃ n, l.length = n := ⟨_, rfl⟩
  rw [hn] at s1 h1 hi hj hm hmid hend c1 c2 z1 z2
  rw [hn]
  obtain ⟨l', hl'⟩ : ∃ l', sw l i j = l' := ⟨_, rfl⟩
  rw [hl'] at hmid hend c1 c2
  rw [hl']
  obtain ⟨v1, x1⟩ := cell?_setCell_some (w := w) (p := ⟨B, i * 2, none⟩) (x := .int .i64 ja) j1
  obtain ⟨v2, x2⟩ := cell?_setCell_some (w := w) (p := ⟨B, i * 2, none⟩) (x := .int .i64 ja) j2
  obtain ⟨v3, x3⟩ := cell?_setCell_some (w := w.setCell ⟨B, i * 2, none⟩ (.int .i64 ja)) (p := ⟨B, i * 2 + 1, none⟩) (x := .int .i64 jb) x2
  have HM := Lib.hid hmid
  have HE := Lib.hid hend
  have HC1 := Lib.hid c1
  have HC2 := Lib.hid c2
  have HA := Lib.hid (show S ≠ M ∧ B ≠ M from ⟨ap2, ap3⟩)
  clear h hn hia hja hmid hend c1 c2 hno1 q1 q2 hi64 hPS hTS hT hD hP hrow ha hb hl' hls ap1 ap2 ap3
  go_enter Try.func75, Try.ntmps75
  go_wp2_with fail
  go_region
  go_wp2_with fail
  clear x1 x2 x3 s1 s2 f1 f2 f3 f4 i1 i2 j1 j2
  generalize ((((w.setCell ⟨B, i * 2, none⟩ (.int .i64 ja)).setCell ⟨B, i * 2 + 1, none⟩ (.int .i64 jb)).setCell ⟨B, j * 2, none⟩ (.int .i64 ia)).setCell ⟨B, j * 2 + 1, none⟩ (.int .i64 ib)).drew = w1 at HM ⊢
  have s1 := HM.out.own.cell 1 rfl
  have s2 := HM.out.own.cell 2 rfl
  have d1 := HC1.out _ _ HM.out
  go_still_tail 14, (by kernel_rfl)
  change wpList _ _ _ _ _ w1.drew
  refine wpList_mapUpdate_own _ rfl _ _ _ 103 rfl 3 3 law_int Try.underlying103 _ M n D rfl HM.out.drew.map (by unfold maxLen; omega) _ _ _ rfl rfl (key_int hna.1 hna.2) _ [] (plainElem_int Try.underlying3 (wf64 (by omega) (by omega))) ?_
  intro w2 hown2 hgrow2
  have HM2 := Lib.hid (HM.out.drew.step HA.out.1 HA.out.2 hgrow2 (resize hown2 z1))
  clear s1 s2 d1 hown2 hgrow2 HM
  have s1 := HM2.out.own.cell 1 rfl
  have s2 := HM2.out.own.cell 2 rfl
  have d2 := HC2.out _ _ HM2.out
  dsimp only [Act.put]
  go_wp2_with fail
  go_still_tail 14, (by kernel_rfl)
  change wpList _ _ _ _ _ w2.drew
  refine wpList_mapUpdate_own _ rfl _ _ _ 103 rfl 3 3 law_int Try.underlying103 _ M n _ rfl HM2.out.drew.map (by unfold maxLen; omega) _ _ _ rfl rfl (key_int hnb.1 hnb.2) _ [] (plainElem_int Try.underlying3 (wf64 (by omega) (by omega))) ?_
  intro w3 hown3 hgrow3
  have HM3 := Lib.hid (HM2.out.drew.step HA.out.1 HA.out.2 hgrow3 (resize hown3 z2))
  clear s1 s2 d2 hown3 hgrow3 HM2
  dsimp only [Act.put]
  go_wp2_with fail
  go_end0
  exact ⟨rfl, HE.out _ HM3.out, HM3.out.turn⟩
end Go.Proofs.Ythpcnnkdpgjiiaa
