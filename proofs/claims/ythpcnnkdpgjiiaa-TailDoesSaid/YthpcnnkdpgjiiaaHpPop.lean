/-
  What the row's Pop and Push do: the last timer is taken out, one more is put behind all; the map tells so.
-/
import Derived.Test.YthpcnnkdpgjiiaaHpSwap
namespace Go.Proofs.Ythpcnnkdpgjiiaa
open Go.RowKit Go.Maps Go.Proofs.HeapMath

theorem row_take {W : World} {B cap n : Nat} {l : List Tm} {m : Nat} (h : W.ownsRow 0 123 2 (.slice (some ⟨B, 0, none⟩) n cap) n (cl l)) (hm : m ≤ n) : W.ownsRow 0 123 2 (.slice (some ⟨B, 0, none⟩) m cap) m (cl (l.take m)) := by
  have hl := h.1
  rw [cl_length] at hl
  refine ⟨by rw [cl_length, List.length_take]; omega, ?_⟩
  rcases h.2 with ⟨h1, _⟩ | ⟨g, cap', cur, e, h2, h3, h4, h5, h6, h7⟩
  · cases h1
  · injection e with e1 _ e3
    injection e1 with e1
    injection e1 with e1 _ _
    subst e1 e3
    refine .inr ⟨_, _, cur, rfl, h2, h3, by omega, h5, h6, ?_⟩
    rw [← cl_take, ← h7, List.take_take, Nat.min_eq_left (by omega)]

set_option maxRecDepth 100000 in
set_option maxHeartbeats 1000000 in
theorem rpop_any {S M B cap n : Nat} {mo : Value} {l : List Tm} {t : Tm} (w : World) (h : Rw w S M mo (.slice (some ⟨B, 0, none⟩) n cap) (l ++ [t])) :
    Calls Try.prog 73 #[.pointer (some ⟨S, 1, none⟩)] w fun e w' => e = .returned (.iface 123 (.agg #[.int .i64 t.1, .int .i64 t.2])) ∧ Rw w' S M mo (.slice (some ⟨B, 0, none⟩) l.length cap) l ∧ Mut [S, M] w w' := by
  obtain ⟨hn, h1, h2⟩ := h.len2
  have hm := h.most
  simp only [List.length_append, List.length_cons, List.length_nil, Nat.zero_add] at hn h1 hm
  subst hn
  obtain ⟨ap1, ap2, ap3⟩ := h.apart
  obtain ⟨q1, q2⟩ := h.in64 t (by simp)
  have s1 := h.own.cell 1 rfl
  have s2 := h.own.cell 2 rfl
  have f1 := h.own.free 1
  obtain ⟨i1, i2⟩ := h.cell (i := l.length) (by simp)
  have hat : at_ (l ++ [t]) l.length = t := by simp [at_, List.getD]
  rw [hat] at i1 i2
  obtain ⟨a, b⟩ := t
  simp only at i1 i2 q1 q2
  have hB : Below w.heap.size w (w.alloc (.cells #[.int .i64 a, .int .i64 b] 123)) := box_below _
  have hr := h.later hB
  have hb := blk_new w #[.int .i64 a, .int .i64 b] 123
  have hSl := h.own.lt
  have hMl := h.map.lt
  obtain ⟨n0, hn0⟩ : ∃ n0, w.heap.size = n0 := ⟨_, rfl⟩
  rw [hn0] at hb hB hSl hMl
  obtain ⟨n, hn⟩ : ∃ n, l.length = n := ⟨_, rfl⟩
  have hlt : (l ++ [(a, b)]).take n = l := by rw [← hn]; simp
  rw [hn] at s1 h1 hm i1 i2 hr ⊢
  have HR := Lib.hid hr
  have HB := Lib.hid hB
  have HK := Lib.hid hb
  have HL := Lib.hid (show l.length = n ∧ (l ++ [(a, b)]).take n = l ∧ S ≠ M from ⟨hn, hlt, ap2⟩)
  have HSZ := Lib.hid (show w.heap.size = n0 from hn0)
  clear h hr hB hb hat hn hlt ap1 ap2 ap3
  go_enter Try.func73, Try.ntmps73
  go_wp2_with fail
  clear s1 s2 f1 i1 i2 hn0
  generalize w.alloc (.cells #[.int .i64 a, .int .i64 b] 123) = w1 at HR HB HK ⊢
  have s1 := HR.out.own.cell 1 rfl
  have s2 := HR.out.own.cell 2 rfl
  have b1 := HK.out.cell 1 rfl
  go_still_tail 7, (by kernel_rfl)
  change wpList _ _ _ _ _ w1.drew
  obtain ⟨D, hD, hP⟩ := HR.out.map
  have hPP := hP.pop (hD.tidy law_int) HR.out.nn
  have hD2 : w1.drew.ownsMap Try.prog 3 (plainElem Try.prog 3) M (l ++ [(a, b)]).length D := hD
  clear hD hP
  have HPP := Lib.hid hPP
  clear hPP
  refine wpList_delete_own _ rfl _ _ 103 3 rfl 3 law_int Try.underlying103 _ M _ D rfl hD2 _ _ rfl (key_int q2.1 q2.2) ?_
  intro w2 hown2 hturn2
  have hg2 := hturn2.grown
  have hown : Blk w2 S #[mo, .slice (some ⟨B, 0, none⟩) (n + 1) cap, .map (some M)] 108 := HR.out.own.same (hg2.block _ HR.out.own.lt (by simpa using HL.out.2.2))
  have hrow : w2.ownsRow 0 123 2 (.slice (some ⟨B, 0, none⟩) (n + 1) cap) (n + 1) (cl (l ++ [(a, b)])) := by
    have h0 := HR.out.row
    have e : (l ++ [(a, b)]).length = n + 1 := by simp [HL.out.1]
    rw [e] at h0
    refine row_same h0 fun g hg => hg2.block g (HR.out.row.lt g hg).2 ?_
    simp [Value.ownBlock] at hg
    subst hg
    simpa using HR.out.apart.2.2
  have hbx : Blk w2 n0 #[.int .i64 a, .int .i64 b] 123 := HK.out.same (hg2.block _ HK.out.lt (by simp; omega))
  have hnS : n0 ≠ S := by omega
  have hend : Rw (w2.setCell ⟨S, 1, none⟩ (.slice (some ⟨B, 0, none⟩) n cap)) S M mo (.slice (some ⟨B, 0, none⟩) l.length cap) l := by
    have hap := HR.out.apart
    refine ⟨?_, ?_, ?_, (List.pairwise_append.1 HR.out.nn).1, fun t ht => HR.out.in64 t (by simp [ht]), by have := HL.out.1; omega⟩
    · have := hown.set 1 (.slice (some ⟨B, 0, none⟩) n cap)
      rw [HL.out.1]
      exact this
    · have := row_take hrow (m := n) (by omega)
      rw [HL.out.2.1] at this
      rw [HL.out.1]
      refine row_same this fun g hg => ?_
      simp [Value.ownBlock] at hg
      subst hg
      exact Below.heap_setCell _ _ _ _ hap.1.symm
    · refine ⟨_, map_same (resize hown2 ?_) (Below.heap_setCell _ _ _ _ hap.2.1.symm), HPP.out⟩
      rw [HPP.out.size]
      exact Nat.le_refl _
  have hmut : Mut [S, M] w (w2.setCell ⟨S, 1, none⟩ (.slice (some ⟨B, 0, none⟩) n cap)) := by
    refine Mut.setCell ?_ (by simp) _
    have h1 : Mut [S, M] w w1 := ⟨HB.out.os, HB.out.tape, HB.out.output, HB.out.size, fun k hk _ => HB.out.block k (by have := HSZ.out; omega)⟩
    exact h1.drew.grown hg2 (by simp)
  have HE := Lib.hid hend
  have HM := Lib.hid hmut
  have s1 := hown.cell 1 rfl
  have f1 := hown.free 1
  have hbx2 := hbx.same (Below.heap_setCell w2 ⟨S, 1, none⟩ (.slice (some ⟨B, 0, none⟩) n cap) n0 (by simpa using hnS))
  have b0 := hbx2.cell 0 rfl
  have b1 := hbx2.cell 1 rfl
  clear hown2 hturn2 hg2 hown hrow hbx hend hmut hbx2 HR HB HK HPP hD2
  dsimp only [Act.put]
  go_wp2_with fail
  go_ret
  rw [HL.out.1] at HE
  exact ⟨rfl, HE.out, HM.out⟩
end Go.Proofs.Ythpcnnkdpgjiiaa
