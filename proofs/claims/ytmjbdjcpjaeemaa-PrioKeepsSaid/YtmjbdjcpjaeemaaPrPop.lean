/-
  What the row's Pop does: the last offer is taken out.
-/
import Derived.Test.YtmjbdjcpjaeemaaPrRow
namespace Go.Proofs.Ytmjbdjcpjaeemaa
open Go.RowKit Go.Proofs.PrioMath

theorem row_take {W : World} {B cap n : Nat} {l : List Of} {m : Nat} (h : W.ownsRow 0 59 3 (.slice (some ⟨B, 0, none⟩) n cap) n (cl l)) (hm : m ≤ n) : W.ownsRow 0 59 3 (.slice (some ⟨B, 0, none⟩) m cap) m (cl (l.take m)) := by
  have hl := h.1
  rw [cl_length] at hl
  refine ⟨by rw [cl_length, List.length_take]; omega, ?_⟩
  rcases h.2 with ⟨h1, _⟩ | ⟨g, cap', cur, e, h2, h3, h4, h5, h6, h7⟩
  · cases h1
  · injection e with e1 _ e3
    injection e1 with e1
    injection e1 with e1 _ _
    subst e1 e3
    refine .inr ⟨_, _, cur, rfl, h2, h3, by omega, h5, h6, ?_⟩
    rw [← cl_take, ← h7, List.take_take, Nat.min_eq_left (by omega)]

set_option maxRecDepth 100000 in
set_option maxHeartbeats 1000000 in
theorem rpop_any {S B cap n : Nat} {mo : Value × Value × Value} {l : List Of} {t : Of} (w : World) (h : Rw w S mo (.slice (some ⟨B, 0, none⟩) n cap) (l ++ [t])) :
    Calls Try.prog 77 #[.pointer (some ⟨S, 3, none⟩)] w fun e w' => e = .returned (.iface 59 (.agg #[.int .i64 (t.p : Int), .int .u64 (t.w : Int), .int .u64 (t.d : Int)])) ∧ Rw w' S mo (.slice (some ⟨B, 0, none⟩) l.length cap) l ∧ Mut [S] w w' := by
  obtain ⟨hn, h1, h2⟩ := h.len2
  have hm := h.most
  simp only [List.length_append, List.length_cons, List.length_nil, Nat.zero_add] at hn h1 hm
  subst hn
  have ap1 := h.apart
  have s1 : w.cell? ⟨S, 3, none⟩ = some (.slice (some ⟨B, 0, none⟩) (l.length + 1) cap) := h.own.cell 3 rfl
  have f1 := h.own.free 3
  obtain ⟨i1, i2, i3⟩ := h.cell (i := l.length) (by simp)
  have hat : at_ (l ++ [t]) l.length = t := by simp [at_, List.getD]
  rw [hat] at i1 i2 i3
  obtain ⟨a, b, c⟩ := t
  simp only at i1 i2 i3 ⊢
  have hSl := h.own.lt
  obtain ⟨n, hn⟩ : ∃ n, l.length = n := ⟨_, rfl⟩
  have hlt : (l ++ [(⟨a, b, c⟩ : Of)]).take n = l := by rw [← hn]; simp
  have hlen : (l ++ [(⟨a, b, c⟩ : Of)]).length = n + 1 := by simp [hn]
  rw [hn] at s1 h1 hm i1 i2 i3
  have hrow : w.ownsRow 0 59 3 (.slice (some ⟨B, 0, none⟩) n cap) n (cl l) := by
    have h0 := h.row
    rw [hlen, hn] at h0
    have := row_take h0 (m := n) (by omega)
    rwa [hlt] at this
  have hw1 : Rw (w.setCell ⟨S, 3, none⟩ (.slice (some ⟨B, 0, none⟩) n cap)) S mo (.slice (some ⟨B, 0, none⟩) n cap) l := by
    refine ⟨h.own.set 3 _, ?_, fun t ht => h.fit t (by simp [ht]), by omega⟩
    rw [hn]
    refine row_same hrow fun g hg => ?_
    simp [Value.ownBlock] at hg
    subst hg
    exact Below.heap_setCell _ _ _ _ ap1.symm
  have hend : Rw ((w.setCell ⟨S, 3, none⟩ (.slice (some ⟨B, 0, none⟩) n cap)).alloc (.cells #[.int .i64 (a : Int), .int .u64 (b : Int), .int .u64 (c : Int)] 59)) S mo (.slice (some ⟨B, 0, none⟩) n cap) l ∧ Mut [S] w ((w.setCell ⟨S, 3, none⟩ (.slice (some ⟨B, 0, none⟩) n cap)).alloc (.cells #[.int .i64 (a : Int), .int .u64 (b : Int), .int .u64 (c : Int)] 59)) :=
    ⟨hw1.later (box_below _), ((Mut.refl _ w).setCell (by simp) _).trans (Mut.of_below (box_below _))⟩
  rw [hn]
  have s2 : (w.alloc (.cells #[.int .i64 (a : Int), .int .u64 (b : Int), .int .u64 (c : Int)] 59)).cell? ⟨S, 3, none⟩ = some (.slice (some ⟨B, 0, none⟩) (n + 1) cap) := (World.cell?_alloc_lt _ _ _ hSl).trans s1
  have f2 : (w.alloc (.cells #[.int .i64 (a : Int), .int .u64 (b : Int), .int .u64 (c : Int)] 59)).frozen? ⟨S, 3, none⟩ = false := (h.own.later (box_below _)).free 3
  have HE := Lib.hid hend
  clear h hat hn hlt hlen hrow hw1 ap1 hend
  go_enter Try.func77, Try.ntmps77
  go_wp2_with fail
  go_ret
  exact ⟨rfl, HE.out⟩
end Go.Proofs.Ytmjbdjcpjaeemaa
