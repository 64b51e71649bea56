/-
  A heap of a law's own and the document's, side by side: whatever is done, both tell the same and have the same timers then.
-/
import Derived.Test.YtlbopajnnbnolaaHpRefDue
namespace Go.Proofs.Ytlbopajnnbnolaa
open Go.RowKit Go.Maps Go.Proofs.HeapMath

theorem own_pushE {w₀ W : World} {S most : Nat} {s : List Tm} {bs : List Nat} (t : Tm) (h : Ow w₀ W S most s bs) (ht : In64 t) :
    Calls Try.prog 10 #[.pointer (some ⟨S, 0, none⟩), .agg #[.int .i64 t.1, .int .i64 t.2]] W fun e w' => e = .returned (.int .u16 (pushE most t s : Int)) ∧ ∃ bs', Hid (Ow w₀ w' S most (pushS most t s) bs' ∧ Mut bs W w' ∧ Ext W bs bs') := by
  unfold pushE pushS
  cases e : isin t.2 s with
  | true =>
    simp only [if_true]
    exact (hpush_arg t W h.1 ht e).mono fun e w' ⟨x1, x2⟩ => ⟨x1, bs, Lib.hid ⟨h.later x2, Mut.of_below x2, Ext.refl _ _⟩⟩
  | false =>
    simp only [Bool.false_eq_true, if_false]
    have hle := h.1.so.2.2.1
    by_cases hf : most ≤ s.length
    · simp only [hf, if_true]
      exact (hpush_full t W h.1 ht e (by omega)).mono fun e w' ⟨x1, x2⟩ => ⟨x1, bs, Lib.hid ⟨h.later x2, Mut.of_below x2, Ext.refl _ _⟩⟩
    · simp only [hf, if_false]
      exact own_push t h ht e (by omega)
theorem own_popH {w₀ W : World} {S most : Nat} {s : List Tm} {bs : List Nat} (h : Ow w₀ W S most s bs) :
    Calls Try.prog 13 #[.pointer (some ⟨S, 0, none⟩)] W fun e w' => e = .returned (.tuple #[.agg #[.int .i64 (hd s).1, .int .i64 (hd s).2], .bool (!s.isEmpty)]) ∧ ∃ bs', Hid (Ow w₀ w' S most s.tail bs' ∧ Mut bs W w' ∧ Ext W bs bs') := by
  cases s with
  | nil => exact (hpop_no W h.1).mono fun e w' ⟨x1, x2⟩ => ⟨x1, bs, Lib.hid ⟨h.later x2, Mut.of_below x2, Ext.refl _ _⟩⟩
  | cons t r => exact own_pop h
theorem own_firstH {w₀ W : World} {S most : Nat} {s : List Tm} {bs : List Nat} (h : Ow w₀ W S most s bs) :
    Calls Try.prog 17 #[.pointer (some ⟨S, 0, none⟩)] W fun e w' => e = .returned (.tuple #[.agg #[.int .i64 (hd s).1, .int .i64 (hd s).2], .bool (!s.isEmpty)]) ∧ Below W.heap.size W w' := by
  cases s with
  | nil => exact hfirst_no W h.1
  | cons t r => exact hfirst_any W h.1

/-- Both side by side. -/
structure Bo (w₀ W : World) (S most : Nat) (s : List Tm) (A : Option Addr) (n cap : Nat) (bs : List Nat) : Prop where
  ow : Ow w₀ W S most s bs
  dc : Dc W A n cap s bs
theorem Bo.later {w₀ W W' : World} {S most : Nat} {s : List Tm} {A : Option Addr} {n cap : Nat} {bs : List Nat} (h : Bo w₀ W S most s A n cap bs) (hb : Below W.heap.size W W') : Bo w₀ W' S most s A n cap bs := ⟨h.ow.later hb, h.dc.later hb⟩
/-- What a deed leaves. -/
structure Left (w₀ W W' : World) (S most : Nat) (s' : List Tm) (A' : Option Addr) (n' cap' : Nat) (bs bs' : List Nat) : Prop where
  bo : Bo w₀ W' S most s' A' n' cap' bs'
  turn : Mut bs W W'
  ext : Ext W bs bs'
def DoesE (w₀ W : World) (S most : Nat) (bs : List Nat) (e : Ending) (w' : World) : Prop :=
  ∃ s' A' n' cap' bs', e = .returned (.tuple #[.agg #[.slice A' n' cap', .int .i64 (most : Int)], .bool true]) ∧ Hid (Left w₀ W w' S most s' A' n' cap' bs bs')
/-- The last step of a deed: what was told is stored in the result's block g. -/
theorem does_end {w₀ W w5 w6 : World} {S most g : Nat} {s' : List Tm} {A' : Option Addr} {n' cap' : Nat} {bs bs' : List Nat} {a b : Value} (hg : W.heap.size ≤ g) (h0 : w₀.heap.size ≤ W.heap.size) (hbs : ∀ k ∈ bs, k < W.heap.size) (h5 : Below W.heap.size W w5) (hg5 : g < w5.heap.size)
    (hd : Dc w5 A' n' cap' s' (g :: bs)) (hm : Mut bs w5 w6) (hx : Ext w5 bs bs') (ho : Ow w₀ w6 S most s' bs') (hk : Blk w5 g #[a, b] 40) :
    Left w₀ W ((w6.setCell ⟨g, 0, none⟩ (.slice A' n' cap')).setCell ⟨g, 1, none⟩ (.int .i64 (most : Int))) S most s' A' n' cap' bs bs' ∧
    ((w6.setCell ⟨g, 0, none⟩ (.slice A' n' cap')).setCell ⟨g, 1, none⟩ (.int .i64 (most : Int))).cell? ⟨g, 0, none⟩ = some (.slice A' n' cap') ∧ ((w6.setCell ⟨g, 0, none⟩ (.slice A' n' cap')).setCell ⟨g, 1, none⟩ (.int .i64 (most : Int))).cell? ⟨g, 1, none⟩ = some (.int .i64 (most : Int)) := by
  have hgb : g ∉ bs := fun h => by have := hbs g h; omega
  have hgb' : g ∉ bs' := far_ext hx hgb hg5
  have hk6 : Blk w6 g #[a, b] 40 := hk.mut hm hgb
  have hkk := (hk6.set 0 (.slice A' n' cap')).set 1 (.int .i64 (most : Int))
  have hmS : Mut [g] w6 ((w6.setCell ⟨g, 0, none⟩ (.slice A' n' cap')).setCell ⟨g, 1, none⟩ (.int .i64 (most : Int))) := ((Mut.refl _ _).setCell (by simp) _).setCell (by simp) _
  have hs5 := h5.size
  have hs6 := hm.size
  have hd6 : Dc w6 A' n' cap' s' (g :: bs') := (hd.mut (hm.wider (fun k hk => by simp [hk])) (fun k hk => by
    rcases List.mem_cons.1 hk with rfl | hk
    · exact .inl (by simp)
    · exact (hx k hk).imp (fun h => by simp [h]) id))
  refine ⟨⟨⟨⟨ho.1.mut hmS fun k hk hc => ?_, ho.2.1.trans (hmS.below ho.2.1.size fun k hk => by rw [List.mem_singleton.1 hk]; omega), ho.2.2⟩, ?_⟩, ?_, fun k hk => (hx k hk).imp id fun h => by omega⟩, hkk.cell 0 rfl, hkk.cell 1 rfl⟩
  · rw [List.mem_singleton.1 hc] at hk; exact hgb' hk
  · exact (hd6.mut (hmS.wider (fun k hk => by rw [List.mem_singleton.1 hk]; simp)) (Ext.refl _ _)).mut (Mut.refl _ _) (fun k hk => .inl (by simp [hk]))
  · exact ((Mut.of_below h5).trans hm).onto hmS fun k hk => .inr (by rw [List.mem_singleton.1 hk]; exact hg)
end Go.Proofs.Ytlbopajnnbnolaa
