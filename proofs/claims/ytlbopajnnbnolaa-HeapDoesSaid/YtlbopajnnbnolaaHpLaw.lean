/-
  A heap of a law's own, filled by rising numbers: what Push, Pop, Drop, Len and First tell then.
-/
import Derived.Test.YtlbopajnnbnolaaHpMath2
import Derived.Test.YtlbopajnnbnolaaHpDue
namespace Go.Proofs.Ytlbopajnnbnolaa
open Go.RowKit Go.Maps Go.Proofs.HeapMath

/-- What a law knows of its heap: it is there, has the timers s, and lies in blocks of the law's own. -/
def OwE (w₀ W : World) (S most : Nat) (s : List Tm) (bs : List Nat) (w' : World) : Prop := ∃ bs', Ow w₀ w' S most s bs' ∧ Mut bs W w' ∧ Ext W bs bs'
theorem own_new {w₀ W : World} (most : Nat) (hb : Below w₀.heap.size w₀ W) (h1 : 1 ≤ most) (h2 : most ≤ 5000) :
    Calls Try.prog 8 #[.int .i64 (most : Int)] W fun e w' => ∃ S bs, e = .returned (.pointer (some ⟨S, 0, none⟩)) ∧ Hid (Ow w₀ w' S most [] bs ∧ Below W.heap.size W w') :=
  (hnew_any most W h1 h2).mono fun _ _ ⟨S, bs, x1, x2, x3, x4⟩ => ⟨S, bs, x1, Lib.hid ⟨⟨x2, hb.trans (x3.mono hb.size), fun k hk => Nat.le_trans hb.size (x4 k hk)⟩, x3⟩⟩
theorem own_push {w₀ W : World} {S most : Nat} {s : List Tm} {bs : List Nat} (t : Tm) (h : Ow w₀ W S most s bs) (ht : In64 t) (hi : isin t.2 s = false) (hf : s.length < most) :
    Calls Try.prog 10 #[.pointer (some ⟨S, 0, none⟩), .agg #[.int .i64 t.1, .int .i64 t.2]] W fun e w' => e = .returned (.int .u16 0) ∧ ∃ bs', Hid (Ow w₀ w' S most (ins t s) bs' ∧ Mut bs W w' ∧ Ext W bs bs') :=
  (hpush_ok t W h.1 ht hi hf).mono fun e w' ⟨x1, x2⟩ => by
    obtain ⟨bs', y, z⟩ := h.to x2
    exact ⟨x1, bs', Lib.hid ⟨y, z⟩⟩
theorem own_pop {w₀ W : World} {S most : Nat} {t : Tm} {r : List Tm} {bs : List Nat} (h : Ow w₀ W S most (t :: r) bs) :
    Calls Try.prog 13 #[.pointer (some ⟨S, 0, none⟩)] W fun e w' => e = .returned (.tuple #[.agg #[.int .i64 t.1, .int .i64 t.2], .bool true]) ∧ ∃ bs', Hid (Ow w₀ w' S most r bs' ∧ Mut bs W w' ∧ Ext W bs bs') :=
  (hpop_any W h.1).mono fun e w' ⟨x1, x2⟩ => by
    obtain ⟨bs', y, z⟩ := h.to x2
    exact ⟨x1, bs', Lib.hid ⟨y, z⟩⟩
theorem own_drop {w₀ W : World} {S most : Nat} {s : List Tm} {bs : List Nat} (no : Int) (h : Ow w₀ W S most s bs) (g1 : -9223372036854775808 ≤ no) (g2 : no ≤ 9223372036854775807) :
    Calls Try.prog 11 #[.pointer (some ⟨S, 0, none⟩), .int .i64 no] W fun e w' => e = .returned (.bool (isin no s)) ∧ ∃ bs', Hid (Ow w₀ w' S most (del no s) bs' ∧ Mut bs W w' ∧ Ext W bs bs') := by
  cases e : isin no s with
  | true =>
    exact (hdrop_yes no W h.1 g1 g2 e).mono fun e w' ⟨x1, x2⟩ => by
      obtain ⟨bs', y, z⟩ := h.to x2
      exact ⟨x1, bs', Lib.hid ⟨y, z⟩⟩
  | false => exact (hdrop_no no W h.1 g1 g2 e).mono fun e' w' ⟨x1, x2⟩ => ⟨x1, bs, Lib.hid (x2 ▸ ⟨by rw [del_none e]; exact h, Mut.refl _ _, Ext.refl _ _⟩)⟩
theorem own_len {w₀ W : World} {S most : Nat} {s : List Tm} {bs : List Nat} (h : Ow w₀ W S most s bs) :
    Calls Try.prog 12 #[.pointer (some ⟨S, 0, none⟩)] W fun e w' => e = .returned (.int .i64 (s.length : Int)) ∧ W = w' := hlen_any W h.1
theorem own_first {w₀ W : World} {S most : Nat} {s : List Tm} {bs : List Nat} (h : Ow w₀ W S most s bs) :
    Calls Try.prog 17 #[.pointer (some ⟨S, 0, none⟩)] W fun e w' => ∃ a b : Int, e = .returned (.tuple #[.agg #[.int .i64 a, .int .i64 b], .bool (!s.isEmpty)]) ∧ Hid (Below W.heap.size W w' ∧ ∀ t r, s = t :: r → t = (a, b)) := by
  cases s with
  | nil => exact (hfirst_no W h.1).mono fun e w' ⟨x1, x2⟩ => ⟨0, 0, x1, Lib.hid ⟨x2, fun t r e => by cases e⟩⟩
  | cons t r => exact (hfirst_any W h.1).mono fun e w' ⟨x1, x2⟩ => ⟨t.1, t.2, x1, Lib.hid ⟨x2, fun t' r' e => by injection e with e1 _; rw [← e1]⟩⟩
theorem own_due {w₀ W : World} {S most : Nat} {s : List Tm} {bs : List Nat} (now : Int) (h : Ow w₀ W S most s bs) :
    Calls Try.prog 21 #[.pointer (some ⟨S, 0, none⟩), .int .i64 now] W fun e w' => ∃ A bs', e = .returned (.slice A (dueOf now s).length (dueOf now s).length) ∧ Hid (Tms w'.heap.size w' A (dueOf now s) ∧ Ow w₀ w' S most (lateOf now s) bs' ∧ Mut bs W w' ∧ Ext W bs bs') :=
  (hdue_any now W h.1).mono fun e w' ⟨A, bs', x1, x2, x3, x4, x5⟩ => by
    obtain ⟨h1, h2, h3⟩ := h
    refine ⟨A, bs', x1, Lib.hid ⟨x2, ⟨x3, h2.trans (x4.below h2.size h3), fun k hk => ?_⟩, x4, x5⟩⟩
    rcases x5 k hk with e | e
    · exact h3 k e
    · have := h2.size; omega

/-- Blocks of the law's own that are none of the heap's: what they hold stays. -/
theorem far_ext {W : World} {bs bs' : List Nat} {T : Nat} (hx : Ext W bs bs') (hT : T ∉ bs) (hl : T < W.heap.size) : T ∉ bs' := fun hm => by
  rcases hx T hm with h | h
  · exact hT h
  · omega

/-- The times that the bytes are. -/
def fB (cs : List UInt8) (i : Nat) : Int := ((cs.getD i 0).toNat : Int)
theorem fB_range (cs : List UInt8) (i : Nat) : 0 ≤ fB cs i ∧ fB cs i ≤ 255 := by
  unfold fB
  have := (cs.getD i 0).toNat_lt
  omega
end Go.Proofs.Ytlbopajnnbnolaa
