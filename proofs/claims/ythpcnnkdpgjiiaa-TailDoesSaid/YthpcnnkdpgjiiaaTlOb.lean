/-
  A buffer of a law's own from world to world.
-/
import Derived.Test.YthpcnnkdpgjiiaaTlNew
import Derived.Test.YthpcnnkdpgjiiaaTlDue
namespace Go.Proofs.Ythpcnnkdpgjiiaa
open Go.RowKit Go.Maps Go.Proofs.HeapMath Go.Proofs.TailMath

/-- A buffer made behind the world w₀: what lay there lies as it lay. -/
def Ob (w₀ W : World) (S : Nat) (b : St) (bs : List Nat) : Prop := Tb W bs S b ∧ Below w₀.heap.size w₀ W ∧ ∀ k ∈ bs, w₀.heap.size ≤ k
theorem Ob.to {w₀ W W' : World} {S : Nat} {b b' : St} {bs : List Nat} (h : Ob w₀ W S b bs) (ht : TbTo W bs S b' W') : ∃ bs', Ob w₀ W' S b' bs' := by
  obtain ⟨bs', h1, h2, h3⟩ := ht
  refine ⟨bs', h1, h.2.1.trans (h2.below h.2.1.size h.2.2), fun k hk => ?_⟩
  rcases h3 k hk with h4 | h4
  · exact h.2.2 k h4
  · have := h.2.1.size; omega
/-- Blocks that are none of the buffer's stay. -/
theorem Ob.to' {w₀ W W' : World} {S : Nat} {b b' : St} {bs : List Nat} (h : Ob w₀ W S b bs) (ht : TbTo W bs S b' W') : ∃ bs', Ob w₀ W' S b' bs' ∧ Mut bs W W' ∧ Ext W bs bs' := by
  obtain ⟨bs', h1, h2, h3⟩ := ht
  refine ⟨bs', ⟨h1, h.2.1.trans (h2.below h.2.1.size h.2.2), fun k hk => ?_⟩, h2, h3⟩
  rcases h3 k hk with h4 | h4
  · exact h.2.2 k h4
  · have := h.2.1.size; omega
theorem Ob.later {w₀ W W' : World} {S : Nat} {b : St} {bs : List Nat} (h : Ob w₀ W S b bs) (hb : Below W.heap.size W W') : Ob w₀ W' S b bs := ⟨h.1.later hb, h.2.1.trans (hb.mono h.2.1.size), h.2.2⟩
theorem Ob.new {w₀ W W' : World} {b : St} {e : Ending} (h0 : Below w₀.heap.size w₀ W) (h : NewTo W b e W') : ∃ S bs, e = .returned (.pointer (some ⟨S, 0, none⟩)) ∧ Ob w₀ W' S b bs := by
  obtain ⟨S, bs, h1, h2, h3, h4⟩ := h
  exact ⟨S, bs, h1, h2, h0.trans (h3.mono h0.size), fun k hk => Nat.le_trans h0.size (h4 k hk)⟩
theorem Ob.offer {w₀ W : World} {S : Nat} {b : St} {bs : List Nat} (h : Ob w₀ W S b bs) (now : Int) (s : Sp) (hu : u64 s.hi ∧ u64 s.lo) (hc : b.came ≤ 1000000000) (fo : St × Nat × Nat) (hf : Proofs.Ythpcnnkdpgjiiaa.offer b now s = fo) :
    Calls Try.prog 12 #[.pointer (some ⟨S, 0, none⟩), .int .i64 now, spV s] W fun e w' => e = .returned (.tuple #[.int .u8 (fo.2.1 : Int), .int .u16 (fo.2.2 : Int)]) ∧ ∃ bs', Hid (Ob w₀ w' S fo.1 bs') ∧ Hid (Mut bs W w' ∧ Ext W bs bs') := by
  subst hf
  exact (toffer_any now s W h.1 hu.1 hu.2 hc).mono fun e w' ⟨x, y⟩ => by
    obtain ⟨bs', h1, h2⟩ := h.to' y
    exact ⟨x, bs', Lib.hid h1, Lib.hid h2⟩
theorem Ob.due {w₀ W : World} {S : Nat} {b : St} {bs : List Nat} (h : Ob w₀ W S b bs) (t : Nat) (h1 : b.time ≤ t) (h2 : t ≤ 1099511627776) (hc : b.came ≤ 1000000000) (L : List Gr) (n : Nat) (b' : St) (hL : dueL (t : Int) b.L = L) (hn : L.length = n) (hb : dued (at_ b t) (t : Int) = b') :
    Calls Try.prog 13 #[.pointer (some ⟨S, 0, none⟩), .int .i64 (t : Int)] W fun e w' => ∃ V l, e = .returned (.tuple #[.slice V n n, .int .u16 0]) ∧ Hid (l.map (·.1) = L) ∧ Hid (Told w' V l) ∧ ∃ bs', Hid (Ob w₀ w' S b' bs') ∧ Hid (Mut bs W w' ∧ Ext W bs bs') := by
  subst hL hn hb
  exact (tdue_ok t W h.1 h1 h2 hc).mono fun e w' ⟨V, l, x, y, z, u⟩ => by
    rw [show (t : Int).toNat = t by simp] at u
    obtain ⟨bs', h3, h4⟩ := h.to' u
    exact ⟨V, l, x, Lib.hid y, Lib.hid z, bs', Lib.hid h3, Lib.hid h4⟩
theorem Ob.decide {w₀ W : World} {S : Nat} {b : St} {bs : List Nat} (h : Ob w₀ W S b bs) (hi lo : Nat) (keep : Bool) (h1 : u64 hi) (h2 : u64 lo) (b' : St) (hb : decided b hi lo (ayOf keep) = b') :
    Calls Try.prog 14 #[.pointer (some ⟨S, 0, none⟩), .int .u64 (hi : Int), .int .u64 (lo : Int), .bool keep] W fun e w' => e = .returned (.tuple #[]) ∧ ∃ bs', Hid (Ob w₀ w' S b' bs') ∧ Hid (Mut bs W w' ∧ Ext W bs bs') := by
  subst hb
  exact (tdecide_any hi lo keep W h.1 h1 h2).mono fun e w' ⟨x, y⟩ => by
    obtain ⟨bs', h1, h2⟩ := h.to' y
    exact ⟨x, bs', Lib.hid h1, Lib.hid h2⟩
/-- A span of which only the trace's number is told. -/
def sp1 (hi lo : Nat) : Sp := ⟨hi, lo, 0, 0, ⟨#[]⟩, 0, 0, false, 0⟩
end Go.Proofs.Ythpcnnkdpgjiiaa
