/-
  A heap of a law's own from world to world.
-/
import Derived.Test.YthpcnnkdpgjiiaaHpPut
namespace Go.Proofs.Ythpcnnkdpgjiiaa
open Go.RowKit Go.Maps Go.Proofs.HeapMath

/-- A heap of a law's own, made behind the world w₀: what lay there lies as it lay. -/
def Ow (w₀ W : World) (S most : Nat) (s : List Tm) (bs : List Nat) : Prop := Hp W bs S most s ∧ Below w₀.heap.size w₀ W ∧ ∀ k ∈ bs, w₀.heap.size ≤ k
theorem Ow.to {w₀ W W' : World} {S most : Nat} {s s' : List Tm} {bs : List Nat} (h : Ow w₀ W S most s bs) (ht : HpTo W bs S most s' W') : ∃ bs', Ow w₀ W' S most s' bs' ∧ Mut bs W W' ∧ Ext W bs bs' := by
  obtain ⟨bs', h1, h2, h3⟩ := ht
  refine ⟨bs', ⟨h1, h.2.1.trans (h2.below h.2.1.size h.2.2), fun k hk => ?_⟩, h2, h3⟩
  rcases h3 k hk with h4 | h4
  · exact h.2.2 k h4
  · have := h.2.1.size; omega
theorem Ow.later {w₀ W W' : World} {S most : Nat} {s : List Tm} {bs : List Nat} (h : Ow w₀ W S most s bs) (hb : Below W.heap.size W W') : Ow w₀ W' S most s bs := ⟨h.1.later hb, h.2.1.trans (hb.mono h.2.1.size), h.2.2⟩
end Go.Proofs.Ythpcnnkdpgjiiaa
