/-
  The program's buffer and the document's, side by side in one memory.
-/
import Derived.Test.YthpcnnkdpgjiiaaTlRef7
import Derived.Test.YthpcnnkdpgjiiaaTlRow
namespace Go.Proofs.Ythpcnnkdpgjiiaa
open Go.RowKit Go.Maps Go.Proofs.HeapMath Go.Proofs.TailMath

/-- The document's buffer, apart from the program's, is as it was when the program's has turned. -/
theorem RfIn.mut {W W' : World} {b : St} {r : Rf} {bs bs' : List Nat} (h : RfIn (· ∉ bs) W b r) (hm : Mut bs W W') (hx : Ext W bs bs') : RfIn (· ∉ bs') W' b r := by
  obtain ⟨⟨l, e1, e2, e3⟩, k2, k3, k4, k5, k6, k7⟩ := h
  have far : ∀ g, g < W.heap.size → g ∉ bs → g ∉ bs' := fun g hg hn => hx.not hn hg
  refine ⟨⟨l, e1, fun h0 => ?_, fun h0 g hg => ?_, fun x hxm h0 g hg => ?_⟩, fun h0 => ?_, k3, k4, k5, k6, fun h0 g hg => ?_⟩
  · obtain ⟨g, a, hg, hc⟩ := e2 h0
    have hn := e3.1 h0 g (by rw [a]; rfl)
    refine ⟨g, a, Nat.lt_of_lt_of_le hg hm.size, fun i hi => ?_⟩
    have hcell : ∀ k, W'.cell? ⟨g, k, none⟩ = W.cell? ⟨g, k, none⟩ := fun k => World.cell?_of_block (hm.block g hg hn)
    obtain ⟨a0, a1, a2, a3, a4, a5, a6⟩ := hc i hi
    rw [hcell, hcell, hcell, hcell, hcell]
    exact ⟨a0, a1, a2, a3, a4, a5, fun h1 => (a6.mut hm fun g hg => e3.2 _ (List.getElem_mem hi) h1 g hg) h1⟩
  · obtain ⟨g', a, hg', _⟩ := e2 h0
    have hn := e3.1 h0 g hg
    rw [a] at hg
    simp at hg
    subst hg
    exact far _ hg' hn
  · obtain ⟨i, hi, rfl⟩ := List.getElem_of_mem hxm
    obtain ⟨_, _, _, hc⟩ := e2 (by omega)
    have hn := e3.2 _ hxm h0 g hg
    obtain ⟨g', a, hg', _⟩ := (hc i hi).2.2.2.2.2.2 h0
    rw [a] at hg
    simp at hg
    subst hg
    exact far _ hg' hn
  · obtain ⟨g, o, a, hg, hc⟩ := k2 h0
    have hn := k7 h0 g (by rw [a]; rfl)
    refine ⟨g, o, a, Nat.lt_of_lt_of_le hg hm.size, fun i hi => ?_⟩
    have hcell : ∀ k, W'.cell? ⟨g, k, none⟩ = W.cell? ⟨g, k, none⟩ := fun k => World.cell?_of_block (hm.block g hg hn)
    rw [hcell, hcell, hcell]
    exact hc i hi
  · obtain ⟨g', o, a, hg', _⟩ := k2 h0
    have hn := k7 h0 g hg
    rw [a] at hg
    simp at hg
    subst hg
    exact far _ hg' hn
/-- Both hold one buffer. -/
structure Bo (w₀ W : World) (S : Nat) (b : St) (bs : List Nat) (r : Rf) : Prop where
  ob : Ob w₀ W S b bs
  rf : RfIn (· ∉ bs) W b r
theorem Bo.later {w₀ W W' : World} {S : Nat} {b : St} {bs : List Nat} {r : Rf} (h : Bo w₀ W S b bs r) (hb : Below W.heap.size W W') : Bo w₀ W' S b bs r := ⟨h.ob.later hb, h.rf.later hb⟩
/-- What is new is none of the program's. -/
theorem Bo.far {w₀ W : World} {S : Nat} {b : St} {bs : List Nat} {r : Rf} (h : Bo w₀ W S b bs r) : ∀ k, W.heap.size ≤ k → k ∉ bs := fun k hk hm => by
  have := h.ob.1.lt k hm
  omega
theorem Bo.lens {w₀ W : World} {S : Nat} {b : St} {bs : List Nat} {r : Rf} (h : Bo w₀ W S b bs r) : r.n ≤ 5000 ∧ r.m ≤ 5000 := by
  have hv : Iv b := h.ob.1.iv
  have h1 := hv.K.len
  have h2 := hv.most
  have h3 := hv.tot
  have h4 := hv.sp
  have h5 := h.rf.n
  have h6 := h.rf.m
  have h7 : b.L.length ≤ TailMath.tot b.L := by
    have hne : ∀ g ∈ b.L, g.spans ≠ [] := fun g hg => (hv.L.ok g hg).2.2.2.2
    generalize b.L = L at hne ⊢
    induction L with
    | nil => simp
    | cons g L ih =>
      have h8 := List.length_pos_iff.2 (hne g (by simp))
      have := ih fun g hg => hne g (by simp [hg])
      rw [tot_cons]
      simp only [List.length_cons]
      omega
  omega
end Go.Proofs.Ythpcnnkdpgjiiaa
