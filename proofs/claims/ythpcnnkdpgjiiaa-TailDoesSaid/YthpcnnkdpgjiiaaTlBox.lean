/-
  The document's rows are none of the boxes that hold its buffer.
-/
import Derived.Test.YthpcnnkdpgjiiaaTlBoth
namespace Go.Proofs.Ythpcnnkdpgjiiaa
open Go.RowKit Go.Maps Go.Proofs.HeapMath Go.Proofs.TailMath

theorem Blk.at_ {W : World} {g : Nat} {C : Array Value} {T : TypeId} (h : Blk W g C T) {j : Nat} {u : Value} (hc : W.cell? ⟨g, j, none⟩ = some u) : C[j]? = some u := by
  have h1 : W.heap[g]? = some (.cells C T (0, 0)) := h
  simpa [World.cell?, h1] using hc
theorem rfC_u64 {b : St} {r : Rf} {j n : Nat} (h : (rfC b r)[j]? = some (.int .u64 (n : Int))) : False := by
  unfold rfC at h
  match j with
  | 0 => simp at h
  | 1 => simp at h
  | 2 => simp at h
  | 3 => simp at h
  | 4 => simp at h
  | 5 => simp at h
  | 6 => simp at h
  | _ + 7 => simp at h
theorem RfIn.box {W : World} {b b0 : St} {r r0 : Rf} {bs : List Nat} {g : Nat} (h : RfIn (· ∉ bs) W b r) (hb : Blk W g (rfC b0 r0) 50) : RfIn (· ∉ g :: bs) W b r := by
  obtain ⟨⟨l, e1, e2, e3⟩, k2, k3, k4, k5, k6, k7⟩ := h
  refine ⟨⟨l, e1, e2, fun h0 g' hg hm => ?_, fun x hx h0 g' hg hm => ?_⟩, k2, k3, k4, k5, k6, fun h0 g' hg hm => ?_⟩
  · rcases List.mem_cons.1 hm with e | e
    · subst e
      obtain ⟨g1, a, _, hc⟩ := e2 h0
      rw [a] at hg
      simp at hg
      subst hg
      exact rfC_u64 (hb.at_ (hc 0 h0).2.2.1)
    · exact e3.1 h0 g' hg e
  · rcases List.mem_cons.1 hm with e | e
    · subst e
      obtain ⟨i, hi, rfl⟩ := List.getElem_of_mem hx
      obtain ⟨_, _, _, hc⟩ := e2 (by omega)
      obtain ⟨g1, a, _, hs⟩ := (hc i hi).2.2.2.2.2.2 h0
      rw [a] at hg
      simp at hg
      subst hg
      exact rfC_u64 (hb.at_ (hs 0 h0 0 (by omega)))
    · exact e3.2 x hx h0 g' hg e
  · rcases List.mem_cons.1 hm with e | e
    · subst e
      obtain ⟨g1, o, a, _, hc⟩ := k2 h0
      rw [a] at hg
      simp at hg
      subst hg
      exact rfC_u64 (hb.at_ (hc 0 h0).1)
    · exact k7 h0 g' hg e
end Go.Proofs.Ythpcnnkdpgjiiaa
