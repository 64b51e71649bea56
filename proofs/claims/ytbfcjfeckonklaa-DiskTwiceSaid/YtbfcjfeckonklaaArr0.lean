/-
  An array of bytes of the call's own, for any layer.
-/
import Derived.Test.YtbfcjfeckonklaaBytes0
namespace Go.Proofs.Ytbfcjfeckonklaa
open Go.RowKit

/-- An array of m bytes of the call's own. -/
def Arr (W : World) (b m : Nat) (f : Nat → UInt8) : Prop := b < W.heap.size ∧ ∀ j, j < m → W.cell? ⟨b, j, none⟩ = some (b8 (f j)) ∧ W.frozen? ⟨b, j, none⟩ = false
theorem Arr.set {W : World} {b m : Nat} {f g : Nat → UInt8} (h : Arr W b m f) {k : Nat} (hk : k < m) {x : UInt8} (hx : g k = x) (hg : ∀ j, j ≠ k → g j = f j) : Arr (W.setCell ⟨b, k, none⟩ (b8 x)) b m g := by
  obtain ⟨h1, h2⟩ := h
  refine ⟨by rw [World.size_setCell]; exact h1, fun j hj => ⟨?_, by rw [World.frozen?_setCell]; exact (h2 j hj).2⟩⟩
  by_cases e : j = k
  · subst e
    rw [World.cell?_setCell_same _ _ _ (h2 j hj).1, hx]
  · rw [World.cell?_setCell_other _ _ _ _ (by intro h; injection h with _ h2; exact e h2.symm), hg j e]
    exact (h2 j hj).1

theorem Arr.congr {W : World} {b m : Nat} {f g : Nat → UInt8} (h : Arr W b m f) (hg : ∀ j, j < m → f j = g j) : Arr W b m g := ⟨h.1, fun j hj => hg j hj ▸ h.2 j hj⟩
theorem Arr.same {W W' : World} {b m : Nat} {f : Nat → UInt8} (h : Arr W b m f) (hb : W'.heap[b]? = W.heap[b]?) : Arr W' b m f := by
  obtain ⟨h1, h2⟩ := h
  have hlt : b < W'.heap.size := by
    rcases Nat.lt_or_ge b W'.heap.size with h | h
    · exact h
    · rw [Array.getElem?_eq_none h, Array.getElem?_eq_getElem h1] at hb; cases hb
  exact ⟨hlt, fun j hj => ⟨(World.cell?_of_block hb).trans (h2 j hj).1, (World.frozen?_of_block hb).trans (h2 j hj).2⟩⟩
theorem Arr.alloc {W : World} {b m : Nat} {f : Nat → UInt8} (h : Arr W b m f) (o : Obj) : Arr (W.alloc o) b m f := h.same (Below.heap_alloc _ _ _ h.1)
theorem Arr.far {W : World} {b m : Nat} {f : Nat → UInt8} (h : Arr W b m f) {p : Addr} (hp : p.block ≠ b) (v : Value) : Arr (W.setCell p v) b m f := h.same (Below.heap_setCell _ _ _ _ (Ne.symm hp))
theorem arr_new (W : World) {n m : Nat} {C : Array Value} {T : TypeId} (hn : W.heap.size = n) (hC : ∀ j, j < m → C[j]? = some (.int .u8 0)) (f : Nat → UInt8) (hf : ∀ j, f j = 0) : Arr (W.alloc (.cells C T)) n m f := by
  subst hn
  refine ⟨by simp, fun j hj => ⟨by rw [World.cell?_alloc_mark, hC j hj, hf j]; rfl, by rw [World.frozen?_alloc_mark]; simp⟩⟩
theorem alloc_here (W : World) (o p : Obj) : ((W.alloc o).alloc p).heap[W.heap.size]? = some o := by
  rw [Below.heap_alloc _ _ _ (by simp)]
  show (W.heap.push o)[W.heap.size]? = some o
  simp

/-- Read as bytes. -/
theorem Arr.holds {W : World} {b m n₀ : Nat} {f : Nat → UInt8} (h : Arr W b m f) (hb : b < n₀) {cs : List UInt8} (hl : cs.length ≤ m) (hf : ∀ j, j < cs.length → cs.getD j 0 = f j) : Holds8 n₀ W (some ⟨b, 0, none⟩) cs := fun _ =>
  ⟨b, 0, rfl, hb, fun j hj => by rw [Nat.zero_add, (h.2 j (by omega)).1, hf j hj]⟩

end Go.Proofs.Ytbfcjfeckonklaa
