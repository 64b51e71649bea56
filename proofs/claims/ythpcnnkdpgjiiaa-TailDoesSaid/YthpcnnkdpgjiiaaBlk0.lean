/-
  Blocks of cells, for any layer: what a block holds, later, stored into. (Do not import it beside XItemSpan: the same names.)
-/
import Derived.WalkKit
import Derived.Laws.Rows
import Derived.Laws.CopyOwn
import Derived.Test.YthpcnnkdpgjiiaaLift0
namespace Go.Proofs.Ythpcnnkdpgjiiaa
open Go.RowKit

def Blk (W : World) (g : Nat) (C : Array Value) (T : TypeId) : Prop := W.heap[g]? = some (.cells C T)
theorem Blk.same {W W' : World} {g : Nat} {C : Array Value} {T : TypeId} (h : Blk W g C T) (hb : W'.heap[g]? = W.heap[g]?) : Blk W' g C T := hb.trans h
theorem Blk.lt {W : World} {g : Nat} {C : Array Value} {T : TypeId} (h : Blk W g C T) : g < W.heap.size := (Array.getElem?_eq_some_iff.1 h).1
theorem Blk.later {W W' : World} {g : Nat} {C : Array Value} {T : TypeId} (h : Blk W g C T) (hb : Below W.heap.size W W') : Blk W' g C T := h.same (hb.block _ h.lt)
theorem Blk.cell {W : World} {g : Nat} {C : Array Value} {T : TypeId} (h : Blk W g C T) (j : Nat) {v : Value} (hv : C[j]? = some v) : W.cell? ⟨g, j, none⟩ = some v := by
  unfold Blk at h
  simp [World.cell?, h, hv]
theorem Blk.free {W : World} {g : Nat} {C : Array Value} {T : TypeId} (h : Blk W g C T) (j : Nat) : W.frozen? ⟨g, j, none⟩ = false := by
  unfold Blk at h
  simp [World.frozen?, h]
theorem blk_new (W : World) (C : Array Value) (T : TypeId) : Blk (W.alloc (.cells C T)) W.heap.size C T := by
  show (W.heap.push _)[W.heap.size]? = _
  simp
theorem Blk.set {W : World} {g : Nat} {C : Array Value} {T : TypeId} (h : Blk W g C T) (j : Nat) (u : Value) : Blk (W.setCell ⟨g, j, none⟩ u) g (C.setIfInBounds j u) T := by
  have hlt := h.lt
  unfold Blk at *
  have h' : W.heap[g] = .cells C T := by simpa [Array.getElem?_eq_getElem hlt] using h
  show (W.heap.modify g _)[g]? = _
  rw [Array.getElem?_eq_getElem (by simpa using hlt), Array.getElem_modify_self, h']
  simp
theorem box_below {W : World} (o : Obj) : Below W.heap.size W (W.alloc o) := (Below.refl _ W).alloc (Nat.le_refl _) o
theorem ext_list (t : ByteArray) (i j : Nat) : (t.extract i j).data.toList = (t.data.toList.take j).drop i := by
  simp [List.drop_take, ByteArray.data_extract]
end Go.Proofs.Ythpcnnkdpgjiiaa
