/-
  Texts in memory, for any layer: an argument that is a slice of them, opened.
-/
import Derived.SliceStrings
import Derived.Test.YtmacehpfhhlnpaaDoorBytes0
namespace Go.Proofs.YtmacehpfhhlnpaaDoor
open Go.ChangeShapes Go.WideShapes Go.ChangeAt Go.RowKit

theorem cells_str : Tryd.prog.cellsOf 9 = 1 := by kernel_rfl
/-- The slice value holds the texts cs, below n₀. -/
def HoldsStr (n₀ : Nat) (W : World) (A : Option Addr) (cs : List ByteArray) : Prop :=
  0 < cs.length → ∃ b off, A = some ⟨b, off, none⟩ ∧ b < n₀ ∧ ∀ j, j < cs.length → W.cell? ⟨b, off + j, none⟩ = some (.string (cs.getD j ByteArray.empty)) ∧ (cs.getD j ByteArray.empty).size ≤ 9223372036854775807
section
variable {H : Type} {enc : TypeId × Value → H}

set_option maxRecDepth 100000 in
/-- An argument that is a slice of texts: what it holds. -/
theorem arg_strs {W : World} {base : Nat} {v : Value} {d : DataW H} {p : List MemPlace} (hval : Value.okWide Tryd.prog W .any base 33 v) (h : DataW.Trod enc Tryd.prog W 0 (fun _ => true) true 33 v d p) :
    ∃ (A : Option Addr) (cs : List ByteArray) (cap : Nat), v = .slice A cs.length cap ∧ cs.length ≤ cap ∧ cap ≤ 9223372036854775807 ∧ HoldsStr W.heap.size W A cs := by
  obtain ⟨a0, len, cap, rfl⟩ := okWide_slice Tryd.underlying33 hval
  obtain ⟨fuel, hf⟩ := h
  rcases open_strings Tryd.underlying33 Tryd.underlying9 cells_str hf with ⟨hcs, hx⟩ | ⟨a, len', cap', zs, hcs, _, hl, hm, hz, hx, hcell, hwz⟩
  · simp [Value.cells] at hcs
    obtain ⟨rfl, rfl, rfl⟩ := hcs
    exact ⟨none, [], 0, rfl, by simp, by omega, fun h => absurd h (by simp)⟩
  · simp [Value.cells] at hcs
    obtain ⟨rfl, rfl, rfl⟩ := hcs
    simp only [if_true] at hz
    have hlen : (zs.take len).length = len := by simp; omega
    unfold maxLen at hm
    have hlt : ∀ i, i < zs.length → a.block < W.heap.size := fun i hi => by
      have h1 := hcell i hi
      have h2 : (a.add i).block = a.block := by unfold Addr.add; split <;> rfl
      rcases Nat.lt_or_ge a.block W.heap.size with h3 | h3
      · exact h3
      · simp [World.cell?, h2, Array.getElem?_eq_none h3] at h1
    refine ⟨some a, zs.take len, cap, by rw [hlen], by rw [hlen]; exact hl, hm, fun h0 => ?_⟩
    rw [hlen] at h0
    obtain ⟨b, off, spot⟩ := a
    have hspot : spot = none := by simpa [Addr.add] using World.cell?_spot (hcell 0 (by omega))
    subst hspot
    refine ⟨b, off, rfl, hlt 0 (by omega), fun j hj => ?_⟩
    rw [hlen] at hj
    have hjz : j < zs.length := by omega
    have e2 : (zs.take len).getD j ByteArray.empty = zs.getD j ByteArray.empty := by
      simp [List.getD_eq_getElem?_getD, hj]
    have e1 : zs.getD j ByteArray.empty = zs[j] := by simp [List.getD, hjz]
    have hw := hwz _ (List.getElem_mem hjz)
    unfold maxLen at hw
    rw [e2, ← add_plain, hcell j (by omega), e1]
    exact ⟨rfl, hw⟩
end
end Go.Proofs.YtmacehpfhhlnpaaDoor
