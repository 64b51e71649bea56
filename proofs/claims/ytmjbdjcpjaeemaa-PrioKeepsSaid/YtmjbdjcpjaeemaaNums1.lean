/-
  Numbers of 64 digits in memory, for a seat without bytes (else XNums0: the same names): an argument that is a slice of them, opened.
-/
import Derived.WalkKit
import Derived.Lib.Hide
import Derived.Laws.BytesArg
import Derived.Test.YtmjbdjcpjaeemaaLift0
namespace Go.Proofs.Ytmjbdjcpjaeemaa
open Go.ChangeShapes Go.WideShapes Go.ChangeAt Go.RowKit

theorem cells_u64 : Try.prog.cellsOf 22 = 1 := by kernel_rfl
/-- The slice value holds the numbers cs, below n₀. -/
def Holds64 (n₀ : Nat) (W : World) (A : Option Addr) (cs : List Nat) : Prop :=
  0 < cs.length → ∃ b off, A = some ⟨b, off, none⟩ ∧ b < n₀ ∧ ∀ j, j < cs.length → W.cell? ⟨b, off + j, none⟩ = some (.int .u64 (cs.getD j 0 : Int)) ∧ cs.getD j 0 < 18446744073709551616
section
variable {H : Type} {enc : TypeId × Value → H}

set_option maxRecDepth 100000 in
/-- An argument that is a slice of numbers: what it holds. -/
theorem arg_nums {W : World} {base : Nat} {v : Value} {d : DataW H} {p : List MemPlace} (hval : Value.okWide Try.prog W .any base 24 v) (h : DataW.Trod enc Try.prog W 0 (fun _ => true) true 24 v d p) :
    ∃ (A : Option Addr) (cs : List Nat) (cap : Nat), v = .slice A cs.length cap ∧ cs.length ≤ cap ∧ cap ≤ 9223372036854775807 ∧ Holds64 W.heap.size W A cs := by
  obtain ⟨a0, len, cap, rfl⟩ := okWide_slice Try.underlying24 hval
  obtain ⟨fuel, hf⟩ := h
  rcases open_ints Try.underlying24 Try.underlying22 cells_u64 hf with ⟨hcs, hx⟩ | ⟨a, len', cap', zs, hcs, _, hl, hm, hz, hx, hcell, hwz⟩
  · simp [Value.cells] at hcs
    obtain ⟨rfl, rfl, rfl⟩ := hcs
    exact ⟨none, [], 0, rfl, by simp, by omega, fun h => absurd h (by simp)⟩
  · simp [Value.cells] at hcs
    obtain ⟨rfl, rfl, rfl⟩ := hcs
    simp only [if_true] at hz
    have hlen : ((zs.take len).map fun n => n.toNat).length = len := by simp; omega
    unfold maxLen at hm
    have hlt : ∀ i, i < zs.length → a.block < W.heap.size := fun i hi => by
      have h1 := hcell i hi
      have h2 : (a.add i).block = a.block := by unfold Addr.add; split <;> rfl
      rcases Nat.lt_or_ge a.block W.heap.size with h3 | h3
      · exact h3
      · simp [World.cell?, h2, Array.getElem?_eq_none h3] at h1
    refine ⟨some a, (zs.take len).map fun n => n.toNat, cap, by rw [hlen], by rw [hlen]; exact hl, hm, fun h0 => ?_⟩
    rw [hlen] at h0
    obtain ⟨b, off, spot⟩ := a
    have hspot : spot = none := by simpa [Addr.add] using World.cell?_spot (hcell 0 (by omega))
    subst hspot
    refine ⟨b, off, rfl, hlt 0 (by omega), fun j hj => ?_⟩
    rw [hlen] at hj
    have hjz : j < zs.length := by omega
    have hw := wf_u64 (hwz (zs[j]) (List.getElem_mem hjz))
    have e1 : zs.getD j 0 = zs[j] := by simp [List.getD, hjz]
    have e2 : ((zs.take len).map fun n => n.toNat).getD j 0 = (zs[j]).toNat := by
      simp [List.getD, hj, hjz]
    rw [e2, ← add_plain, hcell j (by omega), e1]
    exact ⟨by rw [Int.toNat_of_nonneg hw.1], by omega⟩
end
end Go.Proofs.Ytmjbdjcpjaeemaa
