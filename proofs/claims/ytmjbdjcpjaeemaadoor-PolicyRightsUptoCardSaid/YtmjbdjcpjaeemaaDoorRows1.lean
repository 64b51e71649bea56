/-
  Rows of bytes that came in, for a layer that reaches no rows of its own.
-/
import Derived.Deep.Matrix
import Derived.Test.YtmjbdjcpjaeemaaDoorBytes0
namespace Go.Proofs.YtmjbdjcpjaeemaaDoor
open Go.ChangeShapes Go.WideShapes Go.ChangeAt Go.RowKit

/-- A slice of rows of bytes, of which each holds these. -/
def HoldsRows (n₀ : Nat) (W : World) (A : Option Addr) (css : List (List UInt8)) : Prop :=
  0 < css.length → ∃ b off, A = some ⟨b, off, none⟩ ∧ b < n₀ ∧ ∀ j, j < css.length → ∃ Aj cj, W.cell? ⟨b, off + j, none⟩ = some (.slice Aj (css.getD j []).length cj) ∧ Holds8 n₀ W Aj (css.getD j []) ∧ (css.getD j []).length ≤ cj ∧ cj ≤ 9223372036854775807 ∧ (Aj = none → cj = 0)
theorem HoldsRows.below {n₀ : Nat} {W W' : World} {A : Option Addr} {css : List (List UInt8)} (h : HoldsRows n₀ W A css) (hb : Below n₀ W W') : HoldsRows n₀ W' A css := fun h0 => by
  obtain ⟨b, off, e, hlt, hj⟩ := h h0
  refine ⟨b, off, e, hlt, fun j hj' => ?_⟩
  obtain ⟨Aj, cj, h1, h2, h3⟩ := hj j hj'
  exact ⟨Aj, cj, (hb.cell (p := ⟨b, off + j, none⟩) hlt).trans h1, h2.below hb, h3⟩
theorem HoldsRows.mono {n₀ n₁ : Nat} {W : World} {A : Option Addr} {css : List (List UInt8)} (h : HoldsRows n₀ W A css) (hn : n₀ ≤ n₁) : HoldsRows n₁ W A css := fun h0 => by
  obtain ⟨b, off, e, hlt, hj⟩ := h h0
  refine ⟨b, off, e, by omega, fun j hj' => ?_⟩
  obtain ⟨Aj, cj, h1, h2, h3⟩ := hj j hj'
  exact ⟨Aj, cj, h1, h2.mono hn, h3⟩
theorem HoldsRows.later {W W' : World} {A : Option Addr} {css : List (List UInt8)} (h : HoldsRows W.heap.size W A css) (hb : Below W.heap.size W W') : HoldsRows W'.heap.size W' A css := (h.below hb).mono hb.size
/-- The first rows of them. -/
theorem HoldsRows.take {n₀ : Nat} {W : World} {A : Option Addr} {css : List (List UInt8)} (h : HoldsRows n₀ W A css) (k : Nat) : HoldsRows n₀ W A (css.take k) := fun h0 => by
  have hl : (css.take k).length ≤ css.length := by simp; omega
  obtain ⟨b, off, e, hlt, hj⟩ := h (by omega)
  refine ⟨b, off, e, hlt, fun j hj' => ?_⟩
  have e2 : (css.take k).getD j [] = css.getD j [] := by
    have h1 : j < k := by simp at hj'; omega
    simp [List.getD_eq_getElem?_getD, h1]
  rw [e2]
  exact hj j (by omega)
section
variable {H : Type} {enc : TypeId × Value → H}
theorem cells_row : Tryd.prog.cellsOf 22 = 1 := by kernel_rfl
set_option maxRecDepth 100000 in
/-- An argument that is a slice of rows of bytes: what it holds. -/
theorem arg_rows {W : World} {base : Nat} {v : Value} {d : DataW H} {p : List MemPlace} (hval : Value.okWide Tryd.prog W .any base 23 v) (h : DataW.Trod enc Tryd.prog W 0 (fun _ => true) true 23 v d p) :
    ∃ (A : Option Addr) (css : List (List UInt8)) (cap : Nat), v = .slice A css.length cap ∧ css.length ≤ cap ∧ cap ≤ 9223372036854775807 ∧ (A = none → cap = 0) ∧ HoldsRows W.heap.size W A css := by
  obtain ⟨a0, len, cap, rfl⟩ := okWide_slice Tryd.underlying23 hval
  obtain ⟨fuel, hf⟩ := h
  rcases Deep.open_int_rows Tryd.underlying23 Tryd.underlying22 Tryd.underlying5 cells_row cells_u8 hf with ⟨hcs, hx⟩ | ⟨a, len', cap', A, L, C, Z, hcs, _, hl, hm, hx, hall⟩
  · simp [Value.cells] at hcs
    obtain ⟨rfl, rfl, rfl⟩ := hcs
    exact ⟨none, [], 0, rfl, by simp, by omega, fun _ => rfl, fun h => absurd h (by simp)⟩
  · simp [Value.cells] at hcs
    obtain ⟨rfl, rfl, rfl⟩ := hcs
    unfold maxLen at hm
    have inW : ∀ {x : Addr} {i : Nat} {u : Value}, W.cell? (x.add i) = some u → x.block < W.heap.size := fun {x i u} h1 => by
      have h2 : (x.add i).block = x.block := by unfold Addr.add; split <;> rfl
      rcases Nat.lt_or_ge x.block W.heap.size with h3 | h3
      · exact h3
      · simp [World.cell?, h2, Array.getElem?_eq_none h3] at h1
    let css : List (List UInt8) := (List.range len).map fun r => ((Z r).take (L r)).map fun n => UInt8.ofNat n.toNat
    have hcl : css.length = len := by simp [css]
    refine ⟨some a, css, cap, by rw [hcl], by rw [hcl]; exact hl, hm, fun h => by (cases h), fun h0 => ?_⟩
    rw [hcl] at h0
    obtain ⟨b, off, spot⟩ := a
    have hspot : spot = none := by simpa [Addr.add] using World.cell?_spot (hall 0 (by omega)).1
    subst hspot
    refine ⟨b, off, rfl, inW (hall 0 (by omega)).1, fun j hj => ?_⟩
    rw [hcl] at hj
    obtain ⟨g1, g2, g3, g4, g5, g6, g7⟩ := hall j (by omega)
    have ej : css.getD j [] = ((Z j).take (L j)).map fun n => UInt8.ofNat n.toNat := by simp [css, hj]
    have elen : (css.getD j []).length = L j := by rw [ej]; simp; omega
    unfold maxLen at g3
    refine ⟨A j, C j, by rw [elen, ← add_plain]; exact g1, fun h0' => ?_, by rw [elen]; exact g2, g3, g6⟩
    rw [elen] at h0'
    cases hA : A j with
    | none => have := g6 hA; omega
    | some a' =>
      obtain ⟨_, hc⟩ := g7 a' hA
      obtain ⟨b', off', spot'⟩ := a'
      have hspot' : spot' = none := by simpa [Addr.add] using World.cell?_spot (hc 0 (by omega))
      subst hspot'
      refine ⟨b', off', rfl, inW (hc 0 (by omega)), fun i hi => ?_⟩
      rw [elen] at hi
      rw [← add_plain, hc i (by omega)]
      have hiz : i < (Z j).length := by omega
      have hw := wf_u8 (g5 ((Z j)[i]) (List.getElem_mem hiz))
      have e1 : (Z j).getD i 0 = (Z j)[i] := by simp [List.getD, hiz]
      have e2 : (css.getD j []).getD i 0 = UInt8.ofNat ((Z j)[i]).toNat := by
        rw [ej]; simp [List.getD, hi, hiz]
      rw [e1, e2, b8]
      have e3 : ((UInt8.ofNat ((Z j)[i]).toNat).toNat : Int) = (Z j)[i] := by simp; omega
      rw [e3]
end

end Go.Proofs.YtmjbdjcpjaeemaaDoor
