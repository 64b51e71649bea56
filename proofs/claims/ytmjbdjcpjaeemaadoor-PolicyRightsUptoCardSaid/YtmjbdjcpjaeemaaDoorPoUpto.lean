/-
  What the second form's bound says of rows of rules: so many rows and so many rules in all.
-/
import Derived.Test.YtmjbdjcpjaeemaaDoorPoPoke
import Derived.Deep.DeepHandedRow
namespace Go.Proofs.YtmjbdjcpjaeemaaDoor
open Go.ChangeShapes Go.WideShapes Go.Deep Go.ChangeAt Go.RowKit

section
variable {H : Type} {enc : TypeId × Value → H}
theorem bulk_one (d : DataW H) : 1 ≤ Rows.uptoBulk d := by
  cases d with
  | lit l => cases l <;> simp [Rows.uptoBulk]
  | nil => simp [Rows.uptoBulk]
  | ptr d => simp [Rows.uptoBulk]
  | slice elems spare => simp [Rows.uptoBulk]
  | agg parts => simp [Rows.uptoBulk]
  | iface t d => simp [Rows.uptoBulk]
  | map entries => simp [Rows.uptoBulk]
  | held h => simp [Rows.uptoBulk]
theorem bulk_length (l : List (DataW H)) : l.length ≤ Rows.uptoBulkAll l := by
  induction l with
  | nil => simp [Rows.uptoBulkAll]
  | cons x r ih => have := bulk_one x; simp only [Rows.uptoBulkAll, List.length_cons]; omega
theorem bulk_row {W : World} {base : Nat} {held : Bool} {fuel n cap : Nat} {A : Option Addr} {x : DataW H × List MemPlace} (h : DataW.trod enc Tryd.prog W base (fun _ => true) held fuel 30 [.slice A n cap] = some x) : n + 1 ≤ Rows.uptoBulk x.1 := by
  rcases open_slice Tryd.underlying30 h with ⟨hcs, hx⟩ | ⟨a, len, cap', m, n', D, Pl, hcs, hb, hl, hm, hmm, hx, hi⟩
  · simp at hcs
    obtain ⟨rfl, rfl, rfl⟩ := hcs
    rw [hx]
    simp [Rows.uptoBulk]
  · simp at hcs
    obtain ⟨rfl, rfl, rfl⟩ := hcs
    rw [hx]
    simp only [Rows.uptoBulk]
    have := bulk_length ((List.range n).map D)
    rw [List.length_map, List.length_range] at this
    omega
theorem bulk_sum : ∀ (ls : List (List Ru)) (D : Nat → DataW H), (∀ i, i < ls.length → (ls.getD i []).length + 1 ≤ Rows.uptoBulk (D i)) → sumM ls + ls.length ≤ Rows.uptoBulkAll ((List.range ls.length).map D) := by
  intro ls
  induction ls with
  | nil => intro D _; simp [sumM]
  | cons row ls ih =>
    intro D h
    have h0 := h 0 (by simp)
    have h1 := ih (fun i => D (i + 1)) (fun i hi => by have := h (i + 1) (by simpa using hi); simpa [List.getD] using this)
    rw [List.length_cons, List.range_succ_eq_map, List.map_cons, List.map_map]
    simp only [Rows.uptoBulkAll]
    have e : (List.range ls.length).map (D ∘ Nat.succ) = (List.range ls.length).map (fun i => D (i + 1)) := rfl
    rw [e]
    have e2 : sumM (row :: ls) = row.length + sumM ls := by simp [sumM]
    have e3 : ((row :: ls).getD 0 []).length = row.length := rfl
    rw [e3] at h0
    omega
theorem bulk_rows {W : World} {ls : List (List Ru)} {A : Option Addr} {cap : Nat} {d : DataW H} {p : List MemPlace} (hR : HoldsRR W.heap.size W A ls) (h : DataW.Trod enc Tryd.prog W 0 (fun _ => true) true 25 (.slice A ls.length cap) d p) : sumM ls + ls.length ≤ Rows.uptoBulk d := by
  obtain ⟨fuel, hf⟩ := h
  rcases open_slice Tryd.underlying25 hf with ⟨hcs, _⟩ | ⟨a, len, cap', m, n', D, Pl, hcs, hb, hl, hm, hmm, hx, hi⟩
  · simp [Value.cells] at hcs
    obtain ⟨_, rfl, _⟩ := hcs
    simp [sumM]
  · simp [Value.cells] at hcs
    obtain ⟨rfl, rfl, rfl⟩ := hcs
    simp only [if_true] at hmm
    subst hmm
    have hC : Tryd.prog.cellsOf 30 = 1 := by kernel_rfl
    have hd : d = .slice ((List.range ls.length).map D) ((List.range (m - ls.length)).map fun j => D (ls.length + j)) := by injection hx
    rw [hd]
    simp only [Rows.uptoBulk]
    have := bulk_sum ls D fun i him => by
      obtain ⟨cs', hc, ht⟩ := hi i (by omega)
      rw [hC, Nat.mul_one] at hc
      obtain ⟨_, hcl, hat⟩ := World.cells?_some hc
      obtain ⟨c0, rfl⟩ : ∃ c0, cs' = [c0] := by
        match cs', hcl with
        | [c0], _ => exact ⟨c0, rfl⟩
      obtain ⟨b, off, e, _, hcell⟩ := hR (by omega)
      injection e with e
      subst e
      obtain ⟨B, c, h1, _⟩ := hcell i him
      have h2 := hat 0 (by omega)
      rw [add_off, add_off, Nat.add_zero, h1] at h2
      have e2 : c0 = .slice B (ls.getD i []).length c := by simpa using h2.symm
      subst e2
      exact bulk_row ht
    omega
end
end Go.Proofs.YtmjbdjcpjaeemaaDoor
