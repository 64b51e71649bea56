/-
  Rows of bytes: a slice of them that is the call's own, and one that lies somewhere.
-/
import Derived.Test.YtklgggolkclebaaNumBytes
namespace Go.Proofs.Ytklgggolkclebaa
open Go.RowKit Go.Proofs.NumMath

/-- Values that are own rows of bytes. -/
def RowsOf (W : World) (base : Nat) (vs : List Value) (css : List (List UInt8)) : Prop :=
  vs.length = css.length ∧ ∀ j, j < css.length → ∃ v, vs[j]? = some v ∧ W.ownsRow base 5 1 v (css.getD j []).length ((css.getD j []).map b8)
theorem rows_nil (W : World) (base : Nat) : RowsOf W base [] [] := ⟨rfl, fun j hj => absurd hj (by simp)⟩
theorem rows_snoc {W : World} {base : Nat} {vs : List Value} {css : List (List UInt8)} (h : RowsOf W base vs css) {v : Value} {c : List UInt8} (hv : W.ownsRow base 5 1 v c.length (c.map b8)) : RowsOf W base (vs ++ [v]) (css ++ [c]) := by
  refine ⟨by simp [h.1], fun j hj => ?_⟩
  by_cases hlt : j < css.length
  · obtain ⟨u, h1, h2⟩ := h.2 j hlt
    refine ⟨u, by rw [List.getElem?_append_left (by rw [h.1]; exact hlt)]; exact h1, ?_⟩
    have e : (css ++ [c]).getD j [] = css.getD j [] := by simp [List.getElem?_append_left hlt]
    rw [e]; exact h2
  · simp at hj
    obtain rfl : j = css.length := by omega
    refine ⟨v, by rw [← h.1]; simp, ?_⟩
    have e : (css ++ [c]).getD css.length [] = c := by simp
    rw [e]; exact hv
theorem rows_later {W W' : World} {base : Nat} {vs : List Value} {css : List (List UInt8)} (h : RowsOf W base vs css) (hb : Below W.heap.size W W') : RowsOf W' base vs css :=
  ⟨h.1, fun j hj => by obtain ⟨v, h1, h2⟩ := h.2 j hj; exact ⟨v, h1, own_later h2 hb⟩⟩
/-- The row of rows is no row of bytes. -/
theorem apart_rows {W : World} {base base' : Nat} {v u : Value} {n m : Nat} {xs ys : List Value} (h : W.ownsRow base 22 1 v n xs) (h' : W.ownsRow base' 5 1 u m ys) : u.ownBlock = none ∨ u.ownBlock ≠ v.ownBlock := by
  rcases h'.2 with ⟨rfl, _⟩ | ⟨g', cap', cur', rfl, _, hg', _⟩
  · exact .inl rfl
  · right
    rcases h.2 with ⟨rfl, _⟩ | ⟨g, cap, cur, rfl, _, hg, _⟩
    · simp [Value.ownBlock]
    · intro e
      have e' : g' = g := by simpa [Value.ownBlock] using e
      subst e'
      rw [hg] at hg'
      simp at hg'
theorem rows_grown {W W' : World} {base : Nat} {v : Value} {n : Nat} {xs vs : List Value} {css : List (List UInt8)} (h : W.ownsRow base 22 1 v n xs) (hg : W.grownBy W' v.ownBlock) (hr : RowsOf W base vs css) : RowsOf W' base vs css :=
  ⟨hr.1, fun j hj => by obtain ⟨u, h1, h2⟩ := hr.2 j hj; exact ⟨u, h1, h2.kept hg (apart_rows h h2)⟩⟩
theorem rows_step {w1 w2 : World} {base : Nat} {v u : Value} {vs : List Value} {done : List (List UInt8)} {b : List UInt8} {o : Obj} (hO : w1.ownsRow base 22 1 v vs.length vs) (hW : RowsOf w1 base vs done) (hu : w1.ownsRow base 5 1 u b.length (b.map b8)) (hg : (w1.alloc o).grownBy w2 v.ownBlock) : RowsOf w2 base (vs ++ [u]) (done ++ [b]) :=
  rows_snoc (rows_grown (hO.alloc o) hg (rows_later hW ((Below.refl _ w1).alloc (Nat.le_refl _) o))) ((hu.alloc o).kept hg (apart_rows (hO.alloc o) (hu.alloc o)))
theorem own_row_later {base : Nat} {w w' : World} {e : TypeId} {v : Value} {n : Nat} {xs : List Value} (ho : w.ownsRow base e 1 v n xs) (hb : Below w.heap.size w w') : w'.ownsRow base e 1 v n xs := own_later ho hb
theorem info_row : (Try.prog.info? 22).map (fun i => (i.zero, i.size, i.bytes)) = some (some (.slice none 0 0), 1, 24) := by kernel_rfl

/-- A slice of rows of bytes, of which each holds these. -/
def HoldsRows (n₀ : Nat) (W : World) (A : Option Addr) (css : List (List UInt8)) : Prop :=
  0 < css.length → ∃ b off, A = some ⟨b, off, none⟩ ∧ b < n₀ ∧ ∀ j, j < css.length → ∃ Aj cj, W.cell? ⟨b, off + j, none⟩ = some (.slice Aj (css.getD j []).length cj) ∧ Holds8 n₀ W Aj (css.getD j []) ∧ (css.getD j []).length ≤ cj ∧ cj ≤ 9223372036854775807 ∧ (Aj = none → cj = 0)
theorem HoldsRows.below {n₀ : Nat} {W W' : World} {A : Option Addr} {css : List (List UInt8)} (h : HoldsRows n₀ W A css) (hb : Below n₀ W W') : HoldsRows n₀ W' A css := fun h0 => by
  obtain ⟨b, off, e, hlt, hj⟩ := h h0
  refine ⟨b, off, e, hlt, fun j hj' => ?_⟩
  obtain ⟨Aj, cj, h1, h2, h3⟩ := hj j hj'
  exact ⟨Aj, cj, (hb.cell (p := ⟨b, off + j, none⟩) hlt).trans h1, h2.below hb, h3⟩
theorem HoldsRows.mono {n₀ n₁ : Nat} {W : World} {A : Option Addr} {css : List (List UInt8)} (h : HoldsRows n₀ W A css) (hn : n₀ ≤ n₁) : HoldsRows n₁ W A css := fun h0 => by
  obtain ⟨b, off, e, hlt, hj⟩ := h h0
  refine ⟨b, off, e, by omega, fun j hj' => ?_⟩
  obtain ⟨Aj, cj, h1, h2, h3⟩ := hj j hj'
  exact ⟨Aj, cj, h1, h2.mono hn, h3⟩
theorem HoldsRows.later {W W' : World} {A : Option Addr} {css : List (List UInt8)} (h : HoldsRows W.heap.size W A css) (hb : Below W.heap.size W W') : HoldsRows W'.heap.size W' A css := (h.below hb).mono hb.size
/-- The first rows of them. -/
theorem HoldsRows.take {n₀ : Nat} {W : World} {A : Option Addr} {css : List (List UInt8)} (h : HoldsRows n₀ W A css) (k : Nat) : HoldsRows n₀ W A (css.take k) := fun h0 => by
  have hl : (css.take k).length ≤ css.length := by simp; omega
  obtain ⟨b, off, e, hlt, hj⟩ := h (by omega)
  refine ⟨b, off, e, hlt, fun j hj' => ?_⟩
  have e2 : (css.take k).getD j [] = css.getD j [] := by
    have h1 : j < k := by simp at hj'; omega
    simp [List.getD_eq_getElem?_getD, h1]
  rw [e2]
  exact hj j (by omega)
/-- Own rows are such. -/
theorem holds_rows {W : World} {base : Nat} {v : Value} {vs : List Value} {css : List (List UInt8)} (hO : W.ownsRow base 22 1 v vs.length vs) (hR : RowsOf W base vs css) :
    ∃ A c, v = .slice A css.length c ∧ css.length ≤ c ∧ c ≤ 9223372036854775807 ∧ (A = none → c = 0) ∧ HoldsRows W.heap.size W A css := by
  have hl := hR.1
  rcases hO.2 with ⟨rfl, h0⟩ | ⟨g, cap, cur, rfl, hle, hg, _, hcm, _, _⟩
  · rw [h0] at hl
    exact ⟨none, 0, by rw [← hl], by omega, by omega, fun _ => rfl, fun h => by omega⟩
  · refine ⟨_, cap, by rw [hl], by omega, by unfold maxLen at hcm; omega, fun h => (by cases h), fun _ => ⟨g, 0, rfl, (Array.getElem?_eq_some_iff.1 hg).1, fun j hj => ?_⟩⟩
    obtain ⟨u, h1, h2⟩ := hR.2 j hj
    obtain ⟨Au, cu, rfl, h3, h4, h5⟩ := holds_of_own h2
    have hc := hO.cellAt j (by omega)
    refine ⟨Au, cu, by rw [Nat.zero_add]; rw [hc]; exact h1, h5, h3, h4, ?_⟩
    rintro rfl
    rcases h2.2 with ⟨e, _⟩ | ⟨g', cap', cur', e, _⟩
    · simp at e; exact e.2
    · cases e


end Go.Proofs.Ytklgggolkclebaa
