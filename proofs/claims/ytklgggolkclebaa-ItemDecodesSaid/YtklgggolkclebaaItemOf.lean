/-
  The spans and logs that the laws make of choices may be. No condition.
-/
import Derived.Test.YtklgggolkclebaaItemEncodeNo
namespace Go.Proofs.Ytklgggolkclebaa
open Go.RowKit Go.Proofs.NumMath Go.Proofs.ItemMath

theorem keyK_right : ∀ d : Fin 256, isName (keyK d.val) = true ∧ le8 (keyK d.val) keyA = false ∧ (keyK d.val).size ≤ 60 := by decide +kernel
theorem keyA_right : isName keyA = true ∧ le8 keyA none8 = false ∧ keyA.size ≤ 60 := by decide +kernel
theorem valOf_size (d : Nat) : (valOf d).size ≤ 60 := by
  unfold valOf
  split
  · decide
  · split <;> decide
theorem bodyOf_size (d : Nat) : (bodyOf d).size ≤ 200 := by
  unfold bodyOf
  split
  · decide
  · split
    · decide
    · split <;> decide
theorem attrsOf_right (cs : List UInt8) : rightAttrs (attrsOf cs) = true := by
  obtain ⟨a1, a2, _⟩ := keyA_right
  obtain ⟨k1, k2, _⟩ := keyK_right ⟨at8 cs 10, at8_lt cs 10⟩
  have n11 := nameOf_size (at8_lt cs 11)
  unfold attrsOf
  split
  · rfl
  · split
    · unfold rightAttrs rightFrom rightFrom
      rw [a1, a2, decide_eq_true n11]; rfl
    · unfold rightAttrs rightFrom rightFrom rightFrom
      dsimp only at k1 k2 ⊢
      rw [a1, a2, k1, k2, decide_eq_true n11, decide_eq_true (valOf_size _)]; rfl
/-- The span's numbers fit. -/
theorem spanOf_fits (cs : List UInt8) : (spanOf cs).hi < 18446744073709551616 ∧ (spanOf cs).lo < 18446744073709551616 ∧ (spanOf cs).id < 18446744073709551616 ∧ (spanOf cs).par < 18446744073709551616 ∧ (spanOf cs).id ≠ 0 := by
  have h0 := at8_lt cs 0
  have h1 := at8_lt cs 1
  have h2 := at8_lt cs 2
  have h3 := at8_lt cs 3
  have h4 := at8_lt cs 4
  unfold spanOf
  dsimp only
  refine ⟨?_, ?_, ?_, ?_, ?_⟩ <;> omega
theorem spanOf_right (cs : List UInt8) : rightSpan (spanOf cs) = true := by
  have h6 := at8_lt cs 6
  have h7 := at8_lt cs 7
  have h9 := at8_lt cs 9
  unfold rightSpan spanOf
  dsimp only
  rw [nameOf_is (at8_lt cs 5), attrsOf_right cs, decide_eq_true (by omega), decide_eq_true (by omega), decide_eq_true (by omega), decide_eq_true (by omega), decide_eq_true (by omega), decide_eq_true (by unfold rvOf; split <;> omega)]
  rfl
theorem logOf_right (cs : List UInt8) : rightLog (logOf cs) = true := by
  have h1 := at8_lt cs 1
  have h2 := at8_lt cs 2
  unfold rightLog logOf
  dsimp only
  rw [nameOf_is (at8_lt cs 0), decide_eq_true (by omega), decide_eq_true (by omega), decide_eq_true (by omega), decide_eq_true (by omega), decide_eq_true (bodyOf_size _)]
  rfl
theorem aCells_get : ∀ (l : List Attr) (j : Nat), j < l.length → (aCells l)[j * 2]? = some (.string (l.getD j (none8, none8)).1) ∧ (aCells l)[j * 2 + 1]? = some (.string (l.getD j (none8, none8)).2)
  | [], j, h => by simp at h
  | a :: r, 0, _ => by simp [aCells]
  | a :: r, j + 1, h => by
    obtain ⟨h1, h2⟩ := aCells_get r j (by simpa using h)
    have e : aCells (a :: r) = .string a.1 :: .string a.2 :: aCells r := rfl
    rw [e, show (j + 1) * 2 = j * 2 + 2 by omega]
    exact ⟨by simpa using h1, by simpa using h2⟩
theorem aCells_len : ∀ l : List Attr, (aCells l).length = 2 * l.length
  | [] => rfl
  | a :: r => by
    have e : aCells (a :: r) = .string a.1 :: .string a.2 :: aCells r := rfl
    rw [e, List.length_cons, List.length_cons, aCells_len r, List.length_cons]; omega
/-- Own attributes lie somewhere. -/
theorem holdsA_of_own {W : World} {base n c : Nat} {A : Option Addr} {l : List Attr} (h : W.ownsRow base 36 2 (.slice A n c) n (aCells l)) (hn : n = l.length) (hall : ∀ a ∈ l, a.1.size ≤ 60 ∧ a.2.size ≤ 60) : HoldsA W.heap.size W A l := fun h0 => by
  rcases h.2 with ⟨hv, hz⟩ | ⟨g, cap, cur, hv, hb, hg, _⟩
  · omega
  · injection hv with e1 e2 e3
    subst e1
    refine ⟨g, 0, rfl, lt_of_block hg, fun j hj => ?_⟩
    obtain ⟨h1, h2⟩ := aCells_get l j hj
    have hl := aCells_len l
    have c1 := h.cellAt (j * 2) (by omega)
    have c2 := h.cellAt (j * 2 + 1) (by omega)
    have hm := hall (l.getD j (none8, none8)) (by simp [List.getD_eq_getElem?_getD, hj])
    refine ⟨?_, ?_, by omega, by omega⟩
    · rw [Nat.zero_add, ← h1]; exact c1
    · rw [Nat.zero_add, ← h2]; exact c2

/-- A made span, its parts named. -/
theorem span_made (A : Option Addr) (cs : List UInt8) (len cap : Nat) (w : World) (hlen : cs.length = len) (hr : Holds8 w.heap.size w A cs) :
    Calls Try.prog 10 #[.slice A len cap] w fun e w' => ∃ A' n c, e = .returned (.agg (spCells (spanOf cs).hi (spanOf cs).lo (spanOf cs).id (spanOf cs).par (spanOf cs).name (spanOf cs).start (spanOf cs).stop (spanOf cs).bad A' n c (spanOf cs).rv)) ∧
      n = (spanOf cs).attrs.length ∧ HoldsA w'.heap.size w' A' (spanOf cs).attrs ∧ Below w.heap.size w w' :=
  (span_any A cs len cap w hlen hr).mono fun _ _ ⟨A', n, c, he, hn, ho, hb⟩ => ⟨A', n, c, he, hn, holdsA_of_own ho hn (fun a ha => ((right_parts (spanOf_right cs)).2.2.2.2.2.2.2 a ha).2), hb⟩

end Go.Proofs.Ytklgggolkclebaa
