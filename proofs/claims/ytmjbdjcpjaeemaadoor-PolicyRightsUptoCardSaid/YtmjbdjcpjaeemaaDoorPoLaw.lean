/-
  What the laws of layer 12 ask of the plain answers: more spans, other orders, two rows in one.
-/
import Derived.Test.YtmjbdjcpjaeemaaDoorPoKnown
namespace Go.Proofs.YtmjbdjcpjaeemaaDoor
open Go.RowKit

theorem wrap_in {n : Int} (h : -9223372036854775808 ≤ n ∧ n ≤ 9223372036854775807) : wrap64 n = n := by unfold wrap64; omega
theorem low_le (l : List Sp) : ∀ i j, j < i → lowN l i ≤ (l.getD j sp0).start := by
  intro i
  induction i with
  | zero => intro j h; omega
  | succ i ih =>
    intro j h
    rw [lowN]
    rcases Nat.lt_or_ge j i with h1 | h1
    · have := ih j h1
      split <;> omega
    · rw [show j = i by omega]
      split <;> omega
theorem low_mem (l : List Sp) : ∀ i, ∃ j, (j < i ∨ j = 0) ∧ lowN l i = (l.getD j sp0).start := by
  intro i
  induction i with
  | zero => exact ⟨0, .inr rfl, rfl⟩
  | succ i ih =>
    obtain ⟨j, hj, e⟩ := ih
    rw [lowN]
    split
    · exact ⟨i, .inl (by omega), rfl⟩
    · exact ⟨j, by omega, e⟩
theorem high_ge (l : List Sp) : ∀ i j, j < i → (l.getD j sp0).stop ≤ highN l i := by
  intro i
  induction i with
  | zero => intro j h; omega
  | succ i ih =>
    intro j h
    rw [highN]
    rcases Nat.lt_or_ge j i with h1 | h1
    · have := ih j h1
      split <;> omega
    · rw [show j = i by omega]
      split <;> omega
theorem high_mem (l : List Sp) : ∀ i, ∃ j, (j < i ∨ j = 0) ∧ highN l i = (l.getD j sp0).stop := by
  intro i
  induction i with
  | zero => exact ⟨0, .inr rfl, rfl⟩
  | succ i ih =>
    obtain ⟨j, hj, e⟩ := ih
    rw [highN]
    split
    · exact ⟨i, .inl (by omega), rfl⟩
    · exact ⟨j, by omega, e⟩
/-- Spans none of which ends ahead of its beginning, and none is far off. -/
def Near (l : List Sp) : Prop := ∀ i, i < l.length → 0 ≤ (l.getD i sp0).start ∧ (l.getD i sp0).start ≤ (l.getD i sp0).stop ∧ (l.getD i sp0).stop ≤ 1000
theorem Near.len {l : List Sp} (h : Near l) (h0 : 0 < l.length) : lenM l = highN l l.length - lowN l l.length ∧ 0 ≤ lenM l ∧ lenM l ≤ 1000 := by
  obtain ⟨j, hj, e1⟩ := low_mem l l.length
  obtain ⟨k, hk, e2⟩ := high_mem l l.length
  have h1 := h j (by omega)
  have h2 := h k (by omega)
  have h3 := low_le l l.length 0 h0
  have h4 := high_ge l l.length 0 h0
  have h5 := h 0 h0
  have e : lenM l = highN l l.length - lowN l l.length := by
    unfold lenM
    rw [if_neg (by omega), wrap_in (by omega)]
  rw [e]
  omega
theorem Near.pos {l : List Sp} (h : Near l) : 0 ≤ lenM l := by
  rcases Nat.eq_zero_or_pos l.length with h0 | h0
  · unfold lenM; rw [if_pos h0]; exact Int.le_refl _
  · exact (h.len h0).2.1
theorem span_made (m : List (List UInt8)) {i : Nat} (hi : i < (spansOf m).length) : ∃ cs, (spansOf m).getD i sp0 = spanOf cs := by
  rw [getD_get hi sp0]
  obtain ⟨cs, _, e⟩ := List.mem_map.1 (show (spansOf m)[i] ∈ (m.take 8).map spanOf from List.getElem_mem hi)
  exact ⟨cs, e.symm⟩
theorem le_sum {l : List Nat} {x : Nat} (h : x ∈ l) : x ≤ l.sum := by
  induction l with
  | nil => simp at h
  | cons y l ih =>
    rw [List.sum_cons]
    rcases List.mem_cons.1 h with rfl | h
    · omega
    · have := ih h; omega
theorem near_of (m : List (List UInt8)) : Near (spansOf m) := fun i hi => by
  obtain ⟨cs, e⟩ := span_made m hi
  rw [e]
  unfold spanOf
  have h1 := at8_lt cs 6
  have h2 := at8_lt cs 7
  dsimp only
  omega
theorem Near.append {a b : List Sp} (ha : Near a) (hb : Near b) : Near (a ++ b) := fun i hi => by
  rcases Nat.lt_or_ge i a.length with h | h
  · have e : (a ++ b).getD i sp0 = a.getD i sp0 := by simp [List.getD, List.getElem?_append_left h]
    rw [e]; exact ha i h
  · have e : (a ++ b).getD i sp0 = b.getD (i - a.length) sp0 := by simp [List.getD, List.getElem?_append_right h]
    rw [e]
    exact hb _ (by simp at hi; omega)
/-- With more spans a trace is no shorter. -/
theorem len_more {a b : List Sp} (ha : Near a) (hb : Near b) : lenM a ≤ lenM (a ++ b) := by
  rcases Nat.eq_zero_or_pos a.length with h0 | h0
  · have : a = [] := List.eq_nil_of_length_eq_zero h0
    subst this
    simpa [lenM] using hb.pos
  · have hl : 0 < (a ++ b).length := by simp; omega
    obtain ⟨e1, _, _⟩ := ha.len h0
    obtain ⟨e2, _, _⟩ := (ha.append hb).len hl
    rw [e1, e2]
    obtain ⟨j, hj, f1⟩ := low_mem a a.length
    obtain ⟨k, hk, f2⟩ := high_mem a a.length
    have ej : ∀ j, j < a.length → (a ++ b).getD j sp0 = a.getD j sp0 := fun j h => by simp [List.getD, List.getElem?_append_left h]
    have h1 := low_le (a ++ b) (a ++ b).length j (by simp; omega)
    have h2 := high_ge (a ++ b) (a ++ b).length k (by simp; omega)
    rw [ej j (by omega)] at h1
    rw [ej k (by omega)] at h2
    omega
theorem holds_more (r : Ru) {a b : List Sp} (ha : Near a) (hb : Near b) (n : Nat) (h : holdsM r a n = true) : holdsM r (a ++ b) n = true := by
  unfold holdsM at h ⊢
  split
  · rename_i hk
    rw [if_pos hk, Bool.and_eq_true] at h
    have h1 := of_decide_eq_true h.1
    have h2 := of_decide_eq_true h.2
    have h3 := len_more ha hb
    rw [Bool.and_eq_true]
    exact ⟨decide_eq_true (by simp; omega), decide_eq_true (by omega)⟩
  · rename_i hk
    rw [if_neg hk] at h
    split
    · rename_i hk2
      rw [if_pos hk2] at h
      rw [List.any_append, h]; rfl
    · rename_i hk2
      rw [if_neg hk2] at h
      split
      · rename_i hk3
        rw [if_pos hk3] at h
        rw [List.any_append, h]; rfl
      · rename_i hk3
        rw [if_neg hk3] at h
        split
        · rename_i hk4
          rw [if_pos hk4] at h
          have h1 := of_decide_eq_true h
          exact decide_eq_true (by simp; omega)
        · rename_i hk4
          rw [if_neg hk4] at h
          exact h
/-- In whatever order the spans come. -/
theorem rev_at {l : List Sp} {i : Nat} (h : i < l.length) : l.reverse.getD i sp0 = l.getD (l.length - 1 - i) sp0 := by
  rw [getD_get (by simpa using h), getD_get (by omega), List.getElem_reverse]
theorem len_rev (l : List Sp) : lenM l.reverse = lenM l := by
  unfold lenM
  rw [List.length_reverse]
  split
  · rfl
  · rename_i h0
    have e1 : lowN l.reverse l.length = lowN l l.length := by
      obtain ⟨j, hj, f1⟩ := low_mem l l.length
      obtain ⟨k, hk, f2⟩ := low_mem l.reverse l.length
      have h1 := low_le l.reverse l.length (l.length - 1 - j) (by omega)
      rw [rev_at (by omega), show l.length - 1 - (l.length - 1 - j) = j by omega] at h1
      rw [rev_at (by omega)] at f2
      have h2 := low_le l l.length (l.length - 1 - k) (by omega)
      omega
    have e2 : highN l.reverse l.length = highN l l.length := by
      obtain ⟨j, hj, f1⟩ := high_mem l l.length
      obtain ⟨k, hk, f2⟩ := high_mem l.reverse l.length
      have h1 := high_ge l.reverse l.length (l.length - 1 - j) (by omega)
      rw [rev_at (by omega), show l.length - 1 - (l.length - 1 - j) = j by omega] at h1
      rw [rev_at (by omega)] at f2
      have h2 := high_ge l l.length (l.length - 1 - k) (by omega)
      omega
    rw [e1, e2]
theorem holds_rev (r : Ru) (l : List Sp) (n : Nat) : holdsM r l.reverse n = holdsM r l n := by
  unfold holdsM
  rw [List.length_reverse, len_rev, List.any_reverse, List.any_reverse]
theorem which_rev (ls : List (List Ru)) (l : List Sp) (n : Nat) : whichM ls l.reverse n = whichM ls l n := by
  have : (fun row => allM row l.reverse n) = fun row => allM row l n := by
    funext row
    unfold allM
    simp only [holds_rev]
  unfold whichM
  rw [this]
/-- Two rows in one. -/
theorem all_append (a b : List Ru) (l : List Sp) (n : Nat) : allM (a ++ b) l n = (allM a l n && allM b l n) := by unfold allM; rw [List.all_append]
theorem which_two (a b : List Ru) (l : List Sp) (n : Nat) : whichM [a, b] l n = if allM a l n then 0 else if allM b l n then 1 else -1 := by
  cases h1 : allM a l n with
  | true => exact idx_at (p := fun row => allM row l n) (l := [a, b]) (i := 0) [] (by simp) (fun j hj => absurd hj (by omega)) h1
  | false =>
    cases h2 : allM b l n with
    | true => exact idx_at (p := fun row => allM row l n) (l := [a, b]) (i := 1) [] (by simp) (fun j hj => by rw [show j = 0 by omega]; exact h1) h2
    | false => exact idx_none (p := fun row => allM row l n) (l := [a, b]) [] (fun j hj => by
        match j, hj with
        | 0, _ => exact h1
        | 1, _ => exact h2)
/-- What was made by choices may be asked. -/
theorem ok_rules (cs : List UInt8) : OkRows (rulesOf cs) ∧ ∀ row ∈ rulesOf cs, ∀ i, i < row.length → In64 (row.getD i ru0).a := by
  obtain ⟨h1, h2, h3⟩ := rulesN_ok cs (min 6 (cs.length / 3))
  have hin : ∀ row ∈ rulesOf cs, ∀ i, i < row.length → In64 (row.getD i ru0).a := fun row hr i hi => by
    obtain ⟨_, h5⟩ := h3 row hr
    rw [getD_get hi ru0]
    obtain ⟨a, b, e⟩ := h5 row[i] (List.getElem_mem hi)
    rw [e]
    exact (ruleOf_in _ _ (at8_lt cs b)).1
  have hrow : ∀ row ∈ rulesOf cs, row.length ≤ 6 := fun row hr => by
    have : row.length ≤ sumM (rulesOf cs) := by
      unfold sumM
      have := le_sum (l := (rulesOf cs).map List.length) (List.mem_map_of_mem (f := List.length) hr)
      exact this
    unfold rulesOf at this
    rw [h2] at this
    omega
  refine ⟨⟨by unfold rulesOf; omega, fun i hi => ?_⟩, hin⟩
  rw [getD_get hi []]
  exact ⟨by have := hrow _ (List.getElem_mem hi); omega, hin _ (List.getElem_mem hi)⟩
theorem fits_of (m : List (List UInt8)) {n cap : Nat} (hn : (spansOf m).length = n) (hc : n ≤ cap) (hc2 : cap ≤ 9223372036854775807) : Fits n cap (spansOf m) := ⟨hn, hc, hc2, fun i hi => by
  have hi2 : i < (spansOf m).length := by omega
  obtain ⟨cs, e⟩ := span_made m hi2
  rw [e]
  have := spanOf_attrs cs
  omega⟩
end Go.Proofs.YtmjbdjcpjaeemaaDoor
