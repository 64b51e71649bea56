/-
  The newest decisions: mathematics alone.
-/
import Derived.Test.YtbmhhidlmdhacaaTlMath
namespace Go.Proofs.TailMath

def last (n : Nat) (D : List Kn) : List Kn := D.drop (D.length - n)
theorem kn_one {D : List Kn} (hD : D.Pairwise Kn.ne) {x y : Kn} (hx : x ∈ D) (hy : y ∈ D) (h1 : x.hi = y.hi) (h2 : x.lo = y.lo) : x = y := by
  induction D with
  | nil => simp at hx
  | cons z D ih =>
    obtain ⟨p1, p2⟩ := List.pairwise_cons.1 hD
    rcases List.mem_cons.1 hx with ex | hx2
    · rcases List.mem_cons.1 hy with ey | hy2
      · rw [ex, ey]
      · exact absurd ⟨ex ▸ h1, ex ▸ h2⟩ (p1 y hy2)
    · rcases List.mem_cons.1 hy with ey | hy2
      · exact absurd ⟨ey ▸ h1.symm, ey ▸ h2.symm⟩ (p1 x hx2)
      · exact ih p2 hx2 hy2
theorem oth_append (hi lo : Nat) (a b : List Kn) : oth hi lo (a ++ b) = oth hi lo a ++ oth hi lo b := by simp [oth]
theorem oth_len {hi lo : Nat} {D : List Kn} (hD : D.Pairwise Kn.ne) : oth hi lo D = D ∧ (∀ k ∈ D, ¬ (k.hi = hi ∧ k.lo = lo)) ∨ (oth hi lo D).length + 1 = D.length ∧ ∃ k ∈ D, k.hi = hi ∧ k.lo = lo := by
  by_cases h : ∀ k ∈ D, ¬ (k.hi = hi ∧ k.lo = lo)
  · exact .inl ⟨oth_none h, h⟩
  · right
    obtain ⟨k, hk, e⟩ : ∃ k ∈ D, k.hi = hi ∧ k.lo = lo := by
      refine Classical.byContradiction fun hc => h fun k hk e => hc ⟨k, hk, e⟩
    obtain ⟨a, b, rfl⟩ := List.append_of_mem hk
    obtain ⟨kh, klo, ka⟩ := k
    obtain ⟨e1, e2⟩ := e
    simp only at e1 e2
    subst e1 e2
    rw [oth_split hD]
    exact ⟨by simp; omega, _, hk, rfl, rfl⟩
theorem dec_last {n hi lo ay : Nat} {D : List Kn} (hD : D.Pairwise Kn.ne) : dec n hi lo ay (last n D) = last n (oth hi lo D ++ [⟨hi, lo, ay⟩]) := by
  obtain ⟨P, hP⟩ : ∃ P, D.take (D.length - n) = P := ⟨_, rfl⟩
  obtain ⟨K, hK⟩ : ∃ K, D.drop (D.length - n) = K := ⟨_, rfl⟩
  have hPK : D = P ++ K := by rw [← hP, ← hK, List.take_append_drop]
  have lP : P.length = D.length - n := by rw [← hP]; simp
  have lK : K.length = D.length - (D.length - n) := by rw [← hK]; simp
  have hpw := hD
  rw [hPK] at hpw
  obtain ⟨pP, pK, pX⟩ := List.pairwise_append.1 hpw
  have e1 : last n D = K := hK
  rw [e1]
  unfold dec cut last
  rw [hPK, oth_append]
  obtain ⟨x, hx⟩ : ∃ x : Kn, x = ⟨hi, lo, ay⟩ := ⟨_, rfl⟩
  rw [← hx]
  rcases oth_len (hi := hi) (lo := lo) pK with ⟨k1, k2⟩ | ⟨k1, k, hk, hk1, hk2⟩
  · rw [k1]
    rcases oth_len (hi := hi) (lo := lo) pP with ⟨p1, _⟩ | ⟨p1, k, hk, _⟩
    · rw [p1]
      by_cases hl : D.length < n
      · have hP0 : P = [] := List.eq_nil_of_length_eq_zero (by omega)
        subst hP0
        have hz : K.length + 1 - n = 0 := by omega
        rw [if_neg (by simp; omega)]
        simp [hz]
      · rw [if_pos (by simp; omega), List.append_assoc, show (P ++ (K ++ [x])).length - n = P.length + 1 by simp; omega, ← List.drop_drop, List.drop_left]
        simp
    · have h0 : 0 < P.length := List.length_pos_of_mem hk
      rw [if_pos (by simp; omega), List.append_assoc, show (oth hi lo P ++ (K ++ [x])).length - n = (oth hi lo P).length + 1 by simp; omega, ← List.drop_drop, List.drop_left]
      simp
  · have p1 : oth hi lo P = P := oth_none fun y hy e => pX y hy k hk ⟨e.1.trans hk1.symm, e.2.trans hk2.symm⟩
    rw [p1, if_neg (by simp; omega)]
    by_cases hl : D.length < n
    · have hP0 : P = [] := List.eq_nil_of_length_eq_zero (by omega)
      subst hP0
      have hz : (oth hi lo K).length + 1 - n = 0 := by omega
      simp [hz]
    · rw [List.append_assoc, show (P ++ (oth hi lo K ++ [x])).length - n = P.length by simp; omega, List.drop_left]
theorem ask_last {n i : Nat} {D : List Kn} (hD : D.Pairwise Kn.ne) (hi : i < D.length) : askK D[i].hi D[i].lo (last n D) = if D.length - n ≤ i then some D[i] else none := by
  have hm : D[i] ∈ D := List.getElem_mem hi
  have hpw := hD
  rw [← List.take_append_drop (D.length - n) D] at hpw
  obtain ⟨_, _, pX⟩ := List.pairwise_append.1 hpw
  by_cases h : D.length - n ≤ i
  · rw [if_pos h]
    have hin : D[i] ∈ last n D := by
      unfold last
      rw [List.mem_iff_getElem]
      exact ⟨i - (D.length - n), by simp; omega, by simp; congr 1; omega⟩
    cases e : askK D[i].hi D[i].lo (last n D) with
    | none => exact absurd ⟨rfl, rfl⟩ (askK_none e _ hin)
    | some k =>
      obtain ⟨k1, k2, k3⟩ := askK_some e
      rw [kn_one hD (List.mem_of_mem_drop k1) hm k2 k3]
  · rw [if_neg h]
    cases e : askK D[i].hi D[i].lo (last n D) with
    | none => rfl
    | some k =>
      obtain ⟨k1, k2, k3⟩ := askK_some e
      have hin : D[i] ∈ D.take (D.length - n) := by
        rw [List.mem_iff_getElem]
        exact ⟨i, by simp; omega, by simp⟩
      exact absurd ⟨k2.symm, k3.symm⟩ (pX _ hin k k1)
theorem oth_pw {hi lo ay : Nat} {D : List Kn} (hD : D.Pairwise Kn.ne) : (oth hi lo D ++ [(⟨hi, lo, ay⟩ : Kn)]).Pairwise Kn.ne := by
  refine List.pairwise_append.2 ⟨hD.sublist List.filter_sublist, by simp, fun x hx y hy => ?_⟩
  rw [List.mem_singleton.1 hy]
  have := (List.mem_filter.1 hx).2
  simp at this
  exact fun e => this.elim (fun h => h e.1) (fun h => h e.2)
end Go.Proofs.TailMath
