/-
  Plain mathematics: a threshold's digits are read as it was, with noughts behind them, too. No program is named here.
-/
import Derived.Test.YtpcichbceaijjaaProbMath
namespace Go.Proofs.ProbMath

theorem readOn_app : ∀ (l : List UInt8) (c : UInt8) (v : Nat), readOn (l ++ [c]) v = match readOn l v with
    | none => none
    | some u => match unhex c with
      | none => none
      | some d => some (u * 16 + d)
  | [], c, v => by
    show readOn [c] v = _
    simp only [readOn]
    rfl
  | b :: r, c, v => by
    show readOn (b :: (r ++ [c])) v = _
    simp only [readOn]
    cases unhex b with
    | none => rfl
    | some d => exact readOn_app r c (v * 16 + d)
theorem unhex_hexd : ∀ d : Fin 16, unhex (hexd d.val) = some d.val := by decide
def upper (t k : Nat) : Nat := t / 2 ^ (4 * (14 - k))
theorem upper_succ (t k : Nat) (h : k < 14) : upper t (k + 1) = upper t k * 16 + dig t k := by
  unfold upper dig
  rw [show 14 - (k + 1) = 13 - k by omega, show 4 * (14 - k) = 4 * (13 - k) + 4 by omega, Nat.pow_add, ← Nat.div_div_eq_div_mul]
  generalize t / 2 ^ (4 * (13 - k)) = q
  omega
theorem upper_all (t : Nat) : upper t 14 = t := by simp [upper]
theorem upper_none (t : Nat) (h : t < 72057594037927936) : upper t 0 = 0 := by
  unfold upper
  exact Nat.div_eq_of_lt (by simpa using h)
theorem full_take_succ (t k : Nat) (h : k < 14) : (full t).take (k + 1) = (full t).take k ++ [hexd (dig t k)] := by
  rw [List.take_succ_eq_append_getElem (by rw [full_len]; exact h)]
  congr 1
  have := full_get t k h
  simp only [List.getD_eq_getElem?_getD] at this
  rw [List.getElem?_eq_getElem (by rw [full_len]; exact h)] at this
  simpa using this
theorem readOn_full (t : Nat) (h : t < 72057594037927936) : ∀ k, k ≤ 14 → readOn ((full t).take k) 0 = some (upper t k)
  | 0, _ => by rw [upper_none t h]; rfl
  | k + 1, hk => by
    rw [full_take_succ t k (by omega), readOn_app, readOn_full t h k (by omega)]
    have := unhex_hexd ⟨dig t k, dig_lt t k⟩
    simp only at this ⊢
    rw [this, upper_succ t k (by omega)]
theorem stay_upper (t : Nat) : ∀ i, i + 1 ≤ 14 → stay t (i + 1) ≤ i + 1 ∧ upper t (i + 1) = upper t (stay t (i + 1)) * 16 ^ (i + 1 - stay t (i + 1))
  | 0, _ => by
    have e : stay t 1 = 1 := by unfold stay; split <;> rfl
    rw [e]; simp
  | i + 1, hi => by
    obtain ⟨h1, h2⟩ := stay_upper t i (by omega)
    by_cases h0 : dig t (i + 1) = 0
    · have e : stay t (i + 1 + 1) = stay t (i + 1) := by show (if dig t (i + 1) = 0 then _ else _) = _; rw [if_pos h0]
      rw [e]
      refine ⟨by omega, ?_⟩
      rw [upper_succ t (i + 1) (by omega), h2, h0, Nat.add_zero, Nat.mul_assoc, ← Nat.pow_succ]
      congr 2
      omega
    · have e : stay t (i + 1 + 1) = i + 1 + 1 := by show (if dig t (i + 1) = 0 then _ else _) = _; rw [if_neg h0]
      rw [e]; simp
theorem pow_16 (k : Nat) : (2 : Nat) ^ (4 * k) = 16 ^ k := by rw [Nat.pow_mul]
/-- **There and back.** -/
theorem parse_digits (t : Nat) (h : t < 72057594037927936) : parse (digits t) = (t, 0) := by
  have hb := stay_bounds t 14
  obtain ⟨h1, h2⟩ := stay_upper t 13 (by omega)
  rw [upper_all] at h2
  have hr : readOn (digits t) 0 = some (upper t (stay t 14)) := readOn_full t h _ (by omega)
  rw [parse_some (by rw [digits_len]; omega) (by rw [digits_len]; omega) hr, digits_len, pow_16]
  exact congrArg (fun x => (x, 0)) h2.symm
theorem parse_more (t : Nat) (h : t < 72057594037927936) : parse (digits t ++ [48]) = if (digits t).length = 14 then (0, 31) else (t, 0) := by
  have hb := stay_bounds t 14
  obtain ⟨h1, h2⟩ := stay_upper t 13 (by omega)
  rw [upper_all] at h2
  by_cases h14 : (digits t).length = 14
  · rw [if_pos h14, parse_bad (by simp [h14])]
  · rw [if_neg h14]
    rw [digits_len] at h14
    have hr : readOn (digits t) 0 = some (upper t (stay t 14)) := readOn_full t h _ (by omega)
    have hr2 : readOn (digits t ++ [48]) 0 = some (upper t (stay t 14) * 16 + 0) := by rw [readOn_app, hr]; rfl
    rw [parse_some (by simp) (by simp [digits_len]; omega) hr2, List.length_append, digits_len, pow_16, Nat.add_zero, Nat.mul_assoc, Nat.mul_comm 16, ← Nat.pow_succ]
    refine congrArg (fun x => (x, 0)) ?_
    rw [show (14 - (stay t 14 + [(48 : UInt8)].length)).succ = 14 - stay t 14 by simp; omega]
    exact h2.symm

/-! Weights. -/
theorem kept_pos {t : Nat} (h : t < 72057594037927936) : 0 < kept t := by unfold kept; omega
theorem weight_parts {t : Nat} (h : t < 72057594037927936) : ∃ g n d, both t = g ∧ 0 < g ∧ 0 < d ∧ kept t = g * d ∧ 72057594037927936 = g * n ∧ 72057594037927936 / g = n ∧ kept t / g = d ∧ (n % 2 = 1 ∨ d % 2 = 1) := by
  have hg : 0 < both t := Nat.gcd_pos_of_pos_left _ (by omega)
  obtain ⟨n, hn⟩ : both t ∣ 72057594037927936 := Nat.gcd_dvd_left _ _
  obtain ⟨d, hd⟩ : both t ∣ kept t := Nat.gcd_dvd_right _ _
  have hk := kept_pos h
  have hd0 : 0 < d := by
    rcases Nat.eq_zero_or_pos d with rfl | h0
    · rw [Nat.mul_zero] at hd; omega
    · exact h0
  refine ⟨both t, n, d, rfl, hg, hd0, hd, hn, Nat.div_eq_of_eq_mul_right hg hn, Nat.div_eq_of_eq_mul_right hg hd, ?_⟩
  rcases Nat.mod_two_eq_zero_or_one n with e1 | e1
  · rcases Nat.mod_two_eq_zero_or_one d with e2 | e2
    · exfalso
      have d1 : both t * 2 ∣ 72057594037927936 := by rw [hn]; exact Nat.mul_dvd_mul_left _ (Nat.dvd_of_mod_eq_zero e1)
      have d2 : both t * 2 ∣ kept t := by rw [hd]; exact Nat.mul_dvd_mul_left _ (Nat.dvd_of_mod_eq_zero e2)
      have := Nat.le_of_dvd hg (Nat.dvd_gcd d1 d2)
      omega
    · exact .inr e2
  · exact .inl e1

/-! Shares. -/
theorem share_under (k n : Nat) : share k n * n ≤ 72057594037927936 * k := Nat.div_mul_le_self _ _
theorem share_over (k n : Nat) (h : 0 < n) : 72057594037927936 * k < (share k n + 1) * n := by
  have := Nat.lt_mul_div_succ (72057594037927936 * k) h
  rw [Nat.mul_comm n] at this
  exact this

theorem parts : ∀ c : Fin 57, 72057594037927936 - share 1 (2 ^ c.val) < 72057594037927936 ∧ 72057594037927936 / both (72057594037927936 - share 1 (2 ^ c.val)) = 2 ^ c.val ∧ kept (72057594037927936 - share 1 (2 ^ c.val)) / both (72057594037927936 - share 1 (2 ^ c.val)) = 1 ∧ 72057594037927936 - share (2 ^ c.val) (2 ^ c.val) = 0 := by decide +kernel

end Go.Proofs.ProbMath
