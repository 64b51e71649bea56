/-
  Plain mathematics of the mean, more: what the law checks of each that is kept; the least number that all up to one divide.
-/
import Derived.Test.YtbjpfafohaebpaaPrMean
namespace Go.Proofs.PrioMath

/-- The least number that all up to n divide, as the law reckons it. -/
def lcmF : Nat → Nat
  | 0 => 1
  | n + 1 => lcmF n / Nat.gcd (lcmF n) (n + 1) * (n + 1)
theorem lcmF_le {n : Nat} (h : n ≤ 5) : 1 ≤ lcmF n ∧ lcmF n ≤ 60 := by
  match n, h with
  | 0, _ => decide
  | 1, _ => decide
  | 2, _ => decide
  | 3, _ => decide
  | 4, _ => decide
  | 5, _ => decide
theorem lcmF_dvd {m : Nat} (h : m ≤ 5) (d : Nat) (hd : d < m) : (d + 1) ∣ lcmF m := by
  have key : ∀ m, m < 6 → ∀ d, d < m → lcmF m % (d + 1) = 0 := by decide
  exact Nat.dvd_of_mod_eq_zero (key m (by omega) d hd)
theorem pow_small {m n : Nat} (hm : m ≤ 5) (hn : n ≤ 4) : m ^ n ≤ 625 :=
  Nat.le_trans (Nat.pow_le_pow_left hm n) (Nat.le_trans (Nat.pow_le_pow_right (by omega) hn) (by decide))
/-- What the law checks of each that is kept. -/
theorem told_ok {den k m n v j : Nat} {W : Nat → Nat} (hm : 1 ≤ m ∧ m ≤ 5) (hW : ∀ i, i < n → W i ≤ 30) (hden : ∀ d, d < m → (d + 1) ∣ den) (hj : j < (closeL k m (mkV W m v n)).length) :
    (at_ (closeL k m (mkV W m v n)) j).p < n ∧ 0 < (at_ (closeL k m (mkV W m v n)) j).d ∧ (at_ (closeL k m (mkV W m v n)) j).d ∣ den ∧ W (at_ (closeL k m (mkV W m v n)) j).p * (at_ (closeL k m (mkV W m v n)) j).d ≤ (at_ (closeL k m (mkV W m v n)) j).w ∧ (at_ (closeL k m (mkV W m v n)) j).w ≤ 150 := by
  have hdr : dr m = m := by unfold dr; rw [if_neg (by omega)]
  have hj' : j < (keptL k (mkV W m v n)).length := by unfold closeL at hj; simpa using hj
  have e : at_ (closeL k m (mkV W m v n)) j = ⟨(at_ (keptL k (mkV W m v n)) j).p, (cnts (at_ (keptL k (mkV W m v n)) j).w (nx k (mkV W m v n)) m).1, (cnts (at_ (keptL k (mkV W m v n)) j).w (nx k (mkV W m v n)) m).2⟩ := by
    rw [at_get hj, at_get hj']
    simp [closeL]
  rw [e]
  have hmem : at_ (keptL k (mkV W m v n)) j ∈ mkV W m v n := (List.mem_filter.1 (at_mem hj')).1
  obtain ⟨i, hi, hio⟩ := mem_at hmem
  rw [mkV_len] at hi
  rw [mkV_at W m v hi] at hio
  rw [← hio]
  simp only
  have hWi := hW i hi
  have ho : (nx k (mkV W m v n)).w ≤ 30 ∧ (nx k (mkV W m v n)).d < m := by
    unfold nx
    cases hf : (mkV W m v n).find? fun t => decide (rank (mkV W m v n) t = k) with
    | none => exact ⟨by simp, by simp; omega⟩
    | some t =>
      obtain ⟨a, ha, hao⟩ := mem_at (List.mem_of_find?_eq_some hf)
      rw [mkV_len] at ha
      rw [mkV_at W m v ha] at hao
      rw [← hao]
      exact ⟨hW a ha, Nat.mod_lt _ (by omega)⟩
  obtain ⟨o, hoo⟩ : ∃ o, nx k (mkV W m v n) = o := ⟨_, rfl⟩
  rw [hoo] at ho ⊢
  have hb : o.w * dr m ≤ 150 := by rw [hdr]; exact Nat.mul_le_mul ho.1 hm.2
  by_cases h : o.w * dr m ≤ W i * (o.d + 1)
  · unfold cnts
    rw [if_pos h]
    exact ⟨hi, by omega, ⟨den, by simp⟩, by simp, by simp only; omega⟩
  · obtain ⟨_, h2, h3, h4⟩ := val_many h (by omega) (hden _ ho.2)
    refine ⟨hi, h3, h2, h4, ?_⟩
    unfold cnts
    rw [if_neg h]
    simp only
    exact Nat.le_trans (Nat.min_le_left _ _) (Nat.le_trans (Nat.div_le_self _ _) hb)
theorem term_le {den a b : Nat} (hd : den ≤ 60) (hb : b ≤ 150) : den / a * b ≤ 9000 := Nat.le_trans (Nat.mul_le_mul (Nat.le_trans (Nat.div_le_self _ _) hd) hb) (by decide)
/-- The sum over those that are kept, one behind the other. -/
def partS (den k m n : Nat) (W : Nat → Nat) (v j : Nat) : Nat := sumN j fun j => den / (at_ (closeL k m (mkV W m v n)) j).d * (at_ (closeL k m (mkV W m v n)) j).w
theorem partS_le {den k m n v j : Nat} {W : Nat → Nat} (hm : 1 ≤ m ∧ m ≤ 5) (hW : ∀ i, i < n → W i ≤ 30) (hden : ∀ d, d < m → (d + 1) ∣ den) (hd : den ≤ 60) (hn : n ≤ 4) (hj : j ≤ (closeL k m (mkV W m v n)).length) : partS den k m n W v j ≤ 36000 := by
  have hl : (closeL k m (mkV W m v n)).length ≤ 4 := by
    unfold closeL keptL
    rw [List.length_map]
    have := List.length_filter_le (fun t => decide (rank (mkV W m v n) t < k)) (mkV W m v n)
    rw [mkV_len] at this
    omega
  have := sumN_le (n := j) (f := fun j => den / (at_ (closeL k m (mkV W m v n)) j).d * (at_ (closeL k m (mkV W m v n)) j).w) (C := 9000) fun i hi => term_le hd (told_ok hm hW hden (by omega)).2.2.2.2
  unfold partS
  omega
theorem tot_le {den k m n v : Nat} {W : Nat → Nat} (hm : 1 ≤ m ∧ m ≤ 5) (hW : ∀ i, i < n → W i ≤ 30) (hden : ∀ d, d < m → (d + 1) ∣ den) (hd : den ≤ 60) (hn : n ≤ 4) : tot den k m n W v ≤ 36000 := partS_le hm hW hden hd hn (Nat.le_refl _)
theorem sum_le {den k m n v : Nat} {W : Nat → Nat} (hm : 1 ≤ m ∧ m ≤ 5) (hW : ∀ i, i < n → W i ≤ 30) (hden : ∀ d, d < m → (d + 1) ∣ den) (hd : den ≤ 60) (hn : n ≤ 4) (hv : v ≤ 625) : sumN v (tot den k m n W) ≤ 22500000 := by
  have := sumN_le (n := v) (f := tot den k m n W) (C := 36000) fun i _ => tot_le hm hW hden hd hn
  omega
end Go.Proofs.PrioMath
