/-
  Plain mathematics of the mean: over all draws of some offers what is kept counts for no more than all, and for all, if there are no more than are kept.
-/
import Derived.Test.YtbjpfafohaebpaaPrTop
namespace Go.Proofs.PrioMath

/-- The sum of f over all below n. -/
def sumN (n : Nat) (f : Nat → Nat) : Nat := match n with
  | 0 => 0
  | n + 1 => sumN n f + f n
theorem sumN_congr {n : Nat} {f g : Nat → Nat} (h : ∀ i, i < n → f i = g i) : sumN n f = sumN n g := by
  induction n with
  | zero => rfl
  | succ n ih => rw [sumN, sumN, ih fun i hi => h i (by omega), h n (by omega)]
theorem sumN_le {n : Nat} {f : Nat → Nat} {C : Nat} (h : ∀ i, i < n → f i ≤ C) : sumN n f ≤ n * C := by
  induction n with
  | zero => simp [sumN]
  | succ n ih =>
    have := ih fun i hi => h i (by omega)
    have := h n (by omega)
    rw [sumN, Nat.add_mul, Nat.one_mul]
    omega
theorem sumN_mono {n : Nat} {f g : Nat → Nat} (h : ∀ i, i < n → f i ≤ g i) : sumN n f ≤ sumN n g := by
  induction n with
  | zero => simp [sumN]
  | succ n ih =>
    have := ih fun i hi => h i (by omega)
    have := h n (by omega)
    rw [sumN, sumN]
    omega
theorem sumN_const (n C : Nat) : sumN n (fun _ => C) = n * C := by
  induction n with
  | zero => simp [sumN]
  | succ n ih => rw [sumN, ih, Nat.add_mul, Nat.one_mul]
theorem sumN_add (n : Nat) (f g : Nat → Nat) : sumN n (fun i => f i + g i) = sumN n f + sumN n g := by
  induction n with
  | zero => rfl
  | succ n ih => rw [sumN, sumN, sumN, ih]; omega
theorem sumN_mul (n c : Nat) (f : Nat → Nat) : sumN n (fun i => c * f i) = c * sumN n f := by
  induction n with
  | zero => simp [sumN]
  | succ n ih => rw [sumN, sumN, ih, Nat.mul_add]
theorem sumN_swap (a b : Nat) (f : Nat → Nat → Nat) : sumN a (fun i => sumN b (fun j => f i j)) = sumN b (fun j => sumN a (fun i => f i j)) := by
  induction a with
  | zero => simp [sumN, sumN_const]
  | succ a ih => simp only [sumN]; rw [ih, ← sumN_add]
theorem sumN_plus (a b : Nat) (f : Nat → Nat) : sumN (a + b) f = sumN a f + sumN b (fun j => f (a + j)) := by
  induction b with
  | zero => simp [sumN]
  | succ b ih => rw [← Nat.add_assoc, sumN, ih, sumN]; omega
theorem sumN_split (a b : Nat) (f : Nat → Nat) : sumN (a * b) f = sumN b (fun q => sumN a (fun r => f (q * a + r))) := by
  induction b with
  | zero => simp [sumN]
  | succ b ih => rw [Nat.mul_add, Nat.mul_one, sumN_plus, ih, sumN, Nat.mul_comm a b]
theorem sumN_shift (n : Nat) (f : Nat → Nat) : sumN (n + 1) f = f 0 + sumN n (fun i => f (i + 1)) := by
  rw [Nat.add_comm, sumN_plus]
  simp [sumN, Nat.add_comm]

/-- The sum over a list. -/
def lsum (h : Of → Nat) : List Of → Nat
  | [] => 0
  | a :: l => h a + lsum h l
theorem lsum_at (h : Of → Nat) (l : List Of) : sumN l.length (fun j => h (at_ l j)) = lsum h l := by
  induction l with
  | nil => rfl
  | cons a l ih =>
    rw [List.length_cons, sumN_shift, lsum, ← ih]
    rfl
theorem lsum_map (h : Of → Nat) (g : Of → Of) (l : List Of) : lsum h (l.map g) = lsum (fun t => h (g t)) l := by
  induction l with
  | nil => rfl
  | cons a l ih => rw [List.map_cons, lsum, lsum, ih]
theorem lsum_filter (h : Of → Nat) (p : Of → Bool) (l : List Of) : lsum h (l.filter p) = lsum (fun t => if p t = true then h t else 0) l := by
  induction l with
  | nil => rfl
  | cons a l ih =>
    rw [lsum, List.filter_cons]
    by_cases hp : p a = true
    · rw [if_pos hp, if_pos hp, lsum, ih]
    · rw [if_neg hp, if_neg hp, ih, Nat.zero_add]

/-- The i-th digit of v. -/
def dig (m v i : Nat) : Nat := v / m ^ i % m
/-- The offers of weights W by the digits of v. -/
def mkV (W : Nat → Nat) (m v : Nat) : Nat → List Of
  | 0 => []
  | i + 1 => mkV W m v i ++ [⟨i, W i, dig m v i⟩]
theorem mkV_len (W : Nat → Nat) (m v k : Nat) : (mkV W m v k).length = k := by
  induction k with
  | zero => rfl
  | succ k ih => rw [mkV, List.length_append, ih]; rfl
theorem mkV_at (W : Nat → Nat) (m v : Nat) {k i : Nat} (h : i < k) : at_ (mkV W m v k) i = ⟨i, W i, dig m v i⟩ := by
  induction k with
  | zero => omega
  | succ k ih =>
    have hl := mkV_len W m v k
    by_cases e : i = k
    · subst e
      unfold at_
      rw [mkV, List.getD, List.getElem?_append_right (by omega), hl]
      simp
    · rw [← ih (by omega)]
      unfold at_
      rw [mkV, List.getD, List.getElem?_append_left (by omega)]
      rfl
theorem mkV_pl (W : Nat → Nat) (m v k : Nat) : Pl (mkV W m v k) := fun i hi => by rw [mkV_at W m v (by rwa [mkV_len] at hi)]
/-- All but the i-th. -/
def rest (i : Nat) (os : List Of) : List Of := os.filter fun t => decide (t.p ≠ i)
theorem rest_all {W : Nat → Nat} {m v n i : Nat} (h : n ≤ i) : rest i (mkV W m v n) = mkV W m v n := by
  unfold rest
  refine List.filter_eq_self.2 fun t ht => ?_
  have := ((mkV_pl W m v n).mem ht).1
  rw [mkV_len] at this
  simp
  omega
theorem rest_perm {W : Nat → Nat} {m v n i : Nat} (h : i < n) : (mkV W m v n).Perm (⟨i, W i, dig m v i⟩ :: rest i (mkV W m v n)) := by
  induction n with
  | zero => omega
  | succ n ih =>
    by_cases e : i = n
    · subst e
      have e1 : rest i (mkV W m v (i + 1)) = mkV W m v i := by
        rw [mkV]
        unfold rest
        rw [List.filter_append]
        have := rest_all (W := W) (m := m) (v := v) (Nat.le_refl i)
        unfold rest at this
        rw [this]
        simp
      rw [e1, mkV]
      exact List.perm_append_comm
    · have e1 : rest i (mkV W m v (n + 1)) = rest i (mkV W m v n) ++ [⟨n, W n, dig m v n⟩] := by
        rw [mkV]
        unfold rest
        rw [List.filter_append]
        simp [Ne.symm e]
      rw [e1, mkV]
      exact (ih (by omega)).append_right _
theorem rest_same {W : Nat → Nat} {m v v' n i : Nat} (h : ∀ j, j ≠ i → dig m v j = dig m v' j) : rest i (mkV W m v n) = rest i (mkV W m v' n) := by
  induction n with
  | zero => rfl
  | succ n ih =>
    rw [mkV, mkV]
    unfold rest at *
    rw [List.filter_append, List.filter_append, ih]
    by_cases e : n = i
    · subst e; simp
    · rw [h n e]
/-- A number by one of its digits. -/
theorem dig_same (m lo d hi i : Nat) (hlo : lo < m ^ i) : dig m (hi * (m ^ i * m) + (d * m ^ i + lo)) i = d % m := by
  unfold dig
  have hp : 0 < m ^ i := by omega
  have e : hi * (m ^ i * m) + (d * m ^ i + lo) = lo + m ^ i * (hi * m + d) := by
    rw [Nat.mul_add, Nat.mul_comm d, ← Nat.mul_assoc hi, Nat.mul_comm hi (m ^ i), Nat.mul_assoc]
    omega
  rw [e, Nat.add_mul_div_left _ _ hp, Nat.div_eq_of_lt hlo, Nat.zero_add, Nat.add_comm, Nat.add_mul_mod_self_right]
theorem dig_other (m lo d hi i j : Nat) (hlo : lo < m ^ i) (hd : d < m) (hj : j ≠ i) : dig m (hi * (m ^ i * m) + (d * m ^ i + lo)) j = dig m (hi * (m ^ i * m) + lo) j := by
  unfold dig
  have hp : 0 < m ^ i := by omega
  have hm : 0 < m := by omega
  rcases Nat.lt_or_gt_of_ne hj with h | h
  · obtain ⟨e, he⟩ : ∃ e, i = j + 1 + e := ⟨i - (j + 1), by omega⟩
    have hpj : 0 < m ^ j := Nat.pow_pos hm
    have hpow : m ^ i = m ^ j * (m * m ^ e) := by rw [he, Nat.pow_add, Nat.pow_add, Nat.pow_one, Nat.mul_assoc]
    have e1 : hi * (m ^ i * m) + (d * m ^ i + lo) = lo + m ^ j * ((hi * m * m ^ e + d * m ^ e) * m) := by
      rw [hpow]
      have a1 : hi * (m ^ j * (m * m ^ e) * m) = m ^ j * (hi * m * m ^ e * m) := by simp [Nat.mul_assoc, Nat.mul_comm, Nat.mul_left_comm]
      have a2 : d * (m ^ j * (m * m ^ e)) = m ^ j * (d * m ^ e * m) := by simp [Nat.mul_comm, Nat.mul_left_comm]
      rw [a1, a2, Nat.add_mul, Nat.mul_add]
      omega
    have e2 : hi * (m ^ i * m) + lo = lo + m ^ j * ((hi * m * m ^ e) * m) := by
      rw [hpow]
      have a1 : hi * (m ^ j * (m * m ^ e) * m) = m ^ j * (hi * m * m ^ e * m) := by simp [Nat.mul_assoc, Nat.mul_comm, Nat.mul_left_comm]
      rw [a1]
      omega
    rw [e1, e2, Nat.add_mul_div_left _ _ hpj, Nat.add_mul_div_left _ _ hpj, Nat.add_mul_mod_self_right, Nat.add_mul_mod_self_right]
  · obtain ⟨e, he⟩ : ∃ e, j = i + 1 + e := ⟨j - (i + 1), by omega⟩
    have hpow : m ^ j = (m ^ i * m) * m ^ e := by rw [he, Nat.pow_add, Nat.pow_add, Nat.pow_one]
    have hq : 0 < m ^ i * m := Nat.mul_pos hp hm
    have hdl : d * m ^ i + lo < m ^ i * m := by
      have : (d + 1) * m ^ i ≤ m * m ^ i := Nat.mul_le_mul_right _ hd
      rw [Nat.add_mul, Nat.one_mul, Nat.mul_comm m] at this
      omega
    have hll : lo < m ^ i * m := Nat.lt_of_lt_of_le hlo (Nat.le_mul_of_pos_right _ hm)
    have e1 : (hi * (m ^ i * m) + (d * m ^ i + lo)) / (m ^ i * m) = hi := by
      rw [Nat.add_comm, Nat.add_mul_div_right _ _ hq, Nat.div_eq_of_lt hdl, Nat.zero_add]
    have e2 : (hi * (m ^ i * m) + lo) / (m ^ i * m) = hi := by
      rw [Nat.add_comm, Nat.add_mul_div_right _ _ hq, Nat.div_eq_of_lt hll, Nat.zero_add]
    rw [hpow, ← Nat.div_div_eq_div_mul (hi * (m ^ i * m) + (d * m ^ i + lo)) (m ^ i * m) (m ^ e), ← Nat.div_div_eq_div_mul (hi * (m ^ i * m) + lo) (m ^ i * m) (m ^ e), e1, e2]
/-- If whatever the other digits are the sum over the i-th is at most C, all is at most so many C. -/
theorem by_digit {m n i C : Nat} (hin : i < n) (G : Nat → Nat) (h : ∀ hi lo, lo < m ^ i → sumN m (fun d => G (hi * (m ^ i * m) + (d * m ^ i + lo))) ≤ C) : sumN (m ^ n) G ≤ m ^ (n - 1) * C := by
  obtain ⟨e, he⟩ : ∃ e, n = i + 1 + e := ⟨n - (i + 1), by omega⟩
  have hpow : m ^ n = (m ^ i * m) * m ^ e := by rw [he, Nat.pow_add, Nat.pow_add, Nat.pow_one]
  have hpow2 : m ^ (n - 1) = m ^ e * m ^ i := by rw [show n - 1 = e + i by omega, Nat.pow_add]
  rw [hpow, sumN_split, hpow2, Nat.mul_assoc]
  refine sumN_le fun q _ => ?_
  rw [sumN_split]
  rw [sumN_swap]
  refine sumN_le fun lo hlo => h q lo hlo

/-- Who is the greatest of all others, wherever one that is kept lies. -/
theorem nx_rest {k : Nat} {os R : List Of} {t : Of} (hk : 1 ≤ k) (hp : Pl os) (hP : os.Perm (t :: R)) (hn : k < os.length) (hr : rank os t < k) : nx k os = (R.find? fun x => decide (rank R x = k - 1)).getD ⟨0, 0, 0⟩ ∧ lt (nx k os) t = true ∧ nx k os ∈ os := by
  obtain ⟨s, r, hT⟩ := top_of k hp
  have hl := hT.len
  obtain ⟨x, s', rfl⟩ : ∃ x s', s = x :: s' := by
    cases s with
    | nil => simp at hl; omega
    | cons x s' => exact ⟨x, s', rfl⟩
  obtain ⟨h1, h2, h3⟩ := hT.many hn
  have hx : x ∈ os := hT.mem.2 (.inl (by simp))
  have hrk : ∀ y, rank os y = (if lt y t = true then 1 else 0) + rank R y := fun y => by
    rw [rank_perm hP]
    unfold rank
    rw [List.countP_cons]
    omega
  have hrx : rank os x = k := by
    unfold nx at h2
    cases hf : os.find? fun t => decide (rank os t = k) with
    | none =>
      have hso := List.pairwise_cons.1 hT.so
      have h4 : rank (x :: s' ++ r) x = k := by
        unfold rank
        rw [List.countP_append, List.countP_cons]
        have h5 : s'.countP (fun y => lt x y) = s'.length := List.countP_eq_length.2 fun b hb => hso.1 b hb
        have h6 : r.countP (fun y => lt x y) = 0 := List.countP_eq_zero.2 fun a ha => by rw [lt_asymm (hT.sep a ha x (by simp))]; simp
        rw [h5, h6, lt_irrefl, h3]
        simp
      rw [← rank_perm hT.perm] at h4
      exact h4
    | some y =>
      rw [hf] at h2
      have := List.find?_some hf
      simp at h2 this
      rw [← h2]
      exact this
  have htm : t ∈ os := hP.mem_iff.2 (by simp)
  have hne : x ≠ t := fun e => by rw [e] at hrx; omega
  have hpne : x.p ≠ t.p := fun e => hne (hp.inj hx htm e)
  have hnt : lt t x = false := by
    cases e : lt t x with
    | false => rfl
    | true =>
      have := rank_mono hx e
      omega
  have hlt : lt x t = true := other hnt (Ne.symm hpne)
  have hxR : x ∈ R := by
    rcases List.mem_cons.1 (hP.mem_iff.1 hx) with h | h
    · exact absurd h hne
    · exact h
  have hrR : rank R x = k - 1 := by
    have := hrk x
    rw [hrx, hlt] at this
    simp at this
    omega
  rw [h2]
  refine ⟨?_, hlt, hx⟩
  cases hf : R.find? fun y => decide (rank R y = k - 1) with
  | none =>
    have := List.find?_eq_none.1 hf x hxR
    simp [hrR] at this
  | some y =>
    have h4 := List.find?_some hf
    simp at h4
    have hyR := List.mem_of_find?_eq_some hf
    have hy : y ∈ os := hP.mem_iff.2 (by simp [hyR])
    show x = y
    by_cases e : x.p = y.p
    · exact hp.inj hx hy e
    · cases e1 : lt x y with
      | true =>
        have := rank_mono hyR e1
        omega
      | false =>
        have := rank_mono hxR (other e1 e)
        omega

/-- What one counts for, as so many of den. -/
def val (den w : Nat) (o : Of) (m : Nat) : Nat := den / (cnts w o m).2 * (cnts w o m).1
theorem val_few (den w : Nat) (o : Of) {m : Nat} (h : o.w * dr m ≤ w * (o.d + 1)) : val den w o m = den * w := by
  unfold val cnts
  rw [if_pos h]
  simp
theorem val_many {den w : Nat} {o : Of} {m : Nat} (h : ¬ o.w * dr m ≤ w * (o.d + 1)) (hb : o.w * dr m < 18446744073709551616) (hd : (o.d + 1) ∣ den) :
    val den w o m * (o.d + 1) = den * (o.w * dr m) ∧ (cnts w o m).2 ∣ den ∧ 0 < (cnts w o m).2 ∧ w * (cnts w o m).2 ≤ (cnts w o m).1 := by
  unfold val cnts
  rw [if_neg h]
  simp only
  obtain ⟨g, hg⟩ : ∃ g, Nat.gcd (o.d + 1) (o.w * dr m) = g := ⟨_, rfl⟩
  have g1 : g ∣ o.d + 1 := hg ▸ Nat.gcd_dvd_left _ _
  have g2 : g ∣ o.w * dr m := hg ▸ Nat.gcd_dvd_right _ _
  have g0 : 0 < g := hg ▸ Nat.gcd_pos_of_pos_left _ (by omega)
  rw [hg]
  obtain ⟨D, hD⟩ := g1
  obtain ⟨Nn, hN⟩ := g2
  have eD : (o.d + 1) / g = D := by rw [hD, Nat.mul_div_cancel_left _ g0]
  have eN : o.w * dr m / g = Nn := by rw [hN, Nat.mul_div_cancel_left _ g0]
  have hNb : Nn ≤ o.w * dr m := by rw [← eN]; exact Nat.div_le_self _ _
  rw [eD, eN, Nat.min_eq_left (by omega)]
  have hDd : D ∣ den := Nat.dvd_trans ⟨g, by rw [hD, Nat.mul_comm]⟩ hd
  have hD0 : 0 < D := by
    rcases Nat.eq_zero_or_pos D with h0 | h0
    · rw [h0] at hD; simp at hD
    · exact h0
  refine ⟨?_, hDd, hD0, ?_⟩
  · obtain ⟨q, hq⟩ := hDd
    have e1 : den / D = q := by rw [hq, Nat.mul_div_cancel_left _ hD0]
    rw [e1, hD, hN, hq]
    simp [Nat.mul_comm, Nat.mul_left_comm]
  · have h1 : w * D * g < Nn * g := by
      rw [hN, hD] at h
      rw [Nat.mul_assoc, Nat.mul_comm D g, Nat.mul_comm Nn g]
      omega
    exact Nat.le_of_lt (Nat.lt_of_mul_lt_mul_right h1)
/-- How many of the first m are marked; the last one of them is far enough. -/
theorem count_far (p : Nat → Bool) (m : Nat) : sumN m (fun d => if p d = true then 1 else 0) = 0 ∨ ∃ d, d < m ∧ p d = true ∧ sumN m (fun d => if p d = true then 1 else 0) ≤ d + 1 := by
  have hb : ∀ m, sumN m (fun d => if p d = true then 1 else 0) ≤ m := fun m => by
    have := sumN_le (n := m) (f := fun d => if p d = true then 1 else 0) (C := 1) (fun i _ => by split <;> omega)
    omega
  induction m with
  | zero => exact .inl rfl
  | succ m ih =>
    by_cases h : p m = true
    · right
      exact ⟨m, by omega, h, hb (m + 1)⟩
    · have e : sumN (m + 1) (fun d => if p d = true then 1 else 0) = sumN m (fun d => if p d = true then 1 else 0) := by
        rw [sumN]
        simp [h]
      rw [e]
      rcases ih with h1 | ⟨d, h1, h2, h3⟩
      · exact .inl h1
      · exact .inr ⟨d, by omega, h2, h3⟩
theorem mean_one {den w m : Nat} {o : Of} (p : Nat → Bool) (hdr : dr m = m) (hb : o.w * dr m < 18446744073709551616) (hd : (o.d + 1) ∣ den) (hp : ∀ d, d < m → p d = true → o.w * (d + 1) ≤ w * (o.d + 1)) :
    sumN m (fun d => if p d = true then val den w o m else 0) ≤ den * m * w := by
  have e : sumN m (fun d => if p d = true then val den w o m else 0) = val den w o m * sumN m (fun d => if p d = true then 1 else 0) := by
    rw [← sumN_mul]
    refine sumN_congr fun d _ => ?_
    split <;> simp
  rw [e]
  obtain ⟨c, hc⟩ : ∃ c, sumN m (fun d => if p d = true then 1 else 0) = c := ⟨_, rfl⟩
  have hcm : c ≤ m := by
    rw [← hc]
    have := sumN_le (n := m) (f := fun d => if p d = true then 1 else 0) (C := 1) (fun i _ => by split <;> omega)
    omega
  have hfar := count_far p m
  rw [hc] at hfar ⊢
  by_cases h : o.w * dr m ≤ w * (o.d + 1)
  · rw [val_few den w o h]
    have : den * w * c ≤ den * w * m := Nat.mul_le_mul_left _ hcm
    rw [Nat.mul_assoc den m w, Nat.mul_comm m w, ← Nat.mul_assoc]
    exact this
  · obtain ⟨h1, _⟩ := val_many h hb hd
    rcases hfar with h0 | ⟨d, hdm, hpd, hcd⟩
    · rw [h0]; omega
    · have h2 := hp d hdm hpd
      have h3 : o.w * c ≤ w * (o.d + 1) := Nat.le_trans (Nat.mul_le_mul_left _ hcd) h2
      have h4 : val den w o m * c * (o.d + 1) ≤ den * m * w * (o.d + 1) := by
        have a1 : val den w o m * c * (o.d + 1) = den * m * (o.w * c) := by
          rw [Nat.mul_assoc, Nat.mul_comm c, ← Nat.mul_assoc, h1, hdr]
          simp [Nat.mul_comm, Nat.mul_left_comm]
        rw [a1, Nat.mul_assoc (den * m)]
        exact Nat.mul_le_mul_left _ h3
      exact Nat.le_of_mul_le_mul_right h4 (by omega)

/-- What those that are kept count for, all together, by the digits of v. -/
def tot (den k m n : Nat) (W : Nat → Nat) (v : Nat) : Nat := sumN (closeL k m (mkV W m v n)).length fun j => den / (at_ (closeL k m (mkV W m v n)) j).d * (at_ (closeL k m (mkV W m v n)) j).w
theorem tot_eq (den k m n : Nat) (W : Nat → Nat) (v : Nat) : tot den k m n W v = sumN n fun i => if decide (rank (mkV W m v n) (at_ (mkV W m v n) i) < k) = true then val den (W i) (nx k (mkV W m v n)) m else 0 := by
  unfold tot
  have h1 := lsum_at (fun t => den / t.d * t.w) (closeL k m (mkV W m v n))
  rw [h1]
  unfold closeL
  rw [lsum_map]
  unfold keptL
  rw [lsum_filter, ← lsum_at, mkV_len]
  refine sumN_congr fun i hi => ?_
  rw [mkV_at W m v hi]
  rfl
theorem mean {den k m n : Nat} {W : Nat → Nat} (hk : 1 ≤ k) (hm : 1 ≤ m ∧ m ≤ 5) (hn : n ≤ 4) (hW : ∀ i, i < n → W i ≤ 30) (hden : ∀ d, d < m → (d + 1) ∣ den) : sumN (m ^ n) (tot den k m n W) ≤ sumN n W * m ^ n * den := by
  have hdr : dr m = m := by unfold dr; rw [if_neg (by omega)]
  have e : sumN (m ^ n) (tot den k m n W) = sumN n fun i => sumN (m ^ n) fun v => if decide (rank (mkV W m v n) (at_ (mkV W m v n) i) < k) = true then val den (W i) (nx k (mkV W m v n)) m else 0 := by
    rw [← sumN_swap]
    exact sumN_congr fun v _ => tot_eq den k m n W v
  rw [e]
  have hone : ∀ i, i < n → (sumN (m ^ n) fun v => if decide (rank (mkV W m v n) (at_ (mkV W m v n) i) < k) = true then val den (W i) (nx k (mkV W m v n)) m else 0) ≤ m ^ (n - 1) * (den * m * W i) := fun i hi => by
    refine by_digit hi _ fun q lo hlo => ?_
    by_cases hkn : n ≤ k
    · have h1 : ∀ v, nx k (mkV W m v n) = ⟨0, 0, 0⟩ := fun v => by
        obtain ⟨s, r, hT⟩ := top_of k (mkV_pl W m v n)
        exact (hT.few (by rw [mkV_len]; exact hkn)).2.2.2
      have h2 : ∀ d, d < m → (if decide (rank (mkV W m (q * (m ^ i * m) + (d * m ^ i + lo)) n) (at_ (mkV W m (q * (m ^ i * m) + (d * m ^ i + lo)) n) i) < k) = true then val den (W i) (nx k (mkV W m (q * (m ^ i * m) + (d * m ^ i + lo)) n)) m else 0) ≤ den * W i := fun d _ => by
        rw [h1, val_few den (W i) _ (by simp)]
        split <;> omega
      have := sumN_le h2
      exact Nat.le_trans this (Nat.le_of_eq (by rw [Nat.mul_left_comm, Nat.mul_assoc]))
    · have hV : ∀ d, (mkV W m (q * (m ^ i * m) + (d * m ^ i + lo)) n).Perm (⟨i, W i, dig m (q * (m ^ i * m) + (d * m ^ i + lo)) i⟩ :: rest i (mkV W m (q * (m ^ i * m) + (d * m ^ i + lo)) n)) := fun d => rest_perm hi
      obtain ⟨R, hR⟩ : ∃ R, rest i (mkV W m (q * (m ^ i * m) + lo) n) = R := ⟨_, rfl⟩
      obtain ⟨o, ho⟩ : ∃ o, (R.find? fun x => decide (rank R x = k - 1)).getD ⟨0, 0, 0⟩ = o := ⟨_, rfl⟩
      have hkey : ∀ d, d < m → decide (rank (mkV W m (q * (m ^ i * m) + (d * m ^ i + lo)) n) (at_ (mkV W m (q * (m ^ i * m) + (d * m ^ i + lo)) n) i) < k) = true → nx k (mkV W m (q * (m ^ i * m) + (d * m ^ i + lo)) n) = o ∧ o.w * (d + 1) ≤ W i * (o.d + 1) ∧ (o.w ≤ 30 ∧ o.d < m) := fun d hd hr => by
        have hr' := of_decide_eq_true hr
        rw [mkV_at W m _ hi] at hr'
        have hP := hV d
        have hRd : rest i (mkV W m (q * (m ^ i * m) + (d * m ^ i + lo)) n) = R := by
          rw [← hR]
          exact rest_same fun j hj => dig_other m lo d q i j hlo hd hj
        rw [hRd] at hP
        obtain ⟨a1, a2, a3⟩ := nx_rest hk (mkV_pl W m _ n) hP (by rw [mkV_len]; omega) hr'
        rw [ho] at a1
        rw [a1] at a2 a3
        rw [dig_same m lo d q i hlo, Nat.mod_eq_of_lt hd] at a2
        rw [lt_true] at a2
        obtain ⟨j, hj, hjo⟩ := mem_at a3
        rw [mkV_len] at hj
        rw [mkV_at W m _ hj] at hjo
        refine ⟨a1, by simp only at a2; omega, ?_⟩
        rw [← hjo]
        exact ⟨hW j hj, Nat.mod_lt _ (by omega)⟩
      by_cases hany : ∃ d, d < m ∧ decide (rank (mkV W m (q * (m ^ i * m) + (d * m ^ i + lo)) n) (at_ (mkV W m (q * (m ^ i * m) + (d * m ^ i + lo)) n) i) < k) = true
      · obtain ⟨d0, hd0, hr0⟩ := hany
        obtain ⟨_, _, ho1, ho2⟩ := hkey d0 hd0 hr0
        have hb : o.w * dr m < 18446744073709551616 := by
          have : o.w * dr m ≤ 30 * 5 := by rw [hdr]; exact Nat.mul_le_mul ho1 hm.2
          omega
        have h5 := mean_one (den := den) (w := W i) (m := m) (o := o) (fun d => decide (rank (mkV W m (q * (m ^ i * m) + (d * m ^ i + lo)) n) (at_ (mkV W m (q * (m ^ i * m) + (d * m ^ i + lo)) n) i) < k)) hdr hb (hden _ ho2) (fun d hd hr => (hkey d hd hr).2.1)
        refine Nat.le_trans (Nat.le_of_eq (sumN_congr fun d hd => ?_)) h5
        by_cases hr : decide (rank (mkV W m (q * (m ^ i * m) + (d * m ^ i + lo)) n) (at_ (mkV W m (q * (m ^ i * m) + (d * m ^ i + lo)) n) i) < k) = true
        · rw [if_pos hr, if_pos hr, (hkey d hd hr).1]
        · rw [if_neg hr, if_neg hr]
      · have h6 : ∀ d, d < m → (if decide (rank (mkV W m (q * (m ^ i * m) + (d * m ^ i + lo)) n) (at_ (mkV W m (q * (m ^ i * m) + (d * m ^ i + lo)) n) i) < k) = true then val den (W i) (nx k (mkV W m (q * (m ^ i * m) + (d * m ^ i + lo)) n)) m else 0) ≤ 0 := fun d hd => by
          rw [if_neg fun hr => hany ⟨d, hd, hr⟩]
          exact Nat.le_refl 0
        have := sumN_le h6
        omega
  by_cases hn0 : n = 0
  · subst hn0; simp [sumN]
  · refine Nat.le_trans (sumN_mono hone) (Nat.le_of_eq ?_)
    have hpow : m ^ n = m ^ (n - 1) * m := by
      obtain ⟨e, he⟩ : ∃ e, n = e + 1 := ⟨n - 1, by omega⟩
      rw [he, Nat.pow_succ, Nat.add_sub_cancel]
    have e2 : ∀ i, m ^ (n - 1) * (den * m * W i) = (m ^ n * den) * W i := fun i => by rw [hpow]; simp [Nat.mul_assoc, Nat.mul_comm, Nat.mul_left_comm]
    rw [sumN_congr fun i _ => e2 i, sumN_mul]
    simp [Nat.mul_assoc, Nat.mul_comm]
/-- With no more than are kept it is all. -/
theorem mean_few {den k m n : Nat} {W : Nat → Nat} (hkn : n ≤ k) (v : Nat) : tot den k m n W v = den * sumN n W := by
  rw [tot_eq, ← sumN_mul]
  obtain ⟨s, r, hT⟩ := top_of k (mkV_pl W m v n)
  have h1 := (hT.few (by rw [mkV_len]; exact hkn)).2.2.2
  refine sumN_congr fun i hi => ?_
  have h2 := rank_lt (at_mem (l := mkV W m v n) (i := i) (by rw [mkV_len]; exact hi))
  rw [mkV_len] at h2
  rw [if_pos (by simp; omega), h1, val_few den (W i) _ (by simp)]
end Go.Proofs.PrioMath
