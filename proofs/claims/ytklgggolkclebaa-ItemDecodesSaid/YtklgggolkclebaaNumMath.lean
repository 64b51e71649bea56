/-
  Plain mathematics of numbers as bytes, seven binary digits a byte: what Put lays, what Get reads, and that they are each other's way back. No condition; no program is named here.
-/
namespace Go.Proofs.NumMath

/-- A number's bytes, the least digits first. -/
def put (n : Nat) : List UInt8 :=
  if n < 128 then [UInt8.ofNat n] else UInt8.ofNat (n % 128 + 128) :: put (n / 128)
termination_by n
decreasing_by omega

theorem put_lt {n : Nat} (h : n < 128) : put n = [UInt8.ofNat n] := by rw [put, if_pos h]
theorem put_ge {n : Nat} (h : 128 ≤ n) : put n = UInt8.ofNat (n % 128 + 128) :: put (n / 128) := by rw [put, if_neg (by omega)]
theorem put_pos (n : Nat) : 1 ≤ (put n).length := by
  by_cases h : n < 128
  · rw [put_lt h]; simp
  · rw [put_ge (by omega)]; simp
theorem put_len (k : Nat) : ∀ n, n < 128 ^ (k + 1) → (put n).length ≤ k + 1 := by
  induction k with
  | zero => intro n h; rw [put_lt (by simpa using h)]; simp
  | succ k ih =>
    intro n h
    by_cases h1 : n < 128
    · rw [put_lt h1]; simp
    · rw [put_ge (by omega)]
      have : n / 128 < 128 ^ (k + 1) := by
        rw [Nat.pow_succ] at h
        exact Nat.div_lt_of_lt_mul (by rw [Nat.mul_comm]; exact h)
      have := ih _ this
      simp; omega
theorem put_len10 {n : Nat} (h : n < 18446744073709551616) : (put n).length ≤ 10 := put_len 9 n (by omega)
theorem put_mono : ∀ b a : Nat, a ≤ b → (put a).length ≤ (put b).length := by
  intro b
  induction b using Nat.strongRecOn with
  | _ b ih =>
    intro a hab
    by_cases h1 : a < 128
    · rw [put_lt h1]; exact put_pos b
    · rw [put_ge (n := a) (by omega), put_ge (n := b) (by omega)]
      have := ih (b / 128) (by omega) (a / 128) (by omega)
      simp; omega

theorem u8_lo {n : Nat} (h : n < 128) : (UInt8.ofNat n).toNat = n := by simp; omega
theorem u8_hi (n : Nat) : (UInt8.ofNat (n % 128 + 128)).toNat = n % 128 + 128 := by simp; omega

/-- What Get reads of the bytes from k rounds on, acc being read: the number, how many bytes, the error. -/
def scan : Nat → Nat → List UInt8 → Nat × Nat × Nat
  | _, _, [] => (0, 0, 10)
  | k, acc, c :: r =>
    if c.toNat < 128 then
      if k = 0 ∨ c.toNat = 1 ∨ (1 < c.toNat ∧ k + 1 < 10) then (acc + c.toNat * 128 ^ k, k + 1, 0) else (0, 0, 31)
    else if k + 1 = 10 then (0, 0, 31) else scan (k + 1) (acc + (c.toNat - 128) * 128 ^ k) r

def getAt (cs : List UInt8) (at_ : Int) : Nat × Nat × Nat :=
  if at_ < 0 ∨ (cs.length : Int) < at_ then (0, 0, 1)
  else if (scan 0 0 (cs.drop at_.toNat)).2.2 = 0 then ((scan 0 0 (cs.drop at_.toNat)).1, at_.toNat + (scan 0 0 (cs.drop at_.toNat)).2.1, 0)
  else (0, 0, (scan 0 0 (cs.drop at_.toNat)).2.2)

theorem scan_put : ∀ (m k acc : Nat) (r : List UInt8), (k = 0 ∨ 0 < m) → m * 128 ^ k < 18446744073709551616 → k + (put m).length ≤ 10 →
    scan k acc (put m ++ r) = (acc + m * 128 ^ k, k + (put m).length, 0) := by
  intro m
  induction m using Nat.strongRecOn with
  | _ m ih =>
    intro k acc r hk hm hl
    by_cases h1 : m < 128
    · rw [put_lt h1] at hl ⊢
      simp only [List.cons_append, List.nil_append, scan, u8_lo h1, h1, if_true, List.length_cons, List.length_nil]
      rw [if_pos]
      rcases hk with hk | hk
      · exact .inl hk
      · by_cases h2 : m = 1
        · exact .inr (.inl h2)
        · refine .inr (.inr ⟨by omega, ?_⟩)
          simp at hl
          by_cases h9 : k = 9
          · subst h9; omega
          · omega
    · have hp := put_pos (m / 128)
      rw [put_ge (by omega)] at hl ⊢
      simp only [List.length_cons] at hl
      simp only [List.cons_append, scan, u8_hi, List.length_cons]
      rw [if_neg (by omega), if_neg (by omega), ih (m / 128) (by omega) (k + 1) _ r (.inr (by omega)) ?_ (by omega)]
      · have e : (m % 128 + 128 - 128) * 128 ^ k + m / 128 * 128 ^ (k + 1) = m * 128 ^ k := by
          rw [Nat.pow_succ, ← Nat.mul_assoc, Nat.mul_right_comm, ← Nat.add_mul]
          congr 1; omega
        rw [Nat.add_assoc, e]
        simp; omega
      · refine Nat.lt_of_le_of_lt ?_ hm
        rw [Nat.pow_succ, ← Nat.mul_assoc, Nat.mul_right_comm]
        exact Nat.mul_le_mul_right _ (by omega)

theorem scan_cut : ∀ (m k acc i : Nat), i < (put m).length → k + (put m).length ≤ 10 → scan k acc ((put m).take i) = (0, 0, 10) := by
  intro m
  induction m using Nat.strongRecOn with
  | _ m ih =>
    intro k acc i hi hl
    by_cases h1 : m < 128
    · rw [put_lt h1] at hi ⊢
      simp at hi; subst hi; rfl
    · have hp := put_pos (m / 128)
      rw [put_ge (by omega)] at hi hl ⊢
      simp only [List.length_cons] at hi hl
      cases i with
      | zero => rfl
      | succ i =>
        simp only [List.take_succ_cons, scan, u8_hi]
        rw [if_neg (by omega), if_neg (by omega)]
        exact ih (m / 128) (by omega) (k + 1) _ i (by omega) (by omega)

theorem scan_inv : ∀ (cs : List UInt8) (k acc n s : Nat), k < 10 → scan k acc cs = (n, s, 0) →
    ∃ m, (k = 0 ∨ 0 < m) ∧ n = acc + m * 128 ^ k ∧ s = k + (put m).length ∧ cs.take (put m).length = put m ∧ (put m).length ≤ cs.length ∧ k + (put m).length ≤ 10 ∧ m * 128 ^ k < 18446744073709551616 := by
  intro cs
  induction cs with
  | nil => intro k acc n s _ h; simp [scan] at h
  | cons c r ih =>
    intro k acc n s hk h
    have hc := c.toNat_lt
    simp only [scan] at h
    by_cases h1 : c.toNat < 128
    · rw [if_pos h1] at h
      by_cases h2 : k = 0 ∨ c.toNat = 1 ∨ (1 < c.toNat ∧ k + 1 < 10)
      · rw [if_pos h2] at h
        simp only [Prod.mk.injEq, and_true] at h
        refine ⟨c.toNat, by omega, h.1.symm, ?_, ?_, ?_, ?_, ?_⟩
        · rw [put_lt h1]; simp; exact h.2.symm
        · rw [put_lt h1]; simp
        · rw [put_lt h1]; simp
        · rw [put_lt h1]; simp; omega
        · by_cases h9 : k = 9
          · subst h9
            have : c.toNat ≤ 1 := by omega
            calc c.toNat * 128 ^ 9 ≤ 1 * 128 ^ 9 := Nat.mul_le_mul_right _ this
              _ < _ := by decide
          · have hk8 : 128 ^ k ≤ 128 ^ 8 := Nat.pow_le_pow_right (by omega) (by omega)
            calc c.toNat * 128 ^ k ≤ 127 * 128 ^ 8 := Nat.mul_le_mul (by omega) hk8
              _ < _ := by decide
      · rw [if_neg h2] at h; simp at h
    · rw [if_neg h1] at h
      by_cases h2 : k + 1 = 10
      · rw [if_pos h2] at h; simp at h
      · rw [if_neg h2] at h
        obtain ⟨m, hm, hn, hs, ht, hle, hl, hb⟩ := ih _ _ _ _ (by omega) h
        have hm0 : 0 < m := by omega
        have e0 : 128 ≤ (c.toNat - 128) + 128 * m := by omega
        have ec : UInt8.ofNat (((c.toNat - 128) + 128 * m) % 128 + 128) = c := by
          have : ((c.toNat - 128) + 128 * m) % 128 + 128 = c.toNat := by omega
          rw [this]; simp
        have ed : ((c.toNat - 128) + 128 * m) / 128 = m := by omega
        have hput : put ((c.toNat - 128) + 128 * m) = c :: put m := by rw [put_ge e0, ec, ed]
        have hv : ((c.toNat - 128) + 128 * m) * 128 ^ k = (c.toNat - 128) * 128 ^ k + m * 128 ^ (k + 1) := by
          rw [Nat.add_mul, Nat.pow_succ, Nat.mul_comm 128 m, Nat.mul_assoc, Nat.mul_comm 128 (128 ^ k)]
        refine ⟨(c.toNat - 128) + 128 * m, .inr (by omega), ?_, ?_, ?_, ?_, ?_, ?_⟩
        · rw [hn, hv, Nat.add_assoc]
        · rw [hput, hs]; simp; omega
        · rw [hput]; simp [ht]
        · rw [hput]; simp; exact hle
        · rw [hput]; simp; omega
        · rw [hv]
          have hk8 : 128 ^ (k + 1) ≤ 128 ^ 9 := Nat.pow_le_pow_right (by omega) (by omega)
          have h3 : (c.toNat - 128) * 128 ^ k < 128 ^ (k + 1) := by
            rw [Nat.pow_succ, Nat.mul_comm]
            exact Nat.mul_lt_mul_of_pos_left (by omega) (Nat.pow_pos (by omega))
          -- both are multiples below 2^64 of 128^(k+1): m < 2^64 / 128^(k+1)
          have h4 : m * 128 ^ (k + 1) + 128 ^ (k + 1) ≤ 18446744073709551616 := by
            have hd : 128 ^ (k + 1) ∣ 18446744073709551616 := by
              have : 18446744073709551616 = 128 ^ (k + 1) * (2 * 128 ^ (8 - k)) := by
                have e9 : 128 ^ (k + 1) * 128 ^ (8 - k) = 128 ^ 9 := by rw [← Nat.pow_add]; congr 1; omega
                rw [Nat.mul_left_comm, e9]
              exact ⟨_, this⟩
            obtain ⟨q, hq⟩ := hd
            rw [hq] at hb ⊢
            rw [Nat.mul_comm m] at hb ⊢
            have : m < q := Nat.lt_of_mul_lt_mul_left hb
            rw [← Nat.mul_succ]
            exact Nat.mul_le_mul_left _ this
          omega

/-- The number that bytes with more behind them make. -/
def val : List UInt8 → Nat
  | [] => 0
  | c :: r => c.toNat % 128 + 128 * val r
theorem val_lt : ∀ cs : List UInt8, val cs < 128 ^ cs.length
  | [] => by simp [val]
  | c :: r => by have := val_lt r; simp only [val, List.length_cons, Nat.pow_succ]; omega
theorem val_snoc : ∀ (cs : List UInt8) (c : UInt8), val (cs ++ [c]) = val cs + (c.toNat % 128) * 128 ^ cs.length
  | [], c => by simp [val]
  | d :: r, c => by
    simp only [List.cons_append, val, val_snoc r c, List.length_cons, Nat.pow_succ]
    rw [Nat.mul_add, Nat.add_assoc, ← Nat.mul_assoc, Nat.mul_comm 128 (c.toNat % 128), Nat.mul_assoc, Nat.mul_comm 128 (128 ^ r.length)]
theorem scan_pre : ∀ (pre r : List UInt8) (k acc : Nat), (∀ c ∈ pre, 128 ≤ c.toNat) → k + pre.length < 10 → scan k acc (pre ++ r) = scan (k + pre.length) (acc + val pre * 128 ^ k) r
  | [], r, k, acc, _, _ => by simp [val]
  | c :: pre, r, k, acc, h, hl => by
    have hc := h c (by simp)
    have hlt := c.toNat_lt
    simp only [List.length_cons] at hl
    simp only [List.cons_append, scan]
    rw [if_neg (by omega), if_neg (by omega), scan_pre pre r (k + 1) _ (fun d hd => h d (by simp [hd])) (by omega)]
    congr 1
    · simp; omega
    · simp only [val, Nat.pow_succ]
      rw [Nat.add_mul, show c.toNat % 128 = c.toNat - 128 by omega, Nat.add_assoc, Nat.mul_comm 128 (val pre), Nat.mul_assoc (val pre), Nat.mul_comm 128 (128 ^ k)]

theorem or_step (a k y : Nat) (ha : a < 128 ^ k) (hk : k ≤ 9) :
    a % 18446744073709551616 ||| y * 2 ^ (7 * k) % 18446744073709551616 = (a + y * 128 ^ k) % 18446744073709551616 := by
  have e7 : 128 ^ k = 2 ^ (7 * k) := by rw [Nat.pow_mul]
  rw [e7] at ha ⊢
  have eE : 18446744073709551616 = 2 ^ (7 * k) * 2 ^ (64 - 7 * k) := by
    rw [← Nat.pow_add, show 7 * k + (64 - 7 * k) = 64 by omega]
  have hE : 0 < 2 ^ (64 - 7 * k) := Nat.pow_pos (by omega)
  generalize 2 ^ (64 - 7 * k) = E at eE hE
  have hDE : 2 ^ (7 * k) ≤ 2 ^ (7 * k) * E := Nat.le_mul_of_pos_right _ hE
  rw [eE, Nat.mod_eq_of_lt (Nat.lt_of_lt_of_le ha hDE), Nat.mul_comm y, Nat.mul_mod_mul_left, Nat.or_comm, Nat.mul_comm (2 ^ (7 * k)) (y % E), ← Nat.shiftLeft_eq, ← Nat.shiftLeft_add_eq_or_of_lt ha, Nat.shiftLeft_eq]
  generalize 2 ^ (7 * k) = D at ha
  have hq : a + D * y = (a + y % E * D) + D * E * (y / E) := by
    have h := Nat.mod_add_div y E
    have h2 : D * y = D * (y % E + E * (y / E)) := by rw [h]
    rw [h2, Nat.mul_add, ← Nat.mul_assoc, Nat.mul_comm D (y % E)]; omega
  have hlt : a + y % E * D < D * E := by
    have h1 : y % E + 1 ≤ E := Nat.mod_lt _ hE
    have h2 : (y % E + 1) * D ≤ E * D := Nat.mul_le_mul_right _ h1
    rw [Nat.add_mul, Nat.one_mul, Nat.mul_comm E D] at h2
    omega
  rw [hq, Nat.add_mul_mod_self_left, Nat.mod_eq_of_lt hlt]; omega

end Go.Proofs.NumMath
