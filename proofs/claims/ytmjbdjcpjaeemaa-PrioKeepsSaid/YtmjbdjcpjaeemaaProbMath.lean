/-
  Plain mathematics of layer 5: a number of 128 binary digits by one of 64, digit by digit of 32 (Knuth's way); shares, digits. No program is named here.
-/
namespace Go.Proofs.ProbMath

/-! One digit of 32 binary ones: u < y, y = y1 * 2^32 + y0, the digit is (u * 2^32 + d) / y. -/
theorem q_start (y1 y0 u d : Nat) (h1 : 1 ≤ y1) (hd : d < 4294967296) : (u * 4294967296 + d) / (y1 * 4294967296 + y0) ≤ u / y1 := by
  have hq := Nat.div_mul_le_self (u * 4294967296 + d) (y1 * 4294967296 + y0)
  generalize (u * 4294967296 + d) / (y1 * 4294967296 + y0) = Q at hq ⊢
  rw [Nat.le_div_iff_mul_le (by omega)]
  rw [Nat.mul_add, ← Nat.mul_assoc] at hq
  generalize Q * y1 = p at hq ⊢
  generalize Q * y0 = p0 at hq
  omega
theorem q_lt (y1 y0 u d : Nat) (hu : u < y1 * 4294967296 + y0) (hd : d < 4294967296) : (u * 4294967296 + d) / (y1 * 4294967296 + y0) < 4294967296 := by
  refine Nat.div_lt_of_lt_mul ?_
  omega
theorem q_above (y1 y0 u d q r : Nat) (hqr : q * y1 + r = u) (h : 4294967296 * r + d < q * y0) : (u * 4294967296 + d) / (y1 * 4294967296 + y0) < q := by
  refine Nat.div_lt_of_lt_mul ?_
  rw [Nat.mul_comm (y1 * 4294967296 + y0), Nat.mul_add, ← Nat.mul_assoc]
  generalize q * y1 = p at *
  generalize q * y0 = p0 at *
  omega
theorem q_below (y1 y0 u d q r : Nat) (h1 : 1 ≤ y1) (hqr : q * y1 + r = u) (h : q * y0 ≤ 4294967296 * r + d) : q ≤ (u * 4294967296 + d) / (y1 * 4294967296 + y0) := by
  rw [Nat.le_div_iff_mul_le (by omega), Nat.mul_add, ← Nat.mul_assoc]
  generalize q * y1 = p at *
  generalize q * y0 = p0 at *
  omega
theorem q_break (y1 y0 u d q r : Nat) (h1 : 1 ≤ y1) (h0 : y0 < 4294967296) (hu : u < y1 * 4294967296 + y0) (hqr : q * y1 + r = u) (hr : 4294967296 ≤ r) : q ≤ (u * 4294967296 + d) / (y1 * 4294967296 + y0) := by
  refine q_below y1 y0 u d q r h1 hqr ?_
  have hq : q < 4294967296 := by
    refine Nat.lt_of_mul_lt_mul_right (a := y1) ?_
    generalize q * y1 = p at *
    omega
  have := Nat.mul_le_mul (Nat.le_of_lt hq) (Nat.le_of_lt h0)
  generalize q * y0 = p0 at *
  omega

/-- What is left, modulo 2^64, is what is left. -/
theorem q_left (y u d q : Nat) (hq : q = (u * 4294967296 + d) / y) : q * y + (u * 4294967296 + d) % y = u * 4294967296 + d := by
  subst hq
  have := Nat.div_add_mod (u * 4294967296 + d) y
  rw [Nat.mul_comm y] at this
  exact this

theorem div_of (n y q w : Nat) (h : n = w + q * y) (hl : w < y) : n / y = q ∧ n % y = w := by
  subst h
  rw [Nat.add_mul_div_right _ _ (by omega), Nat.add_mul_mod_self_right, Nat.div_eq_of_lt hl, Nat.mod_eq_of_lt hl]
  omega

/-- Two digits make the whole. -/
theorem two_digits (y u d1 d0 q1 q0 v w : Nat) (hw : w < y) (e1 : q1 * y + v = u * 4294967296 + d1) (e0 : q0 * y + w = v * 4294967296 + d0) :
    (u * 18446744073709551616 + (d1 * 4294967296 + d0)) / y = q1 * 4294967296 + q0 ∧ (u * 18446744073709551616 + (d1 * 4294967296 + d0)) % y = w := by
  refine div_of _ y _ w ?_ hw
  rw [Nat.add_mul, Nat.mul_right_comm]
  generalize q1 * y = p1 at *
  generalize q0 * y = p0 at *
  omega

/-- Both by a power of two: the same quotient, the rest by that power. -/
theorem scaled (N y p : Nat) (hp : 0 < p) : N * p / (y * p) = N / y ∧ N * p % (y * p) = N % y * p :=
  ⟨Nat.mul_div_mul_right N y hp, Nat.mul_mod_mul_right p N y⟩

/-- The number to divide, both by a power of two, cut where 64 digits end. -/
theorem cut_at (hi lo y s k : Nat) (hsk : s + k = 64) (hy : y * 2 ^ s < 18446744073709551616) (hlo : lo < 18446744073709551616) (h : hi < y) :
    hi * 2 ^ s < 18446744073709551616 ∧ lo / 2 ^ k < 2 ^ s ∧ hi * 2 ^ s + lo / 2 ^ k < y * 2 ^ s ∧
      (hi * 18446744073709551616 + lo) * 2 ^ s = (hi * 2 ^ s + lo / 2 ^ k) * 18446744073709551616 + lo * 2 ^ s % 18446744073709551616 := by
  have hs : 0 < 2 ^ s := Nat.two_pow_pos s
  have hk : 0 < 2 ^ k := Nat.two_pow_pos k
  have hp : 2 ^ s * 2 ^ k = 18446744073709551616 := by rw [← Nat.pow_add, hsk]
  have h1 : lo / 2 ^ k < 2 ^ s := Nat.div_lt_of_lt_mul (by rw [Nat.mul_comm, hp]; exact hlo)
  have h2 : (hi + 1) * 2 ^ s ≤ y * 2 ^ s := Nat.mul_le_mul_right _ h
  have e : lo * 2 ^ s / 18446744073709551616 = lo / 2 ^ k := by rw [← hp, Nat.mul_comm (2 ^ s), Nat.mul_div_mul_right _ _ hs]
  have e2 := Nat.div_add_mod (lo * 2 ^ s) 18446744073709551616
  rw [e] at e2
  rw [Nat.add_mul] at h2
  refine ⟨by omega, h1, by omega, ?_⟩
  rw [Nat.add_mul, Nat.mul_right_comm]
  generalize hi * 2 ^ s = a at *
  generalize lo * 2 ^ s = b at *
  generalize lo / 2 ^ k = c at *
  generalize b % 18446744073709551616 = d at *
  omega

/-! What the chapter says. -/
def keep (r t : Nat) : Bool := decide (r < 72057594037927936) && decide (t ≤ r)
def kept (t : Nat) : Nat := 72057594037927936 - t
def share (k n : Nat) : Nat := 72057594037927936 * k / n
def both (t : Nat) : Nat := Nat.gcd 72057594037927936 (kept t)

theorem share_le {k n : Nat} (h : k ≤ n) : share k n ≤ 72057594037927936 := by
  unfold share
  rcases Nat.eq_zero_or_pos n with rfl | h0
  · simp
  · refine Nat.div_le_of_le_mul ?_
    rw [Nat.mul_comm]
    exact Nat.mul_le_mul_right _ h

/-- A hexadecimal digit's sign. -/
def hexd (d : Nat) : UInt8 := UInt8.ofNat (if d < 10 then 48 + d else 87 + d)
/-- The digit at place i of fourteen. -/
def dig (t i : Nat) : Nat := t / 2 ^ (4 * (13 - i)) % 16
/-- How many of the first i digits stay, when noughts at their end go. -/
def stay (t : Nat) : Nat → Nat
  | 0 => 1
  | i + 1 => if dig t i = 0 then stay t i else i + 1
def full (t : Nat) : List UInt8 := (List.range 14).map fun i => hexd (dig t i)
def digits (t : Nat) : List UInt8 := (full t).take (stay t 14)

theorem stay_bounds (t : Nat) : ∀ i, 1 ≤ stay t i ∧ stay t i ≤ max 1 i
  | 0 => by simp [stay]
  | i + 1 => by
    have := stay_bounds t i
    unfold stay
    split <;> omega
theorem full_len (t : Nat) : (full t).length = 14 := by simp [full]
theorem full_get (t i : Nat) (h : i < 14) : (full t).getD i 0 = hexd (dig t i) := by simp [full, List.getD, h]
theorem digits_len (t : Nat) : (digits t).length = stay t 14 := by
  have := stay_bounds t 14
  simp [digits, full_len]; omega
theorem digits_get (t i : Nat) (h : i < stay t 14) : (digits t).getD i 0 = hexd (dig t i) := by
  have := stay_bounds t 14
  rw [← full_get t i (by omega)]
  unfold digits
  simp only [List.getD_eq_getElem?_getD]
  rw [List.getElem?_take_of_lt h]
theorem dig_lt (t i : Nat) : dig t i < 16 := Nat.mod_lt _ (by omega)

/-- A sign's digit. -/
def unhex (c : UInt8) : Option Nat := if 48 ≤ c.toNat ∧ c.toNat ≤ 57 then some (c.toNat - 48) else if 97 ≤ c.toNat ∧ c.toNat ≤ 102 then some (c.toNat - 87) else none
/-- Signs read on, v being read. -/
def readOn : List UInt8 → Nat → Option Nat
  | [], v => some v
  | c :: r, v => match unhex c with
    | none => none
    | some d => readOn r (v * 16 + d)
def parse (cs : List UInt8) : Nat × Nat :=
  if cs.length = 0 ∨ 14 < cs.length then (0, 31) else match readOn cs 0 with
    | none => (0, 31)
    | some v => (v * 2 ^ (4 * (14 - cs.length)), 0)

theorem unhex_lt {c : UInt8} {d : Nat} (h : unhex c = some d) : d < 16 := by
  unfold unhex at h
  split at h
  · injection h with h; omega
  · split at h
    · injection h with h; omega
    · cases h
theorem readOn_none {cs : List UInt8} {k v : Nat} {c : UInt8} (hk : k < cs.length) (hc : cs.getD k 0 = c) (h : unhex c = none) : readOn (cs.drop k) v = none := by
  have e : cs.drop k = c :: cs.drop (k + 1) := by
    rw [← hc, List.drop_eq_getElem_cons hk]; simp [List.getD, hk]
  rw [e, readOn, h]
theorem readOn_some {cs : List UInt8} {k v d : Nat} {c : UInt8} (hk : k < cs.length) (hc : cs.getD k 0 = c) (h : unhex c = some d) : readOn (cs.drop k) v = readOn (cs.drop (k + 1)) (v * 16 + d) := by
  have e : cs.drop k = c :: cs.drop (k + 1) := by
    rw [← hc, List.drop_eq_getElem_cons hk]; simp [List.getD, hk]
  rw [e, readOn, h]
theorem parse_bad {cs : List UInt8} (h : cs.length = 0 ∨ 14 < cs.length) : parse cs = (0, 31) := by unfold parse; rw [if_pos h]
theorem parse_none {cs : List UInt8} (h : readOn cs 0 = none) : parse cs = (0, 31) := by unfold parse; rw [h]; split <;> rfl
theorem parse_some {cs : List UInt8} {v : Nat} (h1 : 1 ≤ cs.length) (h2 : cs.length ≤ 14) (h : readOn cs 0 = some v) : parse cs = (v * 2 ^ (4 * (14 - cs.length)), 0) := by unfold parse; rw [if_neg (by omega), h]
theorem pow16 (k : Nat) (h : k ≤ 13) : (16 : Nat) ^ k ≤ 4503599627370496 := by
  have : (16 : Nat) ^ k ≤ 16 ^ 13 := Nat.pow_le_pow_right (by omega) h
  omega
theorem shifted (v n : Nat) (h1 : n ≤ 14) (h : v < 16 ^ n) : v * 2 ^ (4 * (14 - n)) < 72057594037927936 := by
  have e : (16 : Nat) ^ n * 2 ^ (4 * (14 - n)) = 72057594037927936 := by
    rw [show (16 : Nat) = 2 ^ 4 from rfl, ← Nat.pow_mul, ← Nat.pow_add, show 4 * n + 4 * (14 - n) = 56 by omega]
  rw [← e]
  exact Nat.mul_lt_mul_of_pos_right h (Nat.two_pow_pos _)

def number (lo rv : Nat) : Nat := if 1 ≤ rv ∧ rv ≤ 72057594037927936 then rv - 1 else lo % 72057594037927936

theorem share_more {a b n : Nat} (h : a ≤ b) : share a n ≤ share b n := Nat.div_le_div_right (Nat.mul_le_mul_left _ h)
theorem share_of_more {a n m : Nat} (h0 : 0 < n) (h : n ≤ m) : share a m ≤ share a n := Nat.div_le_div_left h h0
theorem share_all {n : Nat} (h0 : 0 < n) : share n n = 72057594037927936 := Nat.mul_div_cancel _ h0

end Go.Proofs.ProbMath
