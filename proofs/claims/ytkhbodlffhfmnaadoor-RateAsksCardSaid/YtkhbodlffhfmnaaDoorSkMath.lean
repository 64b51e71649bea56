/-
  Plain mathematics of sketches: the least of a key's cells, what an addition lays into them, sums that stop. No condition; no program is named here.
-/
import Derived.WalkKit
namespace Go.Proofs.SkMath

/-- The sum, or the greatest number. -/
def plus (a b : Nat) : Nat := if a + b < 18446744073709551616 then a + b else 18446744073709551615
theorem plus_lt (a b : Nat) : plus a b < 18446744073709551616 := by unfold plus; split <;> omega
theorem plus_le (a b : Nat) : plus a b ≤ a + b := by unfold plus; split <;> omega
theorem plus_small {a b : Nat} (h : a + b < 18446744073709551616) : plus a b = a + b := if_pos h
theorem plus_mono {a b : Nat} (n : Nat) (h : a ≤ b) : plus a n ≤ plus b n := by unfold plus; split <;> split <;> omega
theorem plus_up {a : Nat} (n : Nat) (h : a < 18446744073709551616) : a ≤ plus a n := by unfold plus; split <;> omega
theorem plus_zero {a : Nat} (h : a < 18446744073709551616) : plus a 0 = a := by unfold plus; split <;> omega
/-- The least of the first k rows' cells at these places. -/
def least (p : Nat → Nat) (f : Nat → Nat → Nat) : Nat → Nat
  | 0 => 18446744073709551615
  | k + 1 => min (least p f k) (f k (p k))
theorem least_lt (p : Nat → Nat) (f : Nat → Nat → Nat) : ∀ k, least p f k < 18446744073709551616
  | 0 => by unfold least; omega
  | k + 1 => by have := least_lt p f k; unfold least; omega
theorem least_le {p : Nat → Nat} {f : Nat → Nat → Nat} : ∀ {k i : Nat}, i < k → least p f k ≤ f i (p i)
  | k + 1, i, h => by
    by_cases e : i = k
    · subst e; unfold least; omega
    · have := least_le (p := p) (f := f) (k := k) (i := i) (by omega)
      unfold least; omega
theorem le_least {p : Nat → Nat} {f : Nat → Nat → Nat} {x : Nat} (hx : x < 18446744073709551616) : ∀ {k : Nat}, (∀ i, i < k → x ≤ f i (p i)) → x ≤ least p f k
  | 0, _ => by unfold least; omega
  | k + 1, h => by
    have h1 := le_least hx (k := k) fun i hi => h i (by omega)
    have h2 := h k (by omega)
    unfold least; omega
theorem least_congr {p : Nat → Nat} {f g : Nat → Nat → Nat} : ∀ {k : Nat}, (∀ i, i < k → f i (p i) = g i (p i)) → least p f k = least p g k
  | 0, _ => rfl
  | k + 1, h => by unfold least; rw [least_congr (k := k) fun i hi => h i (by omega), h k (by omega)]
/-- The cells when the first k rows' ones at these places are at least m. -/
def upd (p : Nat → Nat) (m : Nat) (f : Nat → Nat → Nat) (k i j : Nat) : Nat := if i < k ∧ j = p i then max (f i j) m else f i j
theorem upd_0 (p : Nat → Nat) (m : Nat) (f : Nat → Nat → Nat) : upd p m f 0 = f := by
  funext i j
  unfold upd
  rw [if_neg (by omega)]
theorem upd_lt {p : Nat → Nat} {m : Nat} {f : Nat → Nat → Nat} (hm : m < 18446744073709551616) (hf : ∀ i j, f i j < 18446744073709551616) (k i j : Nat) : upd p m f k i j < 18446744073709551616 := by
  have := hf i j
  unfold upd
  split <;> omega
theorem upd_here (p : Nat → Nat) (m : Nat) (f : Nat → Nat → Nat) (k j : Nat) : upd p m f k k j = f k j := by
  unfold upd
  rw [if_neg (by omega)]
theorem upd_next (p : Nat → Nat) (m : Nat) (f : Nat → Nat → Nat) (k : Nat) : upd p m f (k + 1) k (p k) = max (f k (p k)) m := by
  unfold upd
  rw [if_pos ⟨by omega, rfl⟩]
theorem upd_other {p : Nat → Nat} {m : Nat} {f : Nat → Nat → Nat} {k i j : Nat} (h : ¬ (i = k ∧ j = p k)) : upd p m f (k + 1) i j = upd p m f k i j := by
  unfold upd
  by_cases e : i < k ∧ j = p i
  · rw [if_pos e, if_pos ⟨by omega, e.2⟩]
  · rw [if_neg e, if_neg]
    rintro ⟨h1, h2⟩
    by_cases e2 : i = k
    · subst e2; exact h ⟨rfl, h2⟩
    · exact e ⟨by omega, h2⟩
/-- What an addition of n at these places does to r rows. -/
def add (r : Nat) (p : Nat → Nat) (n : Nat) (f : Nat → Nat → Nat) : Nat → Nat → Nat := upd p (plus (least p f r) n) f r
theorem add_lt {r : Nat} {p : Nat → Nat} {n : Nat} {f : Nat → Nat → Nat} (hf : ∀ i j, f i j < 18446744073709551616) (i j : Nat) : add r p n f i j < 18446744073709551616 := upd_lt (plus_lt _ _) hf _ _ _
theorem add_up {r : Nat} {p : Nat → Nat} {n : Nat} {f : Nat → Nat → Nat} (i j : Nat) : f i j ≤ add r p n f i j := by
  unfold add upd
  split <;> omega
theorem add_in {r : Nat} {p : Nat → Nat} {n : Nat} {f : Nat → Nat → Nat} {i : Nat} (h : i < r) : add r p n f i (p i) = max (f i (p i)) (plus (least p f r) n) := by
  unfold add upd
  rw [if_pos ⟨h, rfl⟩]
/-- Nothing is added: nothing turns. -/
theorem add_none {r : Nat} {p : Nat → Nat} {f : Nat → Nat → Nat} : add r p 0 f = f := by
  funext i j
  unfold add upd
  split
  · rename_i h
    obtain ⟨h1, rfl⟩ := h
    rw [plus_zero (least_lt _ _ _)]
    have := least_le (p := p) (f := f) h1
    omega
  · rfl
/-- No cell is above all together. -/
theorem add_all {r : Nat} {p : Nat → Nat} {n all : Nat} {f : Nat → Nat → Nat} (hf : ∀ i j, f i j ≤ all) (i j : Nat) : add r p n f i j ≤ all + n := by
  have := hf i j
  unfold add upd
  split
  · rename_i h
    obtain ⟨h1, rfl⟩ := h
    have h2 := least_le (p := p) (f := f) h1
    have h3 := hf i (p i)
    have h4 := plus_le (least p f r) n
    omega
  · omega
/-- What was added of a key is in its cells. -/
theorem add_has {r : Nat} {p : Nat → Nat} {n x : Nat} {f : Nat → Nat → Nat} (hx : x + n < 18446744073709551616) (hf : ∀ i, i < r → x ≤ f i (p i)) {i : Nat} (hi : i < r) : x + n ≤ add r p n f i (p i) := by
  rw [add_in hi]
  have h1 := le_least (p := p) (f := f) (x := x) (by omega) (k := r) hf
  have h2 : x + n ≤ plus (least p f r) n := by unfold plus; split <;> omega
  omega
/-- The first row of one with more rows is no higher. -/
theorem add_first {r : Nat} {p q : Nat → Nat} {n : Nat} {f g : Nat → Nat → Nat} (hr : 1 ≤ r) (hpq : p 0 = q 0) (hg : ∀ i j, g i j < 18446744073709551616) (h : ∀ j, f 0 j ≤ g 0 j) (j : Nat) : add r p n f 0 j ≤ add 1 q n g 0 j := by
  unfold add upd
  by_cases e : j = p 0
  · subst e
    rw [if_pos ⟨by omega, rfl⟩, if_pos ⟨by omega, hpq⟩]
    have h1 := h (p 0)
    have h2 := least_le (p := p) (f := f) (k := r) (i := 0) (by omega)
    have h3 : least q g 1 = g 0 (q 0) := by
      have := hg 0 (q 0)
      unfold least least; omega
    rw [h3, ← hpq]
    have h4 := plus_mono n (Nat.le_trans h2 h1)
    omega
  · rw [if_neg (fun hh => e hh.2), if_neg (fun hh => e (hpq ▸ hh.2))]
    exact h j
/-- One key alone. -/
theorem least_alone {r : Nat} {p : Nat → Nat} {f : Nat → Nat → Nat} {x : Nat} (hr : 1 ≤ r) (hx : x < 18446744073709551616) (h : ∀ i, i < r → f i (p i) = x) : least p f r = x := by
  have h1 := le_least (p := p) (f := f) hx (k := r) fun i hi => by rw [h i hi]; exact Nat.le_refl _
  have h2 := least_le (p := p) (f := f) (k := r) (i := 0) (by omega)
  rw [h 0 (by omega)] at h2
  omega
theorem add_alone {r : Nat} {p : Nat → Nat} {f : Nat → Nat → Nat} {x n : Nat} (hr : 1 ≤ r) (hx : x < 18446744073709551616) (h : ∀ i, i < r → f i (p i) = x) {i : Nat} (hi : i < r) : add r p n f i (p i) = plus x n := by
  rw [add_in hi, least_alone hr hx h, h i hi]
  have := plus_up n hx
  omega

/-- Two cells of rows that lie one behind the other. -/
theorem spot_one {w i j k q : Nat} (hj : j < w) (hq : q < w) (h : i * w + j = k * w + q) : i = k ∧ j = q := by
  have h1 : (i * w + j) / w = i := by rw [Nat.mul_comm, Nat.mul_add_div (by omega), Nat.div_eq_of_lt hj]; omega
  have h2 : (k * w + q) / w = k := by rw [Nat.mul_comm, Nat.mul_add_div (by omega), Nat.div_eq_of_lt hq]; omega
  have e : i = k := by rw [← h1, ← h2, h]
  subst e
  exact ⟨rfl, by omega⟩
theorem spot_lt {r w i j : Nat} (hi : i < r) (hj : j < w) : i * w + j < r * w := by
  have := Nat.mul_le_mul_right w (show i + 1 ≤ r from hi)
  rw [Nat.add_mul] at this
  omega
end Go.Proofs.SkMath
