/-
  Plain mathematics of layer 4: numbers as hexadecimal digits, a parent's text piece by piece. No program is named here.
-/
import Derived.WalkKit
namespace Go.Proofs.CtxMath

/-- The sign of a digit, and the digit of a sign. -/
def hexd (d : Nat) : UInt8 := UInt8.ofNat (if d < 10 then 48 + d else 87 + d)
def unhex (c : UInt8) : Option Nat := if 48 ≤ c.toNat ∧ c.toNat ≤ 57 then some (c.toNat - 48) else if 97 ≤ c.toNat ∧ c.toNat ≤ 102 then some (c.toNat - 87) else none
/-- The number that digits tell, what 64 binary digits don't hold lost. -/
def hexOn : List UInt8 → Nat → Option Nat
  | [], v => some v
  | c :: r, v => match unhex c with
    | none => none
    | some d => hexOn r ((v * 16 + d) % 18446744073709551616)
def hexNum (cs : List UInt8) : Option Nat := hexOn cs 0
theorem unhex_lt {c : UInt8} {d : Nat} (h : unhex c = some d) : d < 16 := by
  unfold unhex at h
  split at h
  · injection h with h; omega
  · split at h
    · injection h with h; omega
    · cases h
theorem hexOn_none {cs : List UInt8} {k v : Nat} {c : UInt8} (hk : k < cs.length) (hc : cs.getD k 0 = c) (h : unhex c = none) : hexOn (cs.drop k) v = none := by
  rw [List.drop_eq_getElem_cons hk]
  have : cs[k] = c := by rw [← hc]; simp [hk]
  rw [this, hexOn, h]
theorem hexOn_some {cs : List UInt8} {k v d : Nat} {c : UInt8} (hk : k < cs.length) (hc : cs.getD k 0 = c) (h : unhex c = some d) : hexOn (cs.drop k) v = hexOn (cs.drop (k + 1)) ((v * 16 + d) % 18446744073709551616) := by
  rw [List.drop_eq_getElem_cons hk]
  have : cs[k] = c := by rw [← hc]; simp [hk]
  rw [this, hexOn, h]
theorem hexOn_lt : ∀ (cs : List UInt8) (v n : Nat), v < 18446744073709551616 → hexOn cs v = some n → n < 18446744073709551616
  | [], v, n, hv, h => by injection h with h; omega
  | c :: r, v, n, hv, h => by
    rw [hexOn] at h
    cases hu : unhex c with
    | none => rw [hu] at h; cases h
    | some d => rw [hu] at h; exact hexOn_lt r _ n (Nat.mod_lt _ (by omega)) h
theorem hexNum_lt {cs : List UInt8} {n : Nat} (h : hexNum cs = some n) : n < 18446744073709551616 := hexOn_lt cs 0 n (by omega) h

/-- The j-th of sixteen digits; all of them; the last so many. -/
def dig (n j : Nat) : Nat := n / 16 ^ (15 - j) % 16
def full (n : Nat) : List UInt8 := (List.range 16).map fun j => hexd (dig n j)
def last (n size : Nat) : List UInt8 := (full n).drop (16 - size)
theorem full_len (n : Nat) : (full n).length = 16 := by simp [full]
theorem full_get (n j : Nat) (h : j < 16) : (full n).getD j 0 = hexd (dig n j) := by simp [full, List.getD, h]
theorem dig_lt (n j : Nat) : dig n j < 16 := Nat.mod_lt _ (by omega)
theorem last_len (n size : Nat) (h : size ≤ 16) : (last n size).length = size := by simp [last, full_len]; omega
theorem last_get (n size j : Nat) (h : size ≤ 16) (hj : j < size) : (last n size).getD j 0 = hexd (dig n (16 - size + j)) := by
  rw [← full_get n (16 - size + j) (by omega)]
  unfold last
  simp [List.getD_eq_getElem?_getD]
/-- What lies in the array when i digits are laid, the last first. -/
def laidAt (n i j : Nat) : UInt8 := if 16 ≤ j + i ∧ j < 16 then hexd (dig n j) else 0
theorem laidAt_step (n i : Nat) (hi : i < 16) : laidAt n (i + 1) (15 - i) = hexd (dig n (15 - i)) ∧ ∀ j, j ≠ 15 - i → laidAt n (i + 1) j = laidAt n i j := by
  refine ⟨by unfold laidAt; rw [if_pos (by omega)], fun j hj => ?_⟩
  unfold laidAt
  by_cases e : 16 ≤ j + i ∧ j < 16
  · rw [if_pos e, if_pos (by omega)]
  · rw [if_neg e, if_neg (by omega)]
theorem laidAt_none (n j : Nat) : laidAt n 0 j = 0 := by unfold laidAt; rw [if_neg (by omega)]
theorem laidAt_all (n j : Nat) (h : j < 16) : laidAt n 16 j = hexd (dig n j) := by unfold laidAt; rw [if_pos (by omega)]

/-- A piece of a parent's text: what stands ahead, so many digits; the number and the rest. -/
def piece (ahead : List UInt8) (size : Nat) (cs : List UInt8) : Option (Nat × List UInt8) :=
  if ahead.isPrefixOf cs = true then
    (if (cs.drop ahead.length).length < size then none
     else (hexNum ((cs.drop ahead.length).take size)).map fun n => (n, (cs.drop ahead.length).drop size))
  else none
end Go.Proofs.CtxMath
