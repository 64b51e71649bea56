/-
  Plain mathematics of hash's stirring: xor with a part of itself and its way back, products of odd numbers and theirs. No condition; no program is named here.
-/
import Derived.WalkKit
namespace Go.Proofs.HashMath

/-- xor with a part of itself. -/
def stir (s x : Nat) : Nat := x ^^^ x / 2 ^ s
/-- The way back, where three parts are more than all. -/
def unstir (s x : Nat) : Nat := x ^^^ (x ^^^ x / 2 ^ s) / 2 ^ s
def times (f x : Nat) : Nat := x * f % 18446744073709551616
def mix (x : Nat) : Nat := stir 31 (times 10723151780598845931 (stir 27 (times 13787848793156543929 (stir 30 x))))
def back (x : Nat) : Nat := unstir 30 (times 10871156337175269513 (unstir 27 (times 3573116690164977347 (unstir 31 x))))
/-- What a text's bytes make of a number. -/
def folds : Nat → List UInt8 → Nat
  | c, [] => c
  | c, x :: r => folds (times 1099511628211 (c ^^^ x.toNat)) r
def ofText (seed : Nat) (cs : List UInt8) : Nat := mix (folds (mix seed) cs ^^^ cs.length)

theorem xor64 {a b : Nat} (ha : a < 18446744073709551616) (hb : b < 18446744073709551616) : a ^^^ b < 18446744073709551616 := Nat.xor_lt_two_pow (n := 64) ha hb
theorem stir_lt (s : Nat) {x : Nat} (hx : x < 18446744073709551616) : stir s x < 18446744073709551616 := xor64 hx (Nat.lt_of_le_of_lt (Nat.div_le_self _ _) hx)
theorem unstir_lt (s : Nat) {x : Nat} (hx : x < 18446744073709551616) : unstir s x < 18446744073709551616 :=
  xor64 hx (Nat.lt_of_le_of_lt (Nat.div_le_self _ _) (stir_lt s hx))
theorem times_lt (f x : Nat) : times f x < 18446744073709551616 := Nat.mod_lt _ (by omega)
theorem mix_lt {x : Nat} (_ : x < 18446744073709551616) : mix x < 18446744073709551616 := stir_lt _ (times_lt _ _)
theorem back_lt {x : Nat} (_ : x < 18446744073709551616) : back x < 18446744073709551616 := unstir_lt _ (times_lt _ _)
theorem bit_out {x i : Nat} (hx : x < 18446744073709551616) (hi : 64 ≤ i) : x.testBit i = false :=
  Nat.testBit_lt_two_pow (Nat.lt_of_lt_of_le hx (show 2 ^ 64 ≤ 2 ^ i from Nat.pow_le_pow_right (by omega) hi))
theorem bit_stir (s x i : Nat) : (stir s x).testBit i = (x.testBit i ^^ x.testBit (i + s)) := by
  unfold stir
  rw [Nat.testBit_xor, Nat.testBit_div_two_pow]
theorem bit_unstir (s x i : Nat) : (unstir s x).testBit i = (x.testBit i ^^ (x.testBit (i + s) ^^ x.testBit (i + s + s))) := by
  unfold unstir
  rw [Nat.testBit_xor, Nat.testBit_div_two_pow, Nat.testBit_xor, Nat.testBit_div_two_pow]
theorem stir_unstir {s x : Nat} (hs : 22 ≤ s) (hx : x < 18446744073709551616) : stir s (unstir s x) = x := by
  refine Nat.eq_of_testBit_eq fun i => ?_
  rw [bit_stir, bit_unstir, bit_unstir, bit_out hx (show 64 ≤ i + s + s + s by omega)]
  cases x.testBit i <;> cases x.testBit (i + s) <;> cases x.testBit (i + s + s) <;> rfl
theorem unstir_stir {s x : Nat} (hs : 22 ≤ s) (hx : x < 18446744073709551616) : unstir s (stir s x) = x := by
  refine Nat.eq_of_testBit_eq fun i => ?_
  rw [bit_unstir, bit_stir, bit_stir, bit_stir, bit_out hx (show 64 ≤ i + s + s + s by omega)]
  cases x.testBit i <;> cases x.testBit (i + s) <;> cases x.testBit (i + s + s) <;> rfl
theorem times_times {f g x : Nat} (h : f * g % 18446744073709551616 = 1) (hx : x < 18446744073709551616) : times g (times f x) = x := by
  unfold times
  rw [Nat.mod_mul_mod, Nat.mul_assoc, Nat.mul_mod, h, Nat.mul_one, Nat.mod_mod, Nat.mod_eq_of_lt hx]
theorem back_mix {x : Nat} (hx : x < 18446744073709551616) : back (mix x) = x := by
  unfold back mix
  rw [unstir_stir (by omega) (times_lt _ _), times_times (by decide) (stir_lt _ (times_lt _ _)), unstir_stir (by omega) (times_lt _ _), times_times (by decide) (stir_lt _ hx), unstir_stir (by omega) hx]
theorem mix_back {x : Nat} (hx : x < 18446744073709551616) : mix (back x) = x := by
  unfold back mix
  rw [stir_unstir (by omega) (times_lt _ _), times_times (by decide) (unstir_lt _ (times_lt _ _)), stir_unstir (by omega) (times_lt _ _), times_times (by decide) (unstir_lt _ hx), stir_unstir (by omega) hx]
theorem mix_one {x y : Nat} (hx : x < 18446744073709551616) (hy : y < 18446744073709551616) (h : mix x = mix y) : x = y := by
  rw [← back_mix hx, ← back_mix hy, h]
theorem times_one {g f x y : Nat} (h : f * g % 18446744073709551616 = 1) (hx : x < 18446744073709551616) (hy : y < 18446744073709551616) (e : times f x = times f y) : x = y := by
  rw [← times_times h hx, ← times_times h hy, e]
theorem xor_cancel {a b c : Nat} (h : a ^^^ c = b ^^^ c) : a = b := by
  have : a ^^^ c ^^^ c = b ^^^ c ^^^ c := by rw [h]
  simpa [Nat.xor_assoc] using this
theorem xor_cancel' {a b c : Nat} (h : c ^^^ a = c ^^^ b) : a = b := xor_cancel (c := c) (by rw [Nat.xor_comm a, Nat.xor_comm b, h])

theorem folds_lt : ∀ (cs : List UInt8) {c : Nat}, c < 18446744073709551616 → folds c cs < 18446744073709551616
  | [], _, h => h
  | _ :: r, _, _ => folds_lt r (times_lt _ _)
theorem folds_append : ∀ (a b : List UInt8) (c : Nat), folds c (a ++ b) = folds (folds c a) b
  | [], _, _ => rfl
  | _ :: r, b, _ => folds_append r b _
theorem folds_snoc (a : List UInt8) (x : UInt8) (c : Nat) : folds c (a ++ [x]) = times 1099511628211 (folds c a ^^^ x.toNat) := by rw [folds_append]; rfl
theorem folds_next {cs : List UInt8} {k c : Nat} (h : k < cs.length) : folds c (cs.take (k + 1)) = times 1099511628211 (folds c (cs.take k) ^^^ (cs.getD k 0).toNat) := by
  rw [List.take_succ_eq_append_getElem h, folds_snoc]
  simp [h]
theorem of_lt (seed : Nat) (cs : List UInt8) : ofText seed cs < 18446744073709551616 := stir_lt _ (times_lt _ _)
/-- By unlike seeds nothing is unlike. -/
theorem of_seed {x y : Nat} (hx : x < 18446744073709551616) (hy : y < 18446744073709551616) (h : ofText x [] = ofText y []) : x = y := by
  unfold ofText at h
  have h1 := mix_one (xor64 (mix_lt hx) (by decide)) (xor64 (mix_lt hy) (by decide)) h
  exact mix_one hx hy (xor_cancel h1)
/-- Texts of one byte, by one seed. -/
theorem of_one {x : Nat} {a b : UInt8} (hx : x < 18446744073709551616) (h : ofText x [a] = ofText x [b]) : a = b := by
  unfold ofText at h
  have h1 := mix_one (xor64 (folds_lt _ (mix_lt hx)) (show 1 < 18446744073709551616 by omega)) (xor64 (folds_lt _ (mix_lt hx)) (show 1 < 18446744073709551616 by omega)) h
  have h2 := xor_cancel h1
  have ha := a.toNat_lt
  have hb := b.toNat_lt
  have h3 := times_one (g := 14886173955864302971) (f := 1099511628211) (by decide) (xor64 (mix_lt hx) (by omega)) (xor64 (mix_lt hx) (by omega)) h2
  exact UInt8.toNat_inj.1 (xor_cancel' h3)

/-- The document's way: digit by digit, the greatest first; o has the digits from i on. -/
theorem unstir_step {s x o d i : Nat} (hs : 22 ≤ s) (hx : x < 18446744073709551616) (ho : ∀ j, o.testBit j = (decide (i < j) && (unstir s x).testBit j)) (hd : d = (x.testBit i ^^ o.testBit (i + s)).toNat) :
    ∀ j, (o ||| d * 2 ^ i).testBit j = (decide (i ≤ j) && (unstir s x).testBit j) := by
  intro j
  have key : (unstir s x).testBit i = (x.testBit i ^^ (unstir s x).testBit (i + s)) := by
    have h := congrArg (·.testBit i) (stir_unstir hs hx)
    simp only [bit_stir] at h
    rw [← h]
    cases (unstir s x).testBit i <;> cases (unstir s x).testBit (i + s) <;> rfl
  have hoi : o.testBit (i + s) = (unstir s x).testBit (i + s) := by rw [ho]; simp; omega
  rw [hoi, ← key] at hd
  rw [Nat.testBit_or, ho, hd]
  rcases Nat.lt_trichotomy i j with h | h | h
  · have e : ((((unstir s x).testBit i).toNat) * 2 ^ i).testBit j = false := by
      cases (unstir s x).testBit i
      · simp
      · simp [Nat.testBit_two_pow]; omega
    simp [h, e, Nat.le_of_lt h]
  · subst h
    cases e : (unstir s x).testBit i <;> simp
  · have e : ((((unstir s x).testBit i).toNat) * 2 ^ i).testBit j = false := by
      cases (unstir s x).testBit i
      · simp
      · simp [Nat.testBit_two_pow]; omega
    simp [e, show ¬ i < j by omega, show ¬ i ≤ j by omega]
theorem unstir_end {s x o : Nat} (ho : ∀ j, o.testBit j = (unstir s x).testBit j) : o = unstir s x := Nat.eq_of_testBit_eq ho

/-- The document's inverse, digit by digit. -/
def invStep (n i out : Nat) : Nat := if out * n % 18446744073709551616 / 2 ^ i % 2 ≠ (if i = 0 then 1 else 0) then out ||| 2 ^ i else out
def invs (n : Nat) : Nat → Nat
  | 0 => 0
  | k + 1 => invStep n k (invs n k)
theorem inv1 : invs 13787848793156543929 64 = 10871156337175269513 := by decide +kernel
theorem inv2 : invs 10723151780598845931 64 = 3573116690164977347 := by decide +kernel
theorem step_lt {n i out : Nat} (hi : i < 64) (h : out < 18446744073709551616) : invStep n i out < 18446744073709551616 := by
  unfold invStep
  by_cases h1 : out * n % 18446744073709551616 / 2 ^ i % 2 ≠ (if i = 0 then 1 else 0)
  · rw [if_pos h1]
    exact Nat.or_lt_two_pow (n := 64) h (Nat.pow_lt_pow_right (by omega) hi)
  · rw [if_neg h1]
    exact h
theorem invs_lt (n : Nat) : ∀ k, k ≤ 64 → invs n k < 18446744073709551616
  | 0, _ => by show 0 < 18446744073709551616; omega
  | k + 1, h => step_lt (by omega) (invs_lt n k (by omega))
end Go.Proofs.HashMath
