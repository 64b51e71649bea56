/-
  Plain mathematics of layer 9: the threshold of a target and a count, the middle of three, how far a threshold may go. No condition; no program is named here.
-/
import Derived.Test.YtkhbodlffhfmnaaDoorProbMath
namespace Go.Proofs.RtMath
open Go.Proofs.ProbMath

/-- By what threshold no more than t of c are kept. -/
def byN (t c : Nat) : Nat := if c ≤ t then 0 else 72057594037927936 - share t c
theorem byN_le (t c : Nat) : byN t c ≤ 72057594037927936 := by unfold byN; split <;> omega
theorem byN_0 {t c : Nat} (h : c ≤ t) : byN t c = 0 := if_pos h
/-- No less than lo, and then no more than hi. -/
def mid (t lo hi : Nat) : Nat := min (max t lo) hi
/-- How many of all may be kept at most, and at least. -/
def most (k n : Nat) : Nat := if k * n ≤ 72057594037927936 then k * n else 72057594037927936
def lst (k n : Nat) : Nat := max (k / n) 1
theorem most_le (k n : Nat) : most k n ≤ 72057594037927936 := by unfold most; split <;> omega
theorem lst_le {k n : Nat} (hk : k ≤ 72057594037927936) (h1 : 1 ≤ k) : lst k n ≤ 72057594037927936 := by
  have := Nat.div_le_self k n
  unfold lst; omega
/-- From one threshold toward another one. -/
def toward (a b n : Nat) : Nat := 72057594037927936 - mid (kept b) (lst (kept a) n) (most (kept a) n)
theorem mid_le {t lo hi : Nat} : mid t lo hi ≤ hi := by unfold mid; omega
theorem toward_le (a b n : Nat) : toward a b n ≤ 72057594037927936 := by unfold toward; omega
theorem room {k n : Nat} (hk : 1 ≤ k) : n ≤ 72057594037927936 / k ↔ k * n ≤ 72057594037927936 := by
  rw [Nat.le_div_iff_mul_le (by omega), Nat.mul_comm]
theorem room' {k n : Nat} (hn : 1 ≤ n) : k ≤ 72057594037927936 / n ↔ k * n ≤ 72057594037927936 := Nat.le_div_iff_mul_le (by omega)
theorem kept_pos {a : Nat} (h : a < 72057594037927936) : 1 ≤ kept a := by unfold kept; omega
theorem kept_le (a : Nat) : kept a ≤ 72057594037927936 := by unfold kept; omega
theorem lst_most {k n : Nat} (hk : k ≤ 72057594037927936) (h1 : 1 ≤ k) (hn : 1 ≤ n) : lst k n ≤ k ∧ k ≤ most k n := by
  have h2 := Nat.div_le_self k n
  have h3 := Nat.mul_le_mul_left k hn
  refine ⟨by unfold lst; omega, ?_⟩
  unfold most; split <;> omega
/-- It goes toward, never beyond. -/
theorem toward_between {a b n : Nat} (ha : a < 72057594037927936) (hb : b < 72057594037927936) (hn : 1 ≤ n) : min a b ≤ toward a b n ∧ toward a b n ≤ max a b := by
  obtain ⟨h1, h2⟩ := lst_most (kept_le a) (kept_pos ha) hn
  unfold toward mid
  have e1 : kept a = 72057594037927936 - a := rfl
  have e2 : kept b = 72057594037927936 - b := rfl
  omega
theorem toward_whole {a b : Nat} (ha : a < 72057594037927936) (hb : b < 72057594037927936) : toward a b 72057594037927936 = b := by
  have h1 := kept_pos ha
  have h2 := kept_le a
  have h3 := kept_pos hb
  have hl : lst (kept a) 72057594037927936 = 1 := by
    unfold lst
    have : kept a / 72057594037927936 ≤ 1 := Nat.div_le_of_le_mul (by omega)
    omega
  have hm : most (kept a) 72057594037927936 = 72057594037927936 := by
    unfold most
    split
    · omega
    · rfl
  unfold toward mid
  rw [hl, hm]
  have e2 : kept b = 72057594037927936 - b := rfl
  omega
theorem toward_one {a b : Nat} (ha : a < 72057594037927936) : toward a b 1 = a := by
  have h1 := kept_pos ha
  have h2 := kept_le a
  have hl : lst (kept a) 1 = kept a := by unfold lst; rw [Nat.div_one]; omega
  have hm : most (kept a) 1 = kept a := by unfold most; rw [Nat.mul_one, if_pos h2]
  unfold toward mid
  rw [hl, hm]
  have e1 : kept a = 72057594037927936 - a := rfl
  omega
end Go.Proofs.RtMath
