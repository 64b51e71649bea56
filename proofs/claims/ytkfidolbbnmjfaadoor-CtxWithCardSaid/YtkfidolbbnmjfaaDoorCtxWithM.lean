/-
  Plain mathematics of layer 4: marks laid, a state with others. No program is named here.
-/
import Derived.Test.YtkfidolbbnmjfaaDoorCtxState
import Derived.Lib.Join
import Derived.Lib.TrimByte
namespace Go.Proofs.CtxState
open Go

/-- May a state tell these marks? -/
def areM (a : Bool) (t : Nat) (b : Bool) (r : Nat) : Bool := decide (t < 72057594037927936) && decide (r < 72057594037927936) && (a || decide (t = 0)) && (b || decide (r = 0))
/-- A threshold's digits without noughts at the end; the first stays. -/
def shortL (t : Nat) : List UInt8 := (CtxMath.last t 14).take 1 ++ Lib.trimRightB ((CtxMath.last t 14).drop 1) 48
def partsL (a : Bool) (t : Nat) (b : Bool) (r : Nat) : List (List UInt8) := (if a then [[116, 104, 58] ++ shortL t] else []) ++ (if b then [[114, 118, 58] ++ CtxMath.last r 14] else [])
def laidM (a : Bool) (t : Nat) (b : Bool) (r : Nat) : List UInt8 := [111, 116, 61] ++ Lib.join (partsL a t b r) [59]
def membersW (a : Bool) (t : Nat) (b : Bool) (r : Nat) (oth : List (List UInt8)) : List (List UInt8) := (if a || b then [laidM a t b r] else []) ++ oth
def withOf (s : List UInt8) (a : Bool) (t : Nat) (b : Bool) (r : Nat) : List UInt8 × Nat :=
  if (readSt s).1 ≠ 0 then ([], (readSt s).1) else if areM a t b r = false then ([], 1) else
  if tooLong (Lib.join (membersW a t b r (readSt s).2.2) [44]) then ([], 3) else (Lib.join (membersW a t b r (readSt s).2.2) [44], 0)
theorem trim_len (l : List UInt8) (c : UInt8) : (Lib.trimRightB l c).length ≤ l.length := by
  unfold Lib.trimRightB
  rw [List.length_reverse]
  have := (List.dropWhile_sublist (fun x => x == c) (l := l.reverse)).length_le
  simpa using this
theorem short_len (t : Nat) : (shortL t).length ≤ 14 := by
  unfold shortL
  have h1 := trim_len ((CtxMath.last t 14).drop 1) 48
  have h2 := CtxMath.last_len t 14 (by omega)
  rw [List.length_append]
  simp only [List.length_take, List.length_drop] at h1 ⊢
  omega
theorem joinTail_len (sep : List UInt8) (B : Nat) : ∀ r : List (List UInt8), (∀ x ∈ r, x.length ≤ B) → (Lib.joinTail sep r).length ≤ r.length * (B + sep.length)
  | [], _ => by simp [Lib.joinTail]
  | x :: r, h => by
    have ih := joinTail_len sep B r (fun y hy => h y (List.mem_cons_of_mem _ hy))
    have hx := h x (by simp)
    unfold Lib.joinTail at ih ⊢
    rw [List.map_cons, List.flatten_cons, List.length_append, List.length_append, List.length_cons, Nat.succ_mul]
    omega
theorem join_len (sep : List UInt8) (B : Nat) (r : List (List UInt8)) (h : ∀ x ∈ r, x.length ≤ B) : (Lib.join r sep).length ≤ r.length * (B + sep.length) := by
  cases r with
  | nil => simp [Lib.join_nil]
  | cons x r =>
    rw [Lib.join_cons, List.length_append]
    have h1 := joinTail_len sep B r (fun y hy => h y (List.mem_cons_of_mem _ hy))
    have hx := h x (by simp)
    rw [List.length_cons, Nat.succ_mul]
    omega
theorem parts_len (a : Bool) (t : Nat) (b : Bool) (r : Nat) : (partsL a t b r).length ≤ 2 ∧ ∀ x ∈ partsL a t b r, x.length ≤ 17 := by
  have h1 := short_len t
  have h2 := CtxMath.last_len r 14 (by omega)
  unfold partsL
  cases a <;> cases b <;> simp <;> omega
theorem laidM_len (a : Bool) (t : Nat) (b : Bool) (r : Nat) : (Lib.join (partsL a t b r) [59]).length ≤ 36 ∧ (laidM a t b r).length ≤ 39 := by
  obtain ⟨h1, h2⟩ := parts_len a t b r
  have h3 := join_len [59] 17 _ h2
  simp only [List.length_singleton] at h3
  have h4 : (Lib.join (partsL a t b r) [59]).length ≤ 36 := by omega
  refine ⟨h4, ?_⟩
  unfold laidM
  rw [List.length_append]
  simp only [List.length_cons, List.length_nil]
  omega
theorem oth_lens (B : Nat) : ∀ (l : List (List UInt8 × List UInt8)) (st : St), (∀ x ∈ l, x.1.length ≤ B ∧ x.2.length ≤ B) → (∀ y ∈ st.oth, y.length ≤ 2 * B + 1) → ∀ y ∈ (l.foldl stStep st).oth, y.length ≤ 2 * B + 1
  | [], st, _, h => h
  | kv :: l, st, hl, h => by
    rw [List.foldl_cons]
    refine oth_lens B l _ (fun x hx => hl x (List.mem_cons_of_mem _ hx)) ?_
    have hk := hl kv (by simp)
    unfold stStep
    split
    · exact h
    · intro y hy
      rcases List.mem_append.1 hy with hy | hy
      · exact h y hy
      · rw [List.mem_singleton] at hy
        subst hy
        simp only [List.length_append, List.length_singleton]
        omega
/-- What a state's other members are no more, and no longer, than. -/
theorem read_lens (cs : List UInt8) : (readSt cs).2.2.length ≤ 513 ∧ ∀ y ∈ (readSt cs).2.2, y.length ≤ 1025 := by
  unfold readSt
  split
  · simp
  · rename_i hl
    split
    · simp
    · have hcs : cs.length ≤ 512 := by
        unfold tooLong at hl
        simp only [Bool.or_eq_true, decide_eq_true_eq, not_or] at hl
        omega
      refine ⟨?_, ?_⟩
      · have h1 := oth_count (members cs).1 st0
        have h2 := members_count cs
        have h3 : st0.oth.length = 0 := rfl
        show (foldS (members cs).1).oth.length ≤ 513
        unfold foldS
        omega
      · refine oth_lens 512 _ _ (fun x hx => ?_) (fun y hy => by cases hy)
        have := members_lens (s := bs cs) (pre := []) (x := x)
        unfold members at hx
        split at hx
        · cases hx
        · refine pairs_lens _ x 512 (fun y hy => ?_) (mem_sub _ _ _ _ hx)
          have := split_len 44 _ y hy
          omega
theorem membersW_lens (a : Bool) (t : Nat) (b : Bool) (r : Nat) (cs : List UInt8) : (Lib.join (membersW a t b r (readSt cs).2.2) [44]).length ≤ 1000000 ∧ (membersW a t b r (readSt cs).2.2).length ≤ 514 := by
  obtain ⟨h1, h2⟩ := read_lens cs
  have h3 := (laidM_len a t b r).2
  have hc : (membersW a t b r (readSt cs).2.2).length ≤ 514 := by
    unfold membersW
    rw [List.length_append]
    split <;> simp <;> omega
  have h4 := join_len [44] 1025 (membersW a t b r (readSt cs).2.2) (fun x hx => by
    unfold membersW at hx
    rcases List.mem_append.1 hx with hx | hx
    · split at hx
      · rw [List.mem_singleton] at hx; subst hx; omega
      · cases hx
    · exact h2 x hx)
  simp only [List.length_singleton] at h4
  refine ⟨?_, hc⟩
  have : (membersW a t b r (readSt cs).2.2).length * (1025 + 1) ≤ 514 * 1026 := Nat.mul_le_mul hc (Nat.le_refl _)
  omega
end Go.Proofs.CtxState
