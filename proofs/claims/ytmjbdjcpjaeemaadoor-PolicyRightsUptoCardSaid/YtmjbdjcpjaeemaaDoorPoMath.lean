/-
  Layer 12's rules as plain answers, and rules and spans in memory.
-/
import Derived.Deep.QuietTactic
import Derived.BigQuiet
import Derived.Test.YtmjbdjcpjaeemaaDoorPoMem
namespace Go.Proofs.YtmjbdjcpjaeemaaDoor
open Go.RowKit

/-- A rule, as the program has it. -/
structure Ru where
  kind : Nat
  a : Int
  key : ByteArray
  val : ByteArray
def ru0 : Ru := ⟨0, 0, none8, none8⟩
def sp0 : Sp := ⟨0, 0, 0, 0, none8, 0, 0, false, [], 0⟩
def ruCells (r : Ru) : Array Value := #[.int .u8 (r.kind : Int), .int .i64 r.a, .string r.key, .string r.val]
def keep (r t : Nat) : Bool := decide (r < 72057594037927936) && decide (t ≤ r)
/-- The least beginning, the last end, of the first i (of the first, if i is 0). -/
def lowN (l : List Sp) : Nat → Int
  | 0 => (l.getD 0 sp0).start
  | i + 1 => if (l.getD i sp0).start < lowN l i then (l.getD i sp0).start else lowN l i
def highN (l : List Sp) : Nat → Int
  | 0 => (l.getD 0 sp0).stop
  | i + 1 => if highN l i < (l.getD i sp0).stop then (l.getD i sp0).stop else highN l i
def lenM (l : List Sp) : Int := if l.length = 0 then 0 else wrap64 (highN l l.length - lowN l l.length)
def eqT (a b : ByteArray) : Bool := a.toList == b.toList
def attrM (r : Ru) (t : Attr) : Bool := eqT t.1 r.key && eqT t.2 r.val
def hasM (r : Ru) (s : Sp) : Bool := s.attrs.any (attrM r)
/-- Does a rule hold? -/
def holdsM (r : Ru) (l : List Sp) (n : Nat) : Bool :=
  if r.kind = 1 then decide (0 < l.length) && decide (r.a ≤ lenM l)
  else if r.kind = 2 then l.any (fun s => s.bad)
  else if r.kind = 3 then l.any (hasM r)
  else if r.kind = 4 then decide (r.a ≤ (l.length : Int))
  else if r.kind = 5 then decide (0 ≤ r.a) && keep n r.a.toNat
  else false
def allM (row : List Ru) (l : List Sp) (n : Nat) : Bool := row.all fun r => holdsM r l n
/-- The place of the first that is so; -1, if none is. -/
def idx {α : Type} (p : α → Bool) (l : List α) : Int := if l.findIdx p < l.length then (l.findIdx p : Int) else -1
def whichM (ls : List (List Ru)) (l : List Sp) (n : Nat) : Int := idx (fun row => allM row l n) ls
theorem getD_get {α : Type} {l : List α} {i : Nat} (h : i < l.length) (d : α) : l.getD i d = l[i] := by simp [List.getD, h]
theorem idx_at {α : Type} {p : α → Bool} {l : List α} {i : Nat} (d : α) (h : i < l.length) (hb : ∀ j, j < i → p (l.getD j d) = false) (hp : p (l.getD i d) = true) : idx p l = (i : Int) := by
  have : l.findIdx p = i := (List.findIdx_eq h).2 ⟨by rw [← getD_get h d]; exact hp, fun j hj => by rw [← getD_get (by omega) d]; exact hb j hj⟩
  unfold idx
  rw [this, if_pos h]
theorem idx_none {α : Type} {p : α → Bool} {l : List α} (d : α) (hb : ∀ j, j < l.length → p (l.getD j d) = false) : idx p l = -1 := by
  unfold idx
  rw [if_neg]
  intro h
  have := List.findIdx_getElem (w := h)
  rw [← getD_get h d, hb _ h] at this
  cases this
theorem idx_any {α : Type} (p : α → Bool) (l : List α) : decide (0 ≤ idx p l) = l.any p := by
  unfold idx
  by_cases h : l.findIdx p < l.length
  · rw [if_pos h]
    have h2 := List.findIdx_getElem (w := h)
    have : l.any p = true := List.any_eq_true.2 ⟨_, List.getElem_mem h, h2⟩
    rw [this]; simp
  · rw [if_neg h]
    have : l.any p = false := by
      rw [List.any_eq_false]
      intro x hx hp
      exact h (List.findIdx_lt_length_of_exists ⟨x, hx, by simpa using hp⟩)
    rw [this]; rfl
theorem idx_ge {α : Type} (p : α → Bool) (l : List α) : -1 ≤ idx p l ∧ idx p l ≤ l.length := by
  unfold idx
  split <;> omega
/-- May a rule be; may rows of them be? -/
def textsM (r : Ru) : Bool := if r.kind = 3 then !r.key.toList.isEmpty && (decide (r.key.size ≤ 60) && decide (r.val.size ≤ 60)) else r.key.toList.isEmpty && r.val.toList.isEmpty
def mostM (k : Nat) : Int := if k = 5 then 72057594037927936 else if k = 1 ∨ k = 4 then 9223372036854775807 else 0
def rightM (r : Ru) : Bool := decide (1 ≤ r.kind) && decide (r.kind ≤ 5) && decide (0 ≤ r.a) && decide (r.a ≤ mostM r.kind) && textsM r
def sumM (ls : List (List Ru)) : Nat := (ls.map List.length).sum
def rightsM (ls : List (List Ru)) : Bool := ls.all (fun row => decide (0 < row.length) && row.all rightM) && decide (sumM ls ≤ 20)

/-- Rules that lie somewhere. -/
def HoldsR (n₀ : Nat) (W : World) (A : Option Addr) (l : List Ru) : Prop :=
  0 < l.length → ∃ b off, A = some ⟨b, off, none⟩ ∧ b < n₀ ∧ ∀ j, j < l.length → W.cell? ⟨b, off + j * 4, none⟩ = some (.int .u8 ((l.getD j ru0).kind : Int)) ∧ W.cell? ⟨b, off + j * 4 + 1, none⟩ = some (.int .i64 (l.getD j ru0).a) ∧ W.cell? ⟨b, off + j * 4 + 2, none⟩ = some (.string (l.getD j ru0).key) ∧ W.cell? ⟨b, off + j * 4 + 3, none⟩ = some (.string (l.getD j ru0).val)
theorem HoldsR.below {n₀ : Nat} {W W' : World} {A : Option Addr} {l : List Ru} (h : HoldsR n₀ W A l) (hb : Below n₀ W W') : HoldsR n₀ W' A l := fun h0 => by
  obtain ⟨b, off, e, hlt, hj⟩ := h h0
  refine ⟨b, off, e, hlt, fun j hj' => ?_⟩
  obtain ⟨h1, h2, h3, h4⟩ := hj j hj'
  exact ⟨(hb.cell (p := ⟨b, off + j * 4, none⟩) hlt).trans h1, (hb.cell (p := ⟨b, off + j * 4 + 1, none⟩) hlt).trans h2, (hb.cell (p := ⟨b, off + j * 4 + 2, none⟩) hlt).trans h3, (hb.cell (p := ⟨b, off + j * 4 + 3, none⟩) hlt).trans h4⟩
theorem HoldsR.mono {n₀ n₁ : Nat} {W : World} {A : Option Addr} {l : List Ru} (h : HoldsR n₀ W A l) (hn : n₀ ≤ n₁) : HoldsR n₁ W A l := fun h0 => by
  obtain ⟨b, off, e, hlt, hj⟩ := h h0
  exact ⟨b, off, e, by omega, hj⟩
theorem HoldsR.later {W W' : World} {A : Option Addr} {l : List Ru} (h : HoldsR W.heap.size W A l) (hb : Below W.heap.size W W') : HoldsR W'.heap.size W' A l := (h.below hb).mono hb.size
/-- Rows of rules that lie somewhere. -/
def HoldsRR (n₀ : Nat) (W : World) (A : Option Addr) (ls : List (List Ru)) : Prop :=
  0 < ls.length → ∃ b off, A = some ⟨b, off, none⟩ ∧ b < n₀ ∧ ∀ j, j < ls.length → ∃ B c, W.cell? ⟨b, off + j, none⟩ = some (.slice B (ls.getD j []).length c) ∧ HoldsR n₀ W B (ls.getD j [])
theorem HoldsRR.below {n₀ : Nat} {W W' : World} {A : Option Addr} {ls : List (List Ru)} (h : HoldsRR n₀ W A ls) (hb : Below n₀ W W') : HoldsRR n₀ W' A ls := fun h0 => by
  obtain ⟨b, off, e, hlt, hj⟩ := h h0
  refine ⟨b, off, e, hlt, fun j hj' => ?_⟩
  obtain ⟨B, c, h1, h2⟩ := hj j hj'
  exact ⟨B, c, (hb.cell (p := ⟨b, off + j, none⟩) hlt).trans h1, h2.below hb⟩
theorem HoldsRR.mono {n₀ n₁ : Nat} {W : World} {A : Option Addr} {ls : List (List Ru)} (h : HoldsRR n₀ W A ls) (hn : n₀ ≤ n₁) : HoldsRR n₁ W A ls := fun h0 => by
  obtain ⟨b, off, e, hlt, hj⟩ := h h0
  refine ⟨b, off, e, by omega, fun j hj' => ?_⟩
  obtain ⟨B, c, h1, h2⟩ := hj j hj'
  exact ⟨B, c, h1, h2.mono hn⟩
theorem HoldsRR.later {W W' : World} {A : Option Addr} {ls : List (List Ru)} (h : HoldsRR W.heap.size W A ls) (hb : Below W.heap.size W W') : HoldsRR W'.heap.size W' A ls := (h.below hb).mono hb.size
/-- A span that lies at a place. -/
def SpAt (n₀ : Nat) (W : World) (b o : Nat) (s : Sp) : Prop :=
  ∃ B c, W.cell? ⟨b, o, none⟩ = some (.int .u64 (s.hi : Int)) ∧ W.cell? ⟨b, o + 1, none⟩ = some (.int .u64 (s.lo : Int)) ∧ W.cell? ⟨b, o + 2, none⟩ = some (.int .u64 (s.id : Int)) ∧ W.cell? ⟨b, o + 3, none⟩ = some (.int .u64 (s.par : Int)) ∧ W.cell? ⟨b, o + 4, none⟩ = some (.string s.name) ∧ W.cell? ⟨b, o + 5, none⟩ = some (.int .i64 s.start) ∧ W.cell? ⟨b, o + 6, none⟩ = some (.int .i64 s.stop) ∧ W.cell? ⟨b, o + 7, none⟩ = some (.bool s.bad) ∧ W.cell? ⟨b, o + 8, none⟩ = some (.slice B s.attrs.length c) ∧ W.cell? ⟨b, o + 9, none⟩ = some (.int .u64 (s.rv : Int)) ∧ HoldsA n₀ W B s.attrs
/-- Spans that lie somewhere. -/
def HoldsS (n₀ : Nat) (W : World) (A : Option Addr) (l : List Sp) : Prop :=
  0 < l.length → ∃ b off, A = some ⟨b, off, none⟩ ∧ b < n₀ ∧ ∀ j, j < l.length → SpAt n₀ W b (off + j * 10) (l.getD j sp0)
theorem HoldsS.below {n₀ : Nat} {W W' : World} {A : Option Addr} {l : List Sp} (h : HoldsS n₀ W A l) (hb : Below n₀ W W') : HoldsS n₀ W' A l := fun h0 => by
  obtain ⟨b, off, e, hlt, hj⟩ := h h0
  refine ⟨b, off, e, hlt, fun j hj' => ?_⟩
  obtain ⟨B, c, h1, h2, h3, h4, h5, h6, h7, h8, h9, h10, h11⟩ := hj j hj'
  have t : ∀ k, W'.cell? ⟨b, k, none⟩ = W.cell? ⟨b, k, none⟩ := fun k => hb.cell (p := ⟨b, k, none⟩) hlt
  exact ⟨B, c, (t _).trans h1, (t _).trans h2, (t _).trans h3, (t _).trans h4, (t _).trans h5, (t _).trans h6, (t _).trans h7, (t _).trans h8, (t _).trans h9, (t _).trans h10, h11.below hb⟩
theorem HoldsS.mono {n₀ n₁ : Nat} {W : World} {A : Option Addr} {l : List Sp} (h : HoldsS n₀ W A l) (hn : n₀ ≤ n₁) : HoldsS n₁ W A l := fun h0 => by
  obtain ⟨b, off, e, hlt, hj⟩ := h h0
  refine ⟨b, off, e, by omega, fun j hj' => ?_⟩
  obtain ⟨B, c, h1, h2, h3, h4, h5, h6, h7, h8, h9, h10, h11⟩ := hj j hj'
  exact ⟨B, c, h1, h2, h3, h4, h5, h6, h7, h8, h9, h10, h11.mono hn⟩
theorem HoldsS.later {W W' : World} {A : Option Addr} {l : List Sp} (h : HoldsS W.heap.size W A l) (hb : Below W.heap.size W W') : HoldsS W'.heap.size W' A l := (h.below hb).mono hb.size
theorem draws {B : Nat} {a w : World} (h : Below B a w) (n : Nat) : Below B a (w.drewN n) := ⟨h.os, h.tape, h.output, h.size, h.block⟩

theorem keep_any (r t : Nat) (w : World) : Calls Tryd.prog 48 #[.int .u64 (r : Int), .int .u64 (t : Int)] w fun e w' => e = .returned (.bool (keep r t)) ∧ w = w' := by
  by_cases h1 : r < 72057594037927936
  · have d : decide ((r : Int) < 72057594037927936) = true := by simp; omega
    have hres : decide (t ≤ r) = keep r t := by unfold keep; simp [h1]
    have H := Lib.hid hres
    clear hres
    go_enter Tryd.func48, Tryd.ntmps48
    go_wp2_with fail
    all_goals
      go_ret
      exact ⟨ret_b (by rw [← H.out]), rfl⟩
  · have d : decide ((r : Int) < 72057594037927936) = false := by simp; omega
    have hres : false = keep r t := by unfold keep; simp [h1]
    have H := Lib.hid hres
    clear hres
    go_enter Tryd.func48, Tryd.ntmps48
    go_wp2_with fail
    all_goals
      go_ret
      exact ⟨ret_b H.out, rfl⟩
/-- policy's known. -/
theorem kind_any (k : Nat) (w : World) : Calls Tryd.prog 25 #[.int .u8 (k : Int)] w fun e w' => e = .returned (.bool (decide (1 ≤ k) && decide (k ≤ 5))) ∧ w = w' := by
  by_cases h1 : 0 < k
  · have d : decide ((0 : Int) < (k : Int)) = true := by simp; omega
    have dn : decide (0 < k) = true := by simp; omega
    obtain ⟨b, hb⟩ : ∃ b, decide ((k : Int) < 6) = b := ⟨_, rfl⟩
    have hbn : decide (k < 6) = b := by rw [← hb]; simp; omega
    have hres : b = (decide (1 ≤ k) && decide (k ≤ 5)) := by rw [← hbn, Bool.eq_iff_iff]; simp; omega
    have H := Lib.hid hres
    clear hres h1
    go_enter Tryd.func25, Tryd.ntmps25
    go_wp2_with fail
    go_ret
    exact ⟨ret_b H.out, rfl⟩
  · have d : decide ((0 : Int) < (k : Int)) = false := by simp; omega
    have dn : decide (0 < k) = false := by simp; omega
    have hres : false = (decide (1 ≤ k) && decide (k ≤ 5)) := by rw [Bool.eq_iff_iff]; simp; omega
    have H := Lib.hid hres
    clear hres h1
    go_enter Tryd.func25, Tryd.ntmps25
    go_wp2_with fail
    go_ret
    exact ⟨ret_b H.out, rfl⟩
end Go.Proofs.YtmjbdjcpjaeemaaDoor
