/-
  Numbers of files: which are there, told by rising numbers. No memory.
-/
import Derived.Test.YtbfcjfeckonklaaProg
import Derived.Test.YtbfcjfeckonklaaDkMath
namespace Go.Proofs.DiskMath

def hasno (s : List Fi) (x : Nat) : Bool := s.any fun f => f.no == x
theorem hasno_ins (f : Fi) (s : List Fi) (x : Nat) : hasno (ins f s) x = (f.no == x || hasno s x) := by
  induction s with
  | nil => simp [ins, hasno]
  | cons g s ih =>
    rw [ins]
    split
    · simp [hasno]
    · split
      · rename_i h
        simp [hasno, h]
      · unfold hasno at ih ⊢
        rw [List.any_cons, ih, List.any_cons]
        cases f.no == x <;> cases g.no == x <;> simp
theorem hasno_write (s : List Fi) (no : Nat) (ys : List UInt8) (x : Nat) : hasno (write s no ys) x = (no == x || hasno s x) := hasno_ins _ _ _
theorem hasno_remove (s : List Fi) (k x : Nat) : hasno (remove s (k : Int)) x = (hasno s x && !(k == x)) := by
  unfold hasno remove
  rw [Bool.eq_iff_iff]
  simp only [List.any_eq_true, List.mem_filter, Bool.and_eq_true, Bool.not_eq_true', beq_iff_eq, decide_eq_false_iff_not, beq_eq_false_iff_ne, ne_eq]
  constructor
  · rintro ⟨f, ⟨h1, h2⟩, h3⟩
    exact ⟨⟨f, h1, h3⟩, by omega⟩
  · rintro ⟨⟨f, h1, h3⟩, h4⟩
    exact ⟨f, ⟨h1, by omega⟩, h3⟩
theorem seek_hasno (s : List Fi) (x : Nat) : (seek (x : Int) s).isSome = hasno s x := by
  induction s with
  | nil => rfl
  | cons f s ih =>
    rw [seek_cons]
    by_cases h : f.no = x
    · rw [if_pos (by omega)]
      simp [hasno, h]
    · rw [if_neg (by omega), ih]
      simp [hasno, h]
theorem hasno_mem (s : List Fi) (x : Nat) : hasno s x = true ↔ x ∈ s.map (·.no) := by
  simp [hasno]
/-- How many of them are lesser. -/
def cntL (l : List Nat) (i : Nat) : Nat := (l.filter fun a => decide (a < i)).length
theorem cntL_le (l : List Nat) (i : Nat) : cntL l i ≤ l.length := List.length_filter_le _ _
theorem cntL_zero (l : List Nat) : cntL l 0 = 0 := by
  unfold cntL
  rw [List.filter_eq_nil_iff.2 (by simp)]
  rfl
theorem cntL_in {l : List Nat} : ∀ {i : Nat}, l.Pairwise (· < ·) → i ∈ l → l[cntL l i]? = some i ∧ cntL l (i + 1) = cntL l i + 1 := by
  induction l with
  | nil => intro i _ h; simp at h
  | cons a l ih =>
    intro i hp hi
    have hr := List.pairwise_cons.1 hp
    by_cases e : i = a
    · subst e
      have h0 : l.filter (fun x => decide (x < i)) = [] := List.filter_eq_nil_iff.2 fun x hx => by have := hr.1 x hx; simp; omega
      have h1 : l.filter (fun x => decide (x < i + 1)) = [] := List.filter_eq_nil_iff.2 fun x hx => by have := hr.1 x hx; simp; omega
      unfold cntL
      rw [List.filter_cons, List.filter_cons, h0, h1]
      simp
    · have hm : i ∈ l := (List.mem_cons.1 hi).resolve_left e
      have hlt := hr.1 i hm
      obtain ⟨k1, k2⟩ := ih hr.2 hm
      unfold cntL at k1 k2 ⊢
      rw [List.filter_cons, List.filter_cons, if_pos (by simpa using hlt), if_pos (by simp; omega)]
      simp only [List.length_cons, List.getElem?_cons_succ]
      exact ⟨k1, by omega⟩
theorem cntL_out {l : List Nat} {i : Nat} (h : i ∉ l) : cntL l (i + 1) = cntL l i := by
  unfold cntL
  congr 1
  refine List.filter_congr fun x hx => ?_
  have : x ≠ i := fun e => h (e ▸ hx)
  exact decide_eq_decide.2 (by omega)
theorem cntL_all {l : List Nat} {n : Nat} (h : ∀ x ∈ l, x < n) : cntL l n = l.length := by
  unfold cntL
  rw [List.filter_eq_self.2 fun x hx => by simpa using h x hx]
/-- The table of what is there. -/
structure Th (C : Array Go.Value) (s : List Fi) : Prop where
  size : C.size = 256
  at_ : ∀ j, j < 256 → C[j]? = some (.int .i64 (if hasno s j then 1 else 0))
theorem Th.put {C : Array Go.Value} {s : List Fi} (h : Th C s) {no : Nat} (hn : no < 256) (ys : List UInt8) : Th (C.setIfInBounds no (.int .i64 1)) (write s no ys) := ⟨by simp [h.size], fun j hj => by
  have hs := h.size
  rw [Array.getElem?_setIfInBounds, hasno_write]
  by_cases e : no = j
  · subst e
    rw [if_pos rfl, if_pos (by omega)]
    simp
  · rw [if_neg e, h.at_ j hj]
    have : (no == j) = false := by simpa using e
    rw [this]; simp⟩
theorem Th.rem {C : Array Go.Value} {s : List Fi} (h : Th C s) {no : Nat} (hn : no < 256) : Th (C.setIfInBounds no (.int .i64 0)) (remove s (no : Int)) := ⟨by simp [h.size], fun j hj => by
  have hs := h.size
  rw [Array.getElem?_setIfInBounds, hasno_remove]
  by_cases e : no = j
  · subst e
    rw [if_pos rfl, if_pos (by omega)]
    simp
  · rw [if_neg e, h.at_ j hj]
    have : (no == j) = false := by simpa using e
    rw [this]; simp⟩
theorem write_small {s : List Fi} {no : Nat} (h : ∀ f ∈ s, f.no < 256) (hn : no < 256) (ys : List UInt8) : ∀ f ∈ write s no ys, f.no < 256 := fun f hf => by
  rcases ins_mem hf with rfl | hf
  · exact hn
  · exact h f hf
end Go.Proofs.DiskMath
