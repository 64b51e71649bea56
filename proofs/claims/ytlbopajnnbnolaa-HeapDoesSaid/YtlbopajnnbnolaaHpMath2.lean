/-
  Plain mathematics of timers, more: what is put in by rising numbers; what is still there; how many are due.
-/
import Derived.Test.YtlbopajnnbnolaaHpMath
namespace Go.Proofs.HeapMath

/-- Timers of the times f, numbered from 0 on, put in one behind the other. -/
def pushed (f : Nat → Int) : Nat → List Tm
  | 0 => []
  | k + 1 => ins (f k, (k : Int)) (pushed f k)
theorem pushed_mem {f : Nat → Int} {k : Nat} {t : Tm} : t ∈ pushed f k ↔ ∃ i, i < k ∧ t = (f i, (i : Int)) := by
  induction k with
  | zero => simp [pushed]
  | succ k ih =>
    rw [pushed, (ins_perm _ _).mem_iff, List.mem_cons, ih]
    constructor
    · rintro (h | ⟨i, hi, h⟩)
      · exact ⟨k, by omega, h⟩
      · exact ⟨i, by omega, h⟩
    · rintro ⟨i, hi, h⟩
      by_cases e : i = k
      · subst e; exact .inl h
      · exact .inr ⟨i, by omega, h⟩
theorem pushed_len (f : Nat → Int) (k : Nat) : (pushed f k).length = k := by
  induction k with
  | zero => rfl
  | succ k ih => rw [pushed, ins_length, ih]
theorem pushed_not (f : Nat → Int) (k : Nat) : isin (k : Int) (pushed f k) = false := isin_false.2 fun a ha => by
  obtain ⟨i, hi, rfl⟩ := pushed_mem.1 ha
  simp only [ne_eq]
  omega

/-- The timers s are those, of the times f, that are marked as being there. -/
def Th (f : Nat → Int) (N : Nat) (th : Nat → Bool) (s : List Tm) : Prop := ∀ t, t ∈ s ↔ ∃ i, i < N ∧ th i = true ∧ t = (f i, (i : Int))
theorem th_all (f : Nat → Int) (N : Nat) {th : Nat → Bool} (h : ∀ i, i < N → th i = true) : Th f N th (pushed f N) := fun t => by
  rw [pushed_mem]
  exact ⟨fun ⟨i, hi, e⟩ => ⟨i, hi, h i hi, e⟩, fun ⟨i, hi, _, e⟩ => ⟨i, hi, e⟩⟩
theorem Th.isin {f : Nat → Int} {N : Nat} {th : Nat → Bool} {s : List Tm} (h : Th f N th s) {i : Nat} (hi : i < N) : isin (i : Int) s = th i := by
  cases e : th i with
  | true => exact isin_true.2 ⟨(f i, (i : Int)), (h _).2 ⟨i, hi, e, rfl⟩, rfl⟩
  | false =>
    refine isin_false.2 fun a ha hn => ?_
    obtain ⟨j, hj, h1, rfl⟩ := (h a).1 ha
    have : j = i := by simp only at hn; omega
    subst this
    rw [e] at h1; cases h1
/-- One is taken out. -/
theorem Th.del {f : Nat → Int} {N : Nat} {th th' : Nat → Bool} {s : List Tm} (h : Th f N th s) {k : Nat} (hk : th' k = false) (ho : ∀ i, i ≠ k → th' i = th i) : Th f N th' (HeapMath.del (k : Int) s) := fun t => by
  unfold HeapMath.del
  rw [List.mem_filter, h t]
  constructor
  · rintro ⟨⟨i, hi, h1, rfl⟩, h2⟩
    have hne : i ≠ k := by
      intro e
      subst e
      simp at h2
    exact ⟨i, hi, by rw [ho i hne]; exact h1, rfl⟩
  · rintro ⟨i, hi, h1, rfl⟩
    have hne : i ≠ k := by
      intro e
      subst e
      rw [hk] at h1; cases h1
    refine ⟨⟨i, hi, by rw [← ho i hne]; exact h1, rfl⟩, ?_⟩
    simp only [bne_iff_ne, ne_eq]
    omega
theorem Th.first {f : Nat → Int} {N : Nat} {th : Nat → Bool} {t : Tm} {r : List Tm} (h : Th f N th (t :: r)) (hn : Nn (t :: r)) : ∃ i, i < N ∧ th i = true ∧ t = (f i, (i : Int)) ∧ (∀ th' : Nat → Bool, th' i = false → (∀ j, j ≠ i → th' j = th j) → Th f N th' r) := by
  obtain ⟨i, hi, h1, rfl⟩ := (h t).1 (by simp)
  refine ⟨i, hi, h1, rfl, fun th' h2 h3 => ?_⟩
  have := h.del h2 h3
  rwa [del_first hn] at this
theorem Th.none {f : Nat → Int} {N : Nat} {th : Nat → Bool} (h : Th f N th []) {i : Nat} (hi : i < N) : th i = false := by
  cases e : th i with
  | false => rfl
  | true => exact absurd ((h _).2 ⟨i, hi, e, rfl⟩) (by simp)

theorem del_len {no : Int} {s : List Tm} (hn : Nn s) (h : isin no s = true) : (HeapMath.del no s).length + 1 = s.length := by
  obtain ⟨a, ha, rfl⟩ := isin_true.1 h
  obtain ⟨l1, l2, rfl⟩ := List.append_of_mem ha
  have hp : ((l1 ++ l2) ++ [a]).Perm (l1 ++ a :: l2) := List.perm_append_comm.trans (show ([a] ++ (l1 ++ l2)).Perm (l1 ++ a :: l2) by rw [List.singleton_append]; exact List.perm_middle.symm)
  have := (del_perm hp hn).length_eq
  have h2 := hp.length_eq
  simp only [List.length_append, List.length_cons, List.length_nil] at this h2 ⊢
  omega
theorem pushed_so (f : Nat → Int) (k : Nat) : So (pushed f k) ∧ Nn (pushed f k) := by
  induction k with
  | zero => exact ⟨List.Pairwise.nil, List.Pairwise.nil⟩
  | succ k ih => exact ⟨ins_so ih.1 (isin_false.1 (pushed_not f k)), ins_nn ih.2 (isin_false.1 (pushed_not f k))⟩
/-- How many of the first k are due. -/
def cd (f : Nat → Int) (now : Int) : Nat → Nat
  | 0 => 0
  | k + 1 => if f k ≤ now then cd f now k + 1 else cd f now k
theorem cd_le (f : Nat → Int) (now : Int) (k : Nat) : cd f now k ≤ k := by
  induction k with
  | zero => exact Nat.le_refl _
  | succ k ih => rw [cd]; split <;> omega
theorem cd_count (f : Nat → Int) (now : Int) (k : Nat) : (pushed f k).countP (fun t => decide (t.1 ≤ now)) = cd f now k := by
  induction k with
  | zero => rfl
  | succ k ih =>
    rw [pushed, (ins_perm _ _).countP_eq, List.countP_cons, ih, cd]
    by_cases h : f k ≤ now <;> simp [h]
theorem so_due {now : Int} {s : List Tm} (h : So s) : (dueOf now s).length = s.countP (fun t => decide (t.1 ≤ now)) := by
  unfold dueOf
  induction s with
  | nil => rfl
  | cons t r ih =>
    have hr := (List.pairwise_cons.1 h)
    by_cases e : t.1 ≤ now
    · simp [e, ih hr.2]
    · have : r.countP (fun t => decide (t.1 ≤ now)) = 0 := List.countP_eq_zero.2 fun a ha => by
        have := hr.1 a ha
        rw [lt_true] at this
        simp only [decide_eq_true_eq]
        omega
      simp [e, this]
theorem due_late (now : Int) (s : List Tm) : (dueOf now s).length + (lateOf now s).length = s.length := by
  unfold dueOf lateOf
  rw [← List.length_append, List.takeWhile_append_dropWhile]
theorem late_first {now : Int} {s : List Tm} {t : Tm} {r : List Tm} (h : lateOf now s = t :: r) : now < t.1 := by
  unfold lateOf at h
  induction s with
  | nil => simp at h
  | cons a s ih =>
    rw [List.dropWhile_cons] at h
    split at h
    · exact ih h
    · rename_i h1
      injection h with h2 _
      subst h2
      simp at h1
      omega
theorem late_so {now : Int} {s : List Tm} (h : So s) : So (lateOf now s) := h.sublist (List.dropWhile_sublist _)
theorem So.head_le {t : Tm} {r : List Tm} (h : So (t :: r)) {a : Tm} (ha : a ∈ r) : t.1 ≤ a.1 ∧ lt t a = true := by
  have := (List.pairwise_cons.1 h).1 a ha
  refine ⟨?_, this⟩
  rw [lt_true] at this
  omega
/-- One that is ahead of all others comes first. -/
theorem ins_first {t : Tm} {s : List Tm} (h : ∀ a ∈ s, lt a t = false) : ins t s = t :: s := by
  have : cnt t s = 0 := by
    cases s with
    | nil => rfl
    | cons a r => simp [cnt, h a (by simp)]
  unfold ins
  rw [this]
  rfl
end Go.Proofs.HeapMath
