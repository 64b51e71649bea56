/-
  Plain mathematics of a sampler: who of some offers is kept, and for how much each counts; the row that a sampler keeps holds the greatest, and one more.
-/
import Derived.Test.YtmjbdjcpjaeemaaPrMath
namespace Go.Proofs.PrioMath

/-- How many stand above one. -/
def rank (os : List Of) (t : Of) : Nat := os.countP fun x => lt t x
/-- Those that are kept, by rising places; the greatest of all others. -/
def keptL (k : Nat) (os : List Of) : List Of := os.filter fun t => decide (rank os t < k)
def nx (k : Nat) (os : List Of) : Of := (os.find? fun t => decide (rank os t = k)).getD ⟨0, 0, 0⟩
/-- Of so many draws. -/
def dr (m : Nat) : Nat := if m = 0 then 18446744073709551616 else m
/-- For how much one of weight w counts. -/
def cnts (w : Nat) (o : Of) (m : Nat) : Nat × Nat :=
  if o.w * dr m ≤ w * (o.d + 1) then (w, 1)
  else (min (o.w * dr m / Nat.gcd (o.d + 1) (o.w * dr m)) 18446744073709551615, (o.d + 1) / Nat.gcd (o.d + 1) (o.w * dr m))
/-- What Close tells: the places, and for how much each counts, as two parts. -/
def closeL (k m : Nat) (os : List Of) : List Of := (keptL k os).map fun t => ⟨t.p, (cnts t.w (nx k os) m).1, (cnts t.w (nx k os) m).2⟩

/-- The places are 0, 1, 2 and so on. -/
def Pl (os : List Of) : Prop := ∀ i, i < os.length → (at_ os i).p = i
theorem Pl.mem {os : List Of} (h : Pl os) {t : Of} (ht : t ∈ os) : t.p < os.length ∧ at_ os t.p = t := by
  obtain ⟨i, hi, rfl⟩ := mem_at ht
  rw [h i hi]
  exact ⟨hi, rfl⟩
theorem Pl.inj {os : List Of} (h : Pl os) {a b : Of} (ha : a ∈ os) (hb : b ∈ os) (e : a.p = b.p) : a = b := by
  rw [← (h.mem ha).2, ← (h.mem hb).2, e]
theorem Pl.snoc {os : List Of} (h : Pl os) {t : Of} (ht : t.p = os.length) : Pl (os ++ [t]) := fun i hi => by
  simp at hi
  by_cases e : i = os.length
  · subst e; simp [at_, List.getD, ht]
  · have : at_ (os ++ [t]) i = at_ os i := by simp [at_, List.getD, List.getElem?_append, show i < os.length by omega]
    rw [this]
    exact h i (by omega)
theorem Pl.pw {os : List Of} (h : Pl os) : os.Pairwise fun a b => a.p < b.p := by
  rw [List.pairwise_iff_getElem]
  intro i j hi hj hij
  have h1 := h i hi
  have h2 := h j hj
  rw [at_get hi] at h1
  rw [at_get hj] at h2
  omega

theorem rank_perm {os ps : List Of} (h : os.Perm ps) (t : Of) : rank os t = rank ps t := h.countP_eq _
theorem rank_lt {os : List Of} {t : Of} (ht : t ∈ os) : rank os t < os.length := by
  have h1 : rank os t ≤ os.length := List.countP_le_length
  have h2 : rank os t ≠ os.length := fun e => by
    have := List.countP_eq_length.1 e t ht
    rw [lt_irrefl] at this; cases this
  omega
/-- Who stands above has fewer above itself. -/
theorem rank_mono {os : List Of} {a b : Of} (hb : b ∈ os) (h : lt a b = true) : rank os b < rank os a := by
  have h1 : ∀ ps : List Of, rank ps b ≤ rank ps a := fun ps => List.countP_mono_left fun x _ hx => lt_trans h hx
  obtain ⟨l1, l2, rfl⟩ := List.append_of_mem hb
  have e : ∀ t, rank (l1 ++ b :: l2) t = rank l1 t + (rank l2 t + if lt t b = true then 1 else 0) := fun t => by
    unfold rank
    rw [List.countP_append, List.countP_cons]
  rw [e, e, h, lt_irrefl]
  have := h1 l1
  have := h1 l2
  simp
  omega

/-- The row s holds the greatest of the offers os, one more than k, in order, the least first; all others, r, stand below. -/
structure Top (k : Nat) (os s r : List Of) : Prop where
  perm : os.Perm (s ++ r)
  so : So s
  sep : ∀ a ∈ r, ∀ b ∈ s, lt a b = true
  len : s.length = min os.length (k + 1)
  pl : Pl os
theorem Top.nil (k : Nat) : Top k [] [] [] := ⟨List.Perm.refl _, List.Pairwise.nil, by simp, by simp, fun i hi => by simp at hi⟩
theorem Top.rlen {k : Nat} {os s r : List Of} (h : Top k os s r) : s.length + r.length = os.length := by
  have := h.perm.length_eq
  simp at this
  omega
theorem Top.mem {k : Nat} {os s r : List Of} (h : Top k os s r) {t : Of} : t ∈ os ↔ t ∈ s ∨ t ∈ r := by
  rw [h.perm.mem_iff, List.mem_append]
/-- One more offer: it is put in; behind that the least goes, if there are too many. -/
theorem Top.snoc {k : Nat} {os s r : List Of} (h : Top k os s r) {t : Of} (ht : t.p = os.length) (hl : s.length ≤ k) : Top k (os ++ [t]) (ins t s) r := by
  have hlen := h.len
  have hr := h.rlen
  have hr0 : r = [] := by
    cases r with
    | nil => rfl
    | cons a r => simp at hr; omega
  subst hr0
  have hpl := h.pl
  refine ⟨?_, ins_so h.so fun a ha => ?_, by simp, ?_, hpl.snoc ht⟩
  · have h1 : (os ++ [t]).Perm (t :: s) := (h.perm.append_right [t]).trans (by simp only [List.append_nil]; exact List.perm_append_comm)
    simpa using h1.trans (ins_perm t s).symm
  · have := (hpl.mem (h.mem.2 (.inl ha))).1
    omega
  · rw [ins_length]
    simp
    omega
theorem Top.snoc_pop {k : Nat} {os s r : List Of} (h : Top k os s r) {t : Of} (ht : t.p = os.length) (hl : s.length = k + 1) : ∃ x s', ins t s = x :: s' ∧ Top k (os ++ [t]) s' (x :: r) := by
  have hpl := h.pl
  have hso : So (ins t s) := ins_so h.so fun a ha => by
    have := (hpl.mem (h.mem.2 (.inl ha))).1
    omega
  have hlen := ins_length t s
  have hperm := ins_perm t s
  obtain ⟨x, s', e⟩ : ∃ x s', ins t s = x :: s' := by
    cases hi : ins t s with
    | nil => rw [hi] at hlen; simp at hlen
    | cons x s' => exact ⟨x, s', rfl⟩
  refine ⟨x, s', e, ?_⟩
  rw [e] at hso hlen hperm
  have hx : ∀ b ∈ s', lt x b = true := (List.pairwise_cons.1 hso).1
  have h1 : (os ++ [t]).Perm (t :: (s ++ r)) := (h.perm.append_right [t]).trans List.perm_append_comm
  have h2 : (t :: (s ++ r)).Perm ((x :: s') ++ r) := (hperm.symm.append_right r)
  refine ⟨?_, (List.pairwise_cons.1 hso).2, fun a ha b hb => ?_, ?_, hpl.snoc ht⟩
  · refine (h1.trans h2).trans ?_
    exact List.perm_middle.symm
  · rcases List.mem_cons.1 ha with rfl | ha
    · exact hx b hb
    · have hbm : b ∈ t :: s := hperm.mem_iff.1 (by simp [hb])
      rcases List.mem_cons.1 hbm with rfl | hbs
      · have hxm : x ∈ b :: s := hperm.mem_iff.1 (by simp)
        rcases List.mem_cons.1 hxm with e2 | hxs
        · have := hx b hb
          rw [e2, lt_irrefl] at this; cases this
        · exact lt_trans (h.sep a ha x hxs) (hx b hb)
      · exact h.sep a ha b hbs
  · have := h.len
    simp at hlen ⊢
    omega
/-- Who is kept, where there are no more than k. -/
theorem Top.few {k : Nat} {os s r : List Of} (h : Top k os s r) (hn : os.length ≤ k) : r = [] ∧ s.Perm os ∧ keptL k os = os ∧ nx k os = ⟨0, 0, 0⟩ := by
  have hr := h.rlen
  have hl := h.len
  have hr0 : r = [] := by
    cases r with
    | nil => rfl
    | cons a r => simp at hr; omega
  subst hr0
  refine ⟨rfl, by simpa using h.perm.symm, ?_, ?_⟩
  · unfold keptL
    refine List.filter_eq_self.2 fun t ht => ?_
    have := rank_lt ht
    simp
    omega
  · unfold nx
    rw [List.find?_eq_none.2 fun t ht => ?_]
    · rfl
    · have := rank_lt ht
      simp
      omega
/-- Who is kept, where there are more. -/
theorem Top.many {k : Nat} {os r s' : List Of} {x : Of} (h : Top k os (x :: s') r) (hn : k < os.length) : s'.Perm (keptL k os) ∧ nx k os = x ∧ s'.length = k := by
  have hl := h.len
  have hs' : s'.length = k := by simp at hl; omega
  have hso := List.pairwise_cons.1 h.so
  have hrk : ∀ t, rank os t = (if lt t x = true then 1 else 0) + rank s' t + rank r t := fun t => by
    rw [rank_perm h.perm]
    unfold rank
    rw [List.countP_append, List.countP_cons]
    omega
  have hx : rank os x = k := by
    have h1 : rank s' x = s'.length := List.countP_eq_length.2 fun b hb => hso.1 b hb
    have h2 : rank r x = 0 := List.countP_eq_zero.2 fun a ha => by rw [lt_asymm (h.sep a ha x (by simp))]; simp
    rw [hrk, h1, h2, lt_irrefl, hs']
    simp
  have hs : ∀ b ∈ s', rank os b < k := fun b hb => by
    have h2 : rank r b = 0 := List.countP_eq_zero.2 fun a ha => by rw [lt_asymm (h.sep a ha b (by simp [hb]))]; simp
    have h3 := rank_lt hb
    rw [hrk, h2, lt_asymm (hso.1 b hb)]
    simp
    omega
  have hr : ∀ a ∈ r, k < rank os a := fun a ha => by
    have h1 : rank s' a = s'.length := List.countP_eq_length.2 fun b hb => h.sep a ha b (by simp [hb])
    rw [hrk, h1, h.sep a ha x (by simp), hs']
    simp
    omega
  refine ⟨?_, ?_, hs'⟩
  · have hf : (keptL k os).Perm ((x :: s' ++ r).filter fun t => decide (rank os t < k)) := h.perm.filter _
    have e : ((x :: s' ++ r).filter fun t => decide (rank os t < k)) = s' := by
      rw [List.filter_append, List.filter_cons, hx]
      rw [List.filter_eq_self.2 fun b hb => by simpa using hs b hb, List.filter_eq_nil_iff.2 fun a ha => by have := hr a ha; simp; omega]
      simp
    rw [e] at hf
    exact hf.symm
  · unfold nx
    cases hf : os.find? fun t => decide (rank os t = k) with
    | none =>
      have := List.find?_eq_none.1 hf x (h.mem.2 (.inl (by simp)))
      simp [hx] at this
    | some t =>
      have h1 := List.find?_some hf
      simp at h1
      have h2 := List.mem_of_find?_eq_some hf
      rcases h.mem.1 h2 with h3 | h3
      · rcases List.mem_cons.1 h3 with rfl | h3
        · rfl
        · have := hs t h3; omega
      · have := hr t h3; omega
theorem kept_pw {k : Nat} {os : List Of} (h : Pl os) : (keptL k os).Pairwise fun a b => a.p < b.p := h.pw.sublist List.filter_sublist
/-- Those that are kept, put by rising places. -/
theorem by_place {k : Nat} {os l : List Of} (h : Pl os) (hp : l.Perm (keptL k os)) (hs : l.Pairwise fun a b => a.p ≤ b.p) : l = keptL k os := by
  refine List.Perm.eq_of_pairwise (le := fun a b => a.p ≤ b.p) ?_ hs ((kept_pw h).imp fun h => Nat.le_of_lt h) hp
  intro a b ha hb h1 h2
  have ma : a ∈ os := (List.mem_filter.1 (hp.mem_iff.1 ha)).1
  have mb : b ∈ os := (List.mem_filter.1 hb).1
  exact h.inj ma mb (Nat.le_antisymm h1 h2)
theorem Top.kept_len {k : Nat} {os s r : List Of} (h : Top k os s r) : (keptL k os).length = min os.length k := by
  by_cases hn : os.length ≤ k
  · rw [(h.few hn).2.2.1]; omega
  · have hl := h.len
    cases s with
    | nil => simp at hl; omega
    | cons x s' =>
      obtain ⟨h1, _, h3⟩ := h.many (by omega)
      rw [← h1.length_eq, h3]; omega
/-- There is always such a row. -/
theorem top_of {os : List Of} (k : Nat) (h : Pl os) : ∃ s r, Top k os s r := by
  induction hn : os.length generalizing os with
  | zero =>
    have : os = [] := List.eq_nil_of_length_eq_zero hn
    subst this
    exact ⟨[], [], Top.nil k⟩
  | succ n ih =>
    have e := take_last hn
    have hlen : (os.take n).length = n := by simp; omega
    have hpl : Pl (os.take n) := fun i hi => by
      have : at_ (os.take n) i = at_ os i := by simp [at_, List.getD, show i < n by omega]
      rw [this]
      exact h i (by omega)
    have ht : (at_ os n).p = (os.take n).length := by rw [h n (by omega), hlen]
    obtain ⟨s, r, hT⟩ := ih hpl hlen
    by_cases hk : s.length ≤ k
    · have h1 := hT.snoc ht hk
      rw [← e] at h1
      exact ⟨_, _, h1⟩
    · have := hT.len
      obtain ⟨x, s', _, hT'⟩ := hT.snoc_pop ht (by omega)
      rw [← e] at hT'
      exact ⟨_, _, hT'⟩
end Go.Proofs.PrioMath
