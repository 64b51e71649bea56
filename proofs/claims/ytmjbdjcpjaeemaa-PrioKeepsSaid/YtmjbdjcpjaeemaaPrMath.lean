/-
  Plain mathematics of offers: their order by weight through draw; what an exchange in a row does; a heap's rows and what its two walks keep; a row that is kept in order.
-/
namespace Go.Proofs.PrioMath

/-- An offer: its place, its weight, its draw. -/
structure Of where
  p : Nat
  w : Nat
  d : Nat
/-- Is the priority of a by c above that of b by d? -/
def abv (a c b d : Nat) : Bool := decide (b * (c + 1) < a * (d + 1))
/-- b stands above a: by its priority, or by its lesser place. -/
def lt (a b : Of) : Bool := decide (a.w * (b.d + 1) < b.w * (a.d + 1) ∨ a.w * (b.d + 1) = b.w * (a.d + 1) ∧ b.p < a.p)
theorem lt_true {a b : Of} : lt a b = true ↔ a.w * (b.d + 1) < b.w * (a.d + 1) ∨ a.w * (b.d + 1) = b.w * (a.d + 1) ∧ b.p < a.p := by unfold lt; simp
theorem lt_false {a b : Of} : lt a b = false ↔ ¬ (a.w * (b.d + 1) < b.w * (a.d + 1) ∨ a.w * (b.d + 1) = b.w * (a.d + 1) ∧ b.p < a.p) := by unfold lt; simp only [decide_eq_false_iff_not]
/-- Products across. -/
theorem cross_le {a b c x y z : Nat} (hy : 0 < y) (h : a * y ≤ b * x) (k : b * z ≤ c * y) : a * z ≤ c * x := by
  have h1 : a * y * z ≤ b * x * z := Nat.mul_le_mul_right z h
  have h2 : b * z * x ≤ c * y * x := Nat.mul_le_mul_right x k
  have e1 : b * x * z = b * z * x := by rw [Nat.mul_assoc, Nat.mul_comm x z, Nat.mul_assoc]
  have e2 : a * y * z = a * z * y := by rw [Nat.mul_assoc, Nat.mul_comm y z, Nat.mul_assoc]
  have e3 : c * y * x = c * x * y := by rw [Nat.mul_assoc, Nat.mul_comm y x, Nat.mul_assoc]
  have h3 : a * z * y ≤ c * x * y := by omega
  exact Nat.le_of_mul_le_mul_right h3 hy
theorem cross_lt' {a b c x y z : Nat} (hz : 0 < z) (h : a * y < b * x) (k : b * z ≤ c * y) : a * z < c * x := by
  have h1 : a * y * z < b * x * z := Nat.mul_lt_mul_of_pos_right h hz
  have h2 : b * z * x ≤ c * y * x := Nat.mul_le_mul_right x k
  have e1 : b * x * z = b * z * x := by rw [Nat.mul_assoc, Nat.mul_comm x z, Nat.mul_assoc]
  have e2 : a * y * z = a * z * y := by rw [Nat.mul_assoc, Nat.mul_comm y z, Nat.mul_assoc]
  have e3 : c * y * x = c * x * y := by rw [Nat.mul_assoc, Nat.mul_comm y x, Nat.mul_assoc]
  have h3 : a * z * y < c * x * y := by omega
  exact Nat.lt_of_mul_lt_mul_right h3
theorem cross_lt2 {a b c x y z : Nat} (hx : 0 < x) (h : a * y ≤ b * x) (k : b * z < c * y) : a * z < c * x := by
  have h1 : a * y * z ≤ b * x * z := Nat.mul_le_mul_right z h
  have h2 : b * z * x < c * y * x := Nat.mul_lt_mul_of_pos_right k hx
  have e1 : b * x * z = b * z * x := by rw [Nat.mul_assoc, Nat.mul_comm x z, Nat.mul_assoc]
  have e2 : a * y * z = a * z * y := by rw [Nat.mul_assoc, Nat.mul_comm y z, Nat.mul_assoc]
  have e3 : c * y * x = c * x * y := by rw [Nat.mul_assoc, Nat.mul_comm y x, Nat.mul_assoc]
  have h3 : a * z * y < c * x * y := by omega
  exact Nat.lt_of_mul_lt_mul_right h3
theorem lt_irrefl (a : Of) : lt a a = false := by rw [lt_false]; omega
theorem lt_asymm {a b : Of} (h : lt a b = true) : lt b a = false := by rw [lt_true] at h; rw [lt_false]; omega
theorem lt_trans {a b c : Of} (h : lt a b = true) (k : lt b c = true) : lt a c = true := by
  rw [lt_true] at *
  have ha : 0 < a.d + 1 := by omega
  have hb : 0 < b.d + 1 := by omega
  have hc : 0 < c.d + 1 := by omega
  rcases h with h | ⟨h, h1⟩ <;> rcases k with k | ⟨k, k1⟩
  · exact .inl (cross_lt' hc h (Nat.le_of_lt k))
  · exact .inl (cross_lt' hc h (Nat.le_of_eq k))
  · exact .inl (cross_lt2 ha (Nat.le_of_eq h) k)
  · refine .inr ⟨Nat.le_antisymm (cross_le hb (Nat.le_of_eq h) (Nat.le_of_eq k)) (cross_le hb (Nat.le_of_eq k.symm) (Nat.le_of_eq h.symm)), by omega⟩
/-- Neither is above the other: they are of one place, and of one priority. -/
theorem tie {a b : Of} (h : lt a b = false) (k : lt b a = false) : a.p = b.p ∧ a.w * (b.d + 1) = b.w * (a.d + 1) := by
  rw [lt_false] at h k
  omega
theorem le_trans {a b c : Of} (h : lt b a = false) (k : lt c b = false) : lt c a = false := by
  by_cases e : lt c a = true
  · by_cases e1 : lt a b = true
    · rw [lt_trans e e1] at k; cases k
    · by_cases e2 : lt b c = true
      · rw [lt_trans e2 e] at h; cases h
      · obtain ⟨p1, q1⟩ := tie h (by simpa using e1)
        obtain ⟨p2, q2⟩ := tie k (by simpa using e2)
        rw [lt_true] at e
        have h3 : a.w * (c.d + 1) ≤ c.w * (a.d + 1) := cross_le (y := b.d + 1) (by omega) (Nat.le_of_eq q1.symm) (Nat.le_of_eq q2.symm)
        omega
  · simpa using e
theorem lt_le {a b c : Of} (h : lt a b = true) (k : lt c b = false) : lt a c = true := by
  by_cases e : lt b c = true
  · exact lt_trans h e
  · obtain ⟨p1, q1⟩ := tie k (by simpa using e)
    rw [lt_true] at *
    have hb : 0 < b.d + 1 := by omega
    have hc : 0 < c.d + 1 := by omega
    rcases h with h | ⟨h, h1⟩
    · exact .inl (cross_lt' hc h (Nat.le_of_eq q1.symm))
    · exact .inr ⟨Nat.le_antisymm (cross_le hb (Nat.le_of_eq h) (Nat.le_of_eq q1.symm)) (cross_le hb (Nat.le_of_eq q1) (Nat.le_of_eq h.symm)), by omega⟩

/-- What stands at a place. -/
def at_ (l : List Of) (i : Nat) : Of := l.getD i ⟨0, 0, 0⟩
theorem at_get {l : List Of} {i : Nat} (h : i < l.length) : at_ l i = l[i] := by simp [at_, List.getD, h]
theorem at_some {l : List Of} {i : Nat} (h : i < l.length) : l[i]? = some (at_ l i) := by rw [at_get h]; exact List.getElem?_eq_getElem h
theorem at_mem {l : List Of} {i : Nat} (h : i < l.length) : at_ l i ∈ l := by rw [at_get h]; exact List.getElem_mem h
theorem mem_at {l : List Of} {t : Of} (h : t ∈ l) : ∃ i, i < l.length ∧ at_ l i = t := by
  obtain ⟨i, hi, e⟩ := List.mem_iff_getElem.1 h
  exact ⟨i, hi, by rw [at_get hi, e]⟩
/-- An exchange. -/
def sw (l : List Of) (i j : Nat) : List Of := (l.set i (at_ l j)).set j (at_ l i)
theorem length_sw (l : List Of) (i j : Nat) : (sw l i j).length = l.length := by simp [sw]
theorem at_sw {l : List Of} {i j : Nat} (hi : i < l.length) (hj : j < l.length) (k : Nat) : at_ (sw l i j) k = if k = j then at_ l i else if k = i then at_ l j else at_ l k := by
  unfold sw
  by_cases h1 : k = j
  · subst h1
    simp [at_, List.getD, hj]
  · rw [if_neg h1]
    by_cases h2 : k = i
    · subst h2
      simp [at_, List.getD, hi, Ne.symm h1]
    · simp [at_, List.getD, Ne.symm h1, Ne.symm h2, h2]
theorem sw_perm {l : List Of} {i j : Nat} (hi : i < l.length) (hj : j < l.length) : (sw l i j).Perm l := by
  unfold sw
  rw [at_get hi, at_get hj]
  exact List.set_set_perm hi hj

/-- No offer ahead of the one above it. -/
def ok (l : List Of) (i : Nat) : Prop := lt (at_ l i) (at_ l ((i - 1) / 2)) = false
def Hep (l : List Of) (n : Nat) : Prop := ∀ i, 0 < i → i < n → ok l i
def UpInv (l : List Of) (n j : Nat) : Prop :=
  (∀ i, 0 < i → i < n → i ≠ j → ok l i) ∧ (∀ c, 0 < c → c < n → (c - 1) / 2 = j → 0 < j → lt (at_ l c) (at_ l ((j - 1) / 2)) = false)
theorem up_done {l : List Of} {n j : Nat} (h : UpInv l n j) (hj : j = 0 ∨ ok l j) : Hep l n := fun i h0 hn => by
  by_cases e : i = j
  · subst e
    rcases hj with hj | hj
    · omega
    · exact hj
  · exact h.1 i h0 hn e
theorem up_step {l : List Of} {n j : Nat} (h : UpInv l n j) (hj : 0 < j) (hn : j < n) (hl : n ≤ l.length) (hlt : lt (at_ l j) (at_ l ((j - 1) / 2)) = true) : UpInv (sw l ((j - 1) / 2) j) n ((j - 1) / 2) := by
  obtain ⟨h1, h2⟩ := h
  obtain ⟨p, hp⟩ : ∃ p, (j - 1) / 2 = p := ⟨_, rfl⟩
  have hpj : p < j := by omega
  rw [hp] at hlt ⊢
  have sws := at_sw (l := l) (i := p) (j := j) (by omega) (by omega)
  refine ⟨fun i i0 hin hip => ?_, fun c c0 hcn hcp p0 => ?_⟩
  · unfold ok
    by_cases e : i = j
    · subst e
      rw [hp, sws, sws, if_pos rfl, if_neg (by omega), if_pos rfl]
      exact lt_asymm hlt
    · have hk := h1 i i0 hin e
      unfold ok at hk
      rw [sws i, if_neg e, if_neg hip, sws]
      by_cases e1 : (i - 1) / 2 = j
      · rw [if_pos e1]
        have := h2 i i0 hin e1 hj
        rwa [hp] at this
      · rw [if_neg e1]
        by_cases e2 : (i - 1) / 2 = p
        · rw [if_pos e2]
          rw [e2] at hk
          exact le_trans (lt_asymm hlt) hk
        · rw [if_neg e2]
          exact hk
  · have hpp : (p - 1) / 2 ≠ p ∧ (p - 1) / 2 ≠ j := by omega
    have okp := h1 p p0 (by omega) (by omega)
    unfold ok at okp
    rw [sws c, sws, if_neg hpp.2, if_neg hpp.1]
    by_cases e : c = j
    · rw [if_pos e]
      exact okp
    · rw [if_neg e, if_neg (by omega)]
      have hc := h1 c c0 hcn e
      unfold ok at hc
      rw [hcp] at hc
      exact le_trans okp hc
def DnInv (l : List Of) (n i : Nat) : Prop :=
  (∀ k, 0 < k → k < n → k ≠ i → (k - 1) / 2 ≠ i → ok l k) ∧ (∀ c, 0 < c → c < n → (c - 1) / 2 = i → 0 < i → lt (at_ l c) (at_ l ((i - 1) / 2)) = false)
theorem dn_step {l : List Of} {n i j : Nat} (h : DnInv l n i) (hji : (j - 1) / 2 = i) (hj0 : 0 < j) (hn : j < n) (hl : n ≤ l.length) (hmin : ∀ c, 0 < c → c < n → (c - 1) / 2 = i → lt (at_ l c) (at_ l j) = false) (hlt : lt (at_ l j) (at_ l i) = true) : DnInv (sw l i j) n j ∧ ok (sw l i j) j := by
  obtain ⟨h1, h2⟩ := h
  have sws := at_sw (l := l) (i := i) (j := j) (by omega) (by omega)
  refine ⟨⟨fun k k0 hkn hkj hkp => ?_, fun c c0 hcn hcj _ => ?_⟩, ?_⟩
  · unfold ok
    rw [sws k, if_neg hkj, sws, if_neg hkp]
    by_cases e : k = i
    · subst e
      rw [if_pos rfl, if_neg (by omega)]
      exact h2 j hj0 hn hji (by omega)
    · rw [if_neg e]
      by_cases e1 : (k - 1) / 2 = i
      · rw [if_pos e1]
        exact hmin k k0 hkn e1
      · rw [if_neg e1]
        exact h1 k k0 hkn e e1
  · rw [sws c, if_neg (by omega), if_neg (by omega), hji, sws, if_neg (by omega), if_pos rfl]
    have := h1 c c0 hcn (by omega) (by omega)
    unfold ok at this
    rwa [hcj] at this
  · unfold ok
    rw [hji, sws, if_pos rfl, sws, if_neg (by omega), if_pos rfl]
    exact lt_asymm hlt
theorem dn_done {l : List Of} {n i : Nat} (h : DnInv l n i) (hc : ∀ c, 0 < c → c < n → (c - 1) / 2 = i → lt (at_ l c) (at_ l i) = false) : UpInv l n i :=
  ⟨fun k k0 hkn hki => by
    by_cases e : (k - 1) / 2 = i
    · have := hc k k0 hkn e
      unfold ok
      rwa [e]
    · exact h.1 k k0 hkn hki e, h.2⟩
theorem hep_dn {l : List Of} {n i : Nat} (h : Hep l n) : DnInv l n i :=
  ⟨fun k k0 hkn _ _ => h k k0 hkn, fun c c0 hcn hci i0 => by
    have a := h c c0 hcn
    have b := h i i0 (by omega)
    unfold ok at a b
    rw [hci] at a
    exact le_trans b a⟩
/-- A heap in which one place was taken by what stood behind all: the walk down begins. -/
theorem hep_swap {l : List Of} {n i : Nat} (h : Hep l (n + 1)) (hi : i < n) (hl : n < l.length) : DnInv (sw l i n) n i := by
  have sws := at_sw (l := l) (i := i) (j := n) (by omega) (by omega)
  refine ⟨fun k k0 hkn hki hkp => ?_, fun c c0 hcn hci i0 => ?_⟩
  · unfold ok
    rw [sws k, if_neg (by omega), if_neg hki, sws, if_neg (by omega), if_neg hkp]
    exact h k k0 (by omega)
  · rw [sws c, if_neg (by omega), if_neg (by omega), sws, if_neg (by omega), if_neg (by omega)]
    exact (hep_dn h).2 c c0 (by omega) hci i0
/-- A offer that was put behind all: the walk up begins. -/
theorem hep_snoc {l : List Of} (h : Hep l l.length) (t : Of) : UpInv (l ++ [t]) (l.length + 1) l.length := by
  have hat : ∀ k, k < l.length → at_ (l ++ [t]) k = at_ l k := fun k hk => by simp [at_, List.getD, List.getElem?_append, hk]
  refine ⟨fun i i0 hin hne => ?_, fun c c0 hcn hc _ => by omega⟩
  unfold ok
  rw [hat i (by omega), hat _ (by omega)]
  exact h i i0 (by omega)
theorem hep_min {l : List Of} {n : Nat} (h : Hep l n) : ∀ k, k < n → lt (at_ l k) (at_ l 0) = false := by
  intro k
  induction k using Nat.strongRecOn with
  | ind k ih =>
    intro hk
    by_cases e : k = 0
    · subst e; exact lt_irrefl _
    · have a := ih ((k - 1) / 2) (by omega) (by omega)
      have b := h k (by omega) hk
      unfold ok at b
      exact le_trans a b
theorem hep_take {l : List Of} {n : Nat} (h : Hep l n) (hn : n ≤ l.length) : Hep (l.take n) (l.take n).length := by
  have e : (l.take n).length = n := by simp; omega
  have hat : ∀ k, k < n → at_ (l.take n) k = at_ l k := fun k hk => by simp [at_, List.getD, hk]
  rw [e]
  intro i i0 hin
  unfold ok
  rw [hat i hin, hat _ (by omega)]
  exact h i i0 hin
theorem take_last {l : List Of} {n : Nat} (h : l.length = n + 1) : l = l.take n ++ [at_ l n] := by
  rw [at_get (by omega)]
  have := List.take_append_drop n l
  rw [List.drop_eq_getElem_cons (by omega), List.drop_of_length_le (by omega)] at this
  exact this.symm

/-- In order, the least first; no place twice. -/
def So (s : List Of) : Prop := s.Pairwise fun a b => lt a b = true
def Pn (s : List Of) : Prop := s.Pairwise fun a b => a.p ≠ b.p
theorem Pn.perm {l s : List Of} (h : l.Perm s) (hs : Pn s) : Pn l := (h.symm.pairwise hs) fun h => Ne.symm h
/-- Of two of unlike places one is above. -/
theorem other {a b : Of} (h : lt a b = false) (hp : a.p ≠ b.p) : lt b a = true := by
  by_cases e : lt b a = true
  · exact e
  · exact absurd (tie h (by simpa using e)).1 hp
/-- The least of a heap is the first of the row in order. -/
theorem first_of {l : List Of} {t : Of} {r : List Of} (h : Hep l l.length) (hp : l.Perm (t :: r)) (hs : So (t :: r)) : at_ l 0 = t := by
  have h0 : 0 < l.length := by rw [hp.length_eq]; simp
  have hm : at_ l 0 ∈ t :: r := hp.mem_iff.1 (at_mem h0)
  obtain ⟨k, hk, e⟩ := mem_at (hp.mem_iff.2 (List.mem_cons_self (a := t) (l := r)))
  have hle := hep_min h k hk
  rw [e] at hle
  rcases List.mem_cons.1 hm with h1 | h1
  · exact h1
  · have := (List.pairwise_cons.1 hs).1 _ h1
    rw [this] at hle
    cases hle

/-- How many stand ahead of one. -/
def cnt (t : Of) (s : List Of) : Nat := (s.takeWhile (lt · t)).length
def ins (t : Of) (s : List Of) : List Of := s.take (cnt t s) ++ t :: s.drop (cnt t s)
theorem cnt_le (t : Of) (s : List Of) : cnt t s ≤ s.length := by
  unfold cnt
  exact (List.takeWhile_prefix (lt · t)).length_le
theorem takeWhile_take {α : Type} (p : α → Bool) (s : List α) : s.take (s.takeWhile p).length = s.takeWhile p ∧ s.drop (s.takeWhile p).length = s.dropWhile p := by
  induction s with
  | nil => simp
  | cons a r ih =>
    by_cases h : p a
    · simp [h, ih.1, ih.2]
    · simp [h]
theorem cnt_ahead {t : Of} {s : List Of} {i : Nat} (h : i < cnt t s) : lt (at_ s i) t = true := by
  have hl := cnt_le t s
  have h1 : at_ s i ∈ s.takeWhile (lt · t) := by
    rw [← (takeWhile_take (lt · t) s).1]
    refine List.mem_iff_getElem.2 ⟨i, by unfold cnt at h hl; rw [List.length_take]; omega, ?_⟩
    rw [List.getElem_take, at_get (by omega)]
  have := List.all_eq_true.1 (List.all_takeWhile (p := (lt · t)) (l := s)) _ h1
  exact this
theorem cnt_stop {t : Of} {s : List Of} (h : cnt t s < s.length) : lt (at_ s (cnt t s)) t = false := by
  induction s with
  | nil => simp at h
  | cons a r ih =>
    by_cases h1 : lt a t = true
    · have e : cnt t (a :: r) = cnt t r + 1 := by simp [cnt, h1]
      rw [e] at h ⊢
      have := ih (by simpa using h)
      simpa [at_, List.getD] using this
    · have e : cnt t (a :: r) = 0 := by simp [cnt, h1]
      rw [e]
      simpa [at_, List.getD] using h1
theorem cnt_of {t : Of} {s : List Of} {k : Nat} (hk : k ≤ s.length) (h1 : ∀ i, i < k → lt (at_ s i) t = true) (h2 : k < s.length → lt (at_ s k) t = false) : k = cnt t s := by
  rcases Nat.lt_trichotomy k (cnt t s) with h | h | h
  · have a := cnt_ahead h
    have b := h2 (by have := cnt_le t s; omega)
    rw [a] at b; cases b
  · exact h
  · have a := h1 _ h
    have b := cnt_stop (t := t) (s := s) (by omega)
    rw [a] at b; cases b
theorem ins_perm (t : Of) (s : List Of) : (ins t s).Perm (t :: s) := by
  unfold ins
  refine List.perm_middle.trans ?_
  rw [List.take_append_drop]
theorem ins_length (t : Of) (s : List Of) : (ins t s).length = s.length + 1 := by simpa using (ins_perm t s).length_eq
theorem So.at_lt {s : List Of} (h : So s) {i j : Nat} (hij : i < j) (hj : j < s.length) : lt (at_ s i) (at_ s j) = true := by
  rw [at_get (by omega), at_get hj]
  exact List.pairwise_iff_getElem.1 h i j _ _ hij
theorem ins_so {t : Of} {s : List Of} (h : So s) (hn : ∀ a ∈ s, a.p ≠ t.p) : So (ins t s) := by
  have hl := cnt_le t s
  unfold ins
  refine List.pairwise_append.2 ⟨h.sublist (List.take_sublist _ _), List.pairwise_cons.2 ⟨fun b hb => ?_, h.sublist (List.drop_sublist _ _)⟩, fun a ha b hb => ?_⟩
  · obtain ⟨i, hi, e⟩ := List.mem_iff_getElem.1 hb
    rw [List.getElem_drop] at e
    simp at hi
    have hlt : cnt t s < s.length := by omega
    have h1 := cnt_stop hlt
    have hb2 : at_ s (cnt t s + i) = b := by rw [at_get (by omega)]; exact e
    have h2 : lt t (at_ s (cnt t s)) = true := other h1 (hn _ (at_mem hlt))
    by_cases i0 : i = 0
    · subst i0; rw [← hb2]; exact h2
    · rw [← hb2]; exact lt_trans h2 (h.at_lt (by omega) (by omega))
  · obtain ⟨i, hi, e⟩ := List.mem_iff_getElem.1 ha
    rw [List.getElem_take] at e
    simp at hi
    have hi1 : i < cnt t s := by omega
    have ha2 : at_ s i = a := by rw [at_get (by omega)]; exact e
    have hat : lt a t = true := ha2 ▸ cnt_ahead hi1
    rcases List.mem_cons.1 hb with rfl | hb
    · exact hat
    · obtain ⟨j, hj, e2⟩ := List.mem_iff_getElem.1 hb
      rw [List.getElem_drop] at e2
      simp at hj
      have hb2 : at_ s (cnt t s + j) = b := by rw [at_get (by omega)]; exact e2
      rw [← ha2, ← hb2]
      exact h.at_lt (by omega) (by omega)
end Go.Proofs.PrioMath
