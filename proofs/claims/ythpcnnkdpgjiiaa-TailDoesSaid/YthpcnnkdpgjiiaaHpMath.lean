/-
  Plain mathematics of timers: their order; what an exchange in a row does; a heap's rows and what its two walks keep; a row that is kept in order, and what a heap's calls make of it.
-/
namespace Go.Proofs.HeapMath

/-- A timer: its time and its number. -/
abbrev Tm := Int × Int
def lt (a b : Tm) : Bool := decide (a.1 < b.1 ∨ a.1 = b.1 ∧ a.2 < b.2)
theorem lt_true {a b : Tm} : lt a b = true ↔ a.1 < b.1 ∨ a.1 = b.1 ∧ a.2 < b.2 := by unfold lt; simp
theorem lt_false {a b : Tm} : lt a b = false ↔ ¬ (a.1 < b.1 ∨ a.1 = b.1 ∧ a.2 < b.2) := by unfold lt; simp only [decide_eq_false_iff_not]
theorem lt_irrefl (a : Tm) : lt a a = false := by rw [lt_false]; omega
theorem lt_asymm {a b : Tm} (h : lt a b = true) : lt b a = false := by rw [lt_true] at h; rw [lt_false]; omega
theorem lt_trans {a b c : Tm} (h : lt a b = true) (k : lt b c = true) : lt a c = true := by rw [lt_true] at *; omega
theorem le_trans {a b c : Tm} (h : lt b a = false) (k : lt c b = false) : lt c a = false := by rw [lt_false] at *; omega
theorem le_lt {a b c : Tm} (h : lt b a = true) (k : lt c a = false) : lt c b = false := by rw [lt_true] at h; rw [lt_false] at *; omega
theorem lt_le {a b c : Tm} (h : lt a b = true) (k : lt c b = false) : lt a c = true := by rw [lt_true] at *; rw [lt_false] at k; omega
theorem eq_of {a b : Tm} (h : lt a b = false) (k : lt b a = false) : a = b := by
  rw [lt_false] at h k
  obtain ⟨a1, a2⟩ := a
  obtain ⟨b1, b2⟩ := b
  simp at h k ⊢
  omega

/-- What stands at a place. -/
def at_ (l : List Tm) (i : Nat) : Tm := l.getD i (0, 0)
theorem at_get {l : List Tm} {i : Nat} (h : i < l.length) : at_ l i = l[i] := by simp [at_, List.getD, h]
theorem at_some {l : List Tm} {i : Nat} (h : i < l.length) : l[i]? = some (at_ l i) := by rw [at_get h]; exact List.getElem?_eq_getElem h
theorem at_mem {l : List Tm} {i : Nat} (h : i < l.length) : at_ l i ∈ l := by rw [at_get h]; exact List.getElem_mem h
theorem mem_at {l : List Tm} {t : Tm} (h : t ∈ l) : ∃ i, i < l.length ∧ at_ l i = t := by
  obtain ⟨i, hi, e⟩ := List.mem_iff_getElem.1 h
  exact ⟨i, hi, by rw [at_get hi, e]⟩
/-- An exchange. -/
def sw (l : List Tm) (i j : Nat) : List Tm := (l.set i (at_ l j)).set j (at_ l i)
theorem length_sw (l : List Tm) (i j : Nat) : (sw l i j).length = l.length := by simp [sw]
theorem at_sw {l : List Tm} {i j : Nat} (hi : i < l.length) (hj : j < l.length) (k : Nat) : at_ (sw l i j) k = if k = j then at_ l i else if k = i then at_ l j else at_ l k := by
  unfold sw
  by_cases h1 : k = j
  · subst h1
    simp [at_, List.getD, hj]
  · rw [if_neg h1]
    by_cases h2 : k = i
    · subst h2
      simp [at_, List.getD, hi, Ne.symm h1]
    · simp [at_, List.getD, Ne.symm h1, Ne.symm h2, h2]
theorem sw_perm {l : List Tm} {i j : Nat} (hi : i < l.length) (hj : j < l.length) : (sw l i j).Perm l := by
  unfold sw
  rw [at_get hi, at_get hj]
  exact List.set_set_perm hi hj

/-- No timer ahead of the one above it. -/
def ok (l : List Tm) (i : Nat) : Prop := lt (at_ l i) (at_ l ((i - 1) / 2)) = false
def Hep (l : List Tm) (n : Nat) : Prop := ∀ i, 0 < i → i < n → ok l i
def UpInv (l : List Tm) (n j : Nat) : Prop :=
  (∀ i, 0 < i → i < n → i ≠ j → ok l i) ∧ (∀ c, 0 < c → c < n → (c - 1) / 2 = j → 0 < j → lt (at_ l c) (at_ l ((j - 1) / 2)) = false)
theorem up_done {l : List Tm} {n j : Nat} (h : UpInv l n j) (hj : j = 0 ∨ ok l j) : Hep l n := fun i h0 hn => by
  by_cases e : i = j
  · subst e
    rcases hj with hj | hj
    · omega
    · exact hj
  · exact h.1 i h0 hn e
theorem up_step {l : List Tm} {n j : Nat} (h : UpInv l n j) (hj : 0 < j) (hn : j < n) (hl : n ≤ l.length) (hlt : lt (at_ l j) (at_ l ((j - 1) / 2)) = true) : UpInv (sw l ((j - 1) / 2) j) n ((j - 1) / 2) := by
  obtain ⟨h1, h2⟩ := h
  obtain ⟨p, hp⟩ : ∃ p, (j - 1) / 2 = p := ⟨_, rfl⟩
  have hpj : p < j := by omega
  rw [hp] at hlt ⊢
  have sws := at_sw (l := l) (i := p) (j := j) (by omega) (by omega)
  refine ⟨fun i i0 hin hip => ?_, fun c c0 hcn hcp p0 => ?_⟩
  · unfold ok
    by_cases e : i = j
    · subst e
      rw [hp, sws, sws, if_pos rfl, if_neg (by omega), if_pos rfl]
      exact lt_asymm hlt
    · have hk := h1 i i0 hin e
      unfold ok at hk
      rw [sws i, if_neg e, if_neg hip, sws]
      by_cases e1 : (i - 1) / 2 = j
      · rw [if_pos e1]
        have := h2 i i0 hin e1 hj
        rwa [hp] at this
      · rw [if_neg e1]
        by_cases e2 : (i - 1) / 2 = p
        · rw [if_pos e2]
          rw [e2] at hk
          exact le_lt hlt hk |> fun h => by rw [lt_false] at *; rw [lt_true] at hlt; omega
        · rw [if_neg e2]
          exact hk
  · have hpp : (p - 1) / 2 ≠ p ∧ (p - 1) / 2 ≠ j := by omega
    have okp := h1 p p0 (by omega) (by omega)
    unfold ok at okp
    rw [sws c, sws, if_neg hpp.2, if_neg hpp.1]
    by_cases e : c = j
    · rw [if_pos e]
      exact okp
    · rw [if_neg e, if_neg (by omega)]
      have hc := h1 c c0 hcn e
      unfold ok at hc
      rw [hcp] at hc
      exact le_trans okp hc
def DnInv (l : List Tm) (n i : Nat) : Prop :=
  (∀ k, 0 < k → k < n → k ≠ i → (k - 1) / 2 ≠ i → ok l k) ∧ (∀ c, 0 < c → c < n → (c - 1) / 2 = i → 0 < i → lt (at_ l c) (at_ l ((i - 1) / 2)) = false)
theorem dn_step {l : List Tm} {n i j : Nat} (h : DnInv l n i) (hji : (j - 1) / 2 = i) (hj0 : 0 < j) (hn : j < n) (hl : n ≤ l.length) (hmin : ∀ c, 0 < c → c < n → (c - 1) / 2 = i → lt (at_ l c) (at_ l j) = false) (hlt : lt (at_ l j) (at_ l i) = true) : DnInv (sw l i j) n j ∧ ok (sw l i j) j := by
  obtain ⟨h1, h2⟩ := h
  have sws := at_sw (l := l) (i := i) (j := j) (by omega) (by omega)
  refine ⟨⟨fun k k0 hkn hkj hkp => ?_, fun c c0 hcn hcj _ => ?_⟩, ?_⟩
  · unfold ok
    rw [sws k, if_neg hkj, sws, if_neg hkp]
    by_cases e : k = i
    · subst e
      rw [if_pos rfl, if_neg (by omega)]
      exact h2 j hj0 hn hji (by omega)
    · rw [if_neg e]
      by_cases e1 : (k - 1) / 2 = i
      · rw [if_pos e1]
        exact hmin k k0 hkn e1
      · rw [if_neg e1]
        exact h1 k k0 hkn e e1
  · rw [sws c, if_neg (by omega), if_neg (by omega), hji, sws, if_neg (by omega), if_pos rfl]
    have := h1 c c0 hcn (by omega) (by omega)
    unfold ok at this
    rwa [hcj] at this
  · unfold ok
    rw [hji, sws, if_pos rfl, sws, if_neg (by omega), if_pos rfl]
    exact lt_asymm hlt
theorem dn_done {l : List Tm} {n i : Nat} (h : DnInv l n i) (hc : ∀ c, 0 < c → c < n → (c - 1) / 2 = i → lt (at_ l c) (at_ l i) = false) : UpInv l n i :=
  ⟨fun k k0 hkn hki => by
    by_cases e : (k - 1) / 2 = i
    · have := hc k k0 hkn e
      unfold ok
      rwa [e]
    · exact h.1 k k0 hkn hki e, h.2⟩
theorem hep_dn {l : List Tm} {n i : Nat} (h : Hep l n) : DnInv l n i :=
  ⟨fun k k0 hkn _ _ => h k k0 hkn, fun c c0 hcn hci i0 => by
    have a := h c c0 hcn
    have b := h i i0 (by omega)
    unfold ok at a b
    rw [hci] at a
    exact le_trans b a⟩
/-- A heap in which one place was taken by what stood behind all: the walk down begins. -/
theorem hep_swap {l : List Tm} {n i : Nat} (h : Hep l (n + 1)) (hi : i < n) (hl : n < l.length) : DnInv (sw l i n) n i := by
  have sws := at_sw (l := l) (i := i) (j := n) (by omega) (by omega)
  refine ⟨fun k k0 hkn hki hkp => ?_, fun c c0 hcn hci i0 => ?_⟩
  · unfold ok
    rw [sws k, if_neg (by omega), if_neg hki, sws, if_neg (by omega), if_neg hkp]
    exact h k k0 (by omega)
  · rw [sws c, if_neg (by omega), if_neg (by omega), sws, if_neg (by omega), if_neg (by omega)]
    exact (hep_dn h).2 c c0 (by omega) hci i0
/-- A timer that was put behind all: the walk up begins. -/
theorem hep_snoc {l : List Tm} (h : Hep l l.length) (t : Tm) : UpInv (l ++ [t]) (l.length + 1) l.length := by
  have hat : ∀ k, k < l.length → at_ (l ++ [t]) k = at_ l k := fun k hk => by simp [at_, List.getD, List.getElem?_append, hk]
  refine ⟨fun i i0 hin hne => ?_, fun c c0 hcn hc _ => by omega⟩
  unfold ok
  rw [hat i (by omega), hat _ (by omega)]
  exact h i i0 (by omega)
theorem hep_min {l : List Tm} {n : Nat} (h : Hep l n) : ∀ k, k < n → lt (at_ l k) (at_ l 0) = false := by
  intro k
  induction k using Nat.strongRecOn with
  | ind k ih =>
    intro hk
    by_cases e : k = 0
    · subst e; exact lt_irrefl _
    · have a := ih ((k - 1) / 2) (by omega) (by omega)
      have b := h k (by omega) hk
      unfold ok at b
      exact le_trans a b
theorem hep_take {l : List Tm} {n : Nat} (h : Hep l n) (hn : n ≤ l.length) : Hep (l.take n) (l.take n).length := by
  have e : (l.take n).length = n := by simp; omega
  have hat : ∀ k, k < n → at_ (l.take n) k = at_ l k := fun k hk => by simp [at_, List.getD, hk]
  rw [e]
  intro i i0 hin
  unfold ok
  rw [hat i hin, hat _ (by omega)]
  exact h i i0 hin
theorem take_last {l : List Tm} {n : Nat} (h : l.length = n + 1) : l = l.take n ++ [at_ l n] := by
  rw [at_get (by omega)]
  have := List.take_append_drop n l
  rw [List.drop_eq_getElem_cons (by omega), List.drop_of_length_le (by omega)] at this
  exact this.symm

/-- In order; numbers each once. -/
def So (s : List Tm) : Prop := s.Pairwise fun a b => lt a b = true
def Nn (s : List Tm) : Prop := s.Pairwise fun a b => a.2 ≠ b.2
theorem Nn.perm {l s : List Tm} (h : l.Perm s) (hs : Nn s) : Nn l := (h.symm.pairwise hs) fun h => Ne.symm h
theorem Nn.at_ne {l : List Tm} (h : Nn l) {i j : Nat} (hi : i < l.length) (hj : j < l.length) (hne : i ≠ j) : (at_ l i).2 ≠ (at_ l j).2 := by
  rw [at_get hi, at_get hj]
  have := List.pairwise_iff_getElem.1 h
  rcases Nat.lt_or_gt_of_ne hne with h1 | h1
  · exact this i j hi hj h1
  · exact (this j i hj hi h1).symm
theorem Nn.inj {l : List Tm} (h : Nn l) {i j : Nat} (hi : i < l.length) (hj : j < l.length) (he : (at_ l i).2 = (at_ l j).2) : i = j := by
  by_cases e : i = j
  · exact e
  · exact absurd he (h.at_ne hi hj e)
/-- The least of a heap is the first of the row in order. -/
theorem first_of {l : List Tm} {t : Tm} {r : List Tm} (h : Hep l l.length) (hp : l.Perm (t :: r)) (hs : So (t :: r)) : at_ l 0 = t := by
  have h0 : 0 < l.length := by rw [hp.length_eq]; simp
  have hm : at_ l 0 ∈ t :: r := hp.mem_iff.1 (at_mem h0)
  obtain ⟨k, hk, e⟩ := mem_at (hp.mem_iff.2 (List.mem_cons_self (a := t) (l := r)))
  have hle := hep_min h k hk
  rw [e] at hle
  rcases List.mem_cons.1 hm with h1 | h1
  · exact h1
  · have := (List.pairwise_cons.1 hs).1 _ h1
    rw [this] at hle
    cases hle

/-- How many stand ahead of one. -/
def cnt (t : Tm) (s : List Tm) : Nat := (s.takeWhile (lt · t)).length
def ins (t : Tm) (s : List Tm) : List Tm := s.take (cnt t s) ++ t :: s.drop (cnt t s)
theorem cnt_le (t : Tm) (s : List Tm) : cnt t s ≤ s.length := by
  unfold cnt
  exact (List.takeWhile_prefix (lt · t)).length_le
theorem takeWhile_take {α : Type} (p : α → Bool) (s : List α) : s.take (s.takeWhile p).length = s.takeWhile p ∧ s.drop (s.takeWhile p).length = s.dropWhile p := by
  induction s with
  | nil => simp
  | cons a r ih =>
    by_cases h : p a
    · simp [h, ih.1, ih.2]
    · simp [h]
theorem cnt_ahead {t : Tm} {s : List Tm} {i : Nat} (h : i < cnt t s) : lt (at_ s i) t = true := by
  have hl := cnt_le t s
  have h1 : at_ s i ∈ s.takeWhile (lt · t) := by
    rw [← (takeWhile_take (lt · t) s).1]
    refine List.mem_iff_getElem.2 ⟨i, by unfold cnt at h hl; rw [List.length_take]; omega, ?_⟩
    rw [List.getElem_take, at_get (by omega)]
  have := List.all_eq_true.1 (List.all_takeWhile (p := (lt · t)) (l := s)) _ h1
  exact this
theorem cnt_stop {t : Tm} {s : List Tm} (h : cnt t s < s.length) : lt (at_ s (cnt t s)) t = false := by
  induction s with
  | nil => simp at h
  | cons a r ih =>
    by_cases h1 : lt a t = true
    · have e : cnt t (a :: r) = cnt t r + 1 := by simp [cnt, h1]
      rw [e] at h ⊢
      have := ih (by simpa using h)
      simpa [at_, List.getD] using this
    · have e : cnt t (a :: r) = 0 := by simp [cnt, h1]
      rw [e]
      simpa [at_, List.getD] using h1
theorem cnt_of {t : Tm} {s : List Tm} {k : Nat} (hk : k ≤ s.length) (h1 : ∀ i, i < k → lt (at_ s i) t = true) (h2 : k < s.length → lt (at_ s k) t = false) : k = cnt t s := by
  rcases Nat.lt_trichotomy k (cnt t s) with h | h | h
  · have a := cnt_ahead h
    have b := h2 (by have := cnt_le t s; omega)
    rw [a] at b; cases b
  · exact h
  · have a := h1 _ h
    have b := cnt_stop (t := t) (s := s) (by omega)
    rw [a] at b; cases b
theorem ins_perm (t : Tm) (s : List Tm) : (ins t s).Perm (t :: s) := by
  unfold ins
  refine List.perm_middle.trans ?_
  rw [List.take_append_drop]
theorem ins_length (t : Tm) (s : List Tm) : (ins t s).length = s.length + 1 := by simpa using (ins_perm t s).length_eq
theorem So.at_lt {s : List Tm} (h : So s) {i j : Nat} (hij : i < j) (hj : j < s.length) : lt (at_ s i) (at_ s j) = true := by
  rw [at_get (by omega), at_get hj]
  exact List.pairwise_iff_getElem.1 h i j _ _ hij
theorem ins_so {t : Tm} {s : List Tm} (h : So s) (hn : ∀ a ∈ s, a.2 ≠ t.2) : So (ins t s) := by
  have hl := cnt_le t s
  unfold ins
  refine List.pairwise_append.2 ⟨h.sublist (List.take_sublist _ _), List.pairwise_cons.2 ⟨fun b hb => ?_, h.sublist (List.drop_sublist _ _)⟩, fun a ha b hb => ?_⟩
  · obtain ⟨i, hi, e⟩ := List.mem_iff_getElem.1 hb
    rw [List.getElem_drop] at e
    simp at hi
    have hlt : cnt t s < s.length := by omega
    have h1 := cnt_stop hlt
    have hb2 : at_ s (cnt t s + i) = b := by rw [at_get (by omega)]; exact e
    have h2 : lt t (at_ s (cnt t s)) = true := by
      by_cases q : lt t (at_ s (cnt t s)) = true
      · exact q
      · have := eq_of h1 (by simpa using q)
        exact absurd (congrArg Prod.snd this) (hn _ (at_mem hlt))
    by_cases i0 : i = 0
    · subst i0; rw [← hb2]; exact h2
    · rw [← hb2]; exact lt_trans h2 (h.at_lt (by omega) (by omega))
  · obtain ⟨i, hi, e⟩ := List.mem_iff_getElem.1 ha
    rw [List.getElem_take] at e
    simp at hi
    have hi1 : i < cnt t s := by omega
    have ha2 : at_ s i = a := by rw [at_get (by omega)]; exact e
    have hat : lt a t = true := ha2 ▸ cnt_ahead hi1
    rcases List.mem_cons.1 hb with rfl | hb
    · exact hat
    · obtain ⟨j, hj, e2⟩ := List.mem_iff_getElem.1 hb
      rw [List.getElem_drop] at e2
      simp at hj
      have hb2 : at_ s (cnt t s + j) = b := by rw [at_get (by omega)]; exact e2
      rw [← ha2, ← hb2]
      exact h.at_lt (by omega) (by omega)
theorem Nn.cons {t : Tm} {s : List Tm} (h : Nn s) (hn : ∀ a ∈ s, a.2 ≠ t.2) : Nn (t :: s) := List.pairwise_cons.2 ⟨fun a ha => (hn a ha).symm, h⟩
theorem ins_nn {t : Tm} {s : List Tm} (h : Nn s) (hn : ∀ a ∈ s, a.2 ≠ t.2) : Nn (ins t s) := (h.cons hn).perm (ins_perm t s)

/-- Is one of a number there? What is left without it. -/
def isin (no : Int) (s : List Tm) : Bool := s.any fun a => a.2 == no
def del (no : Int) (s : List Tm) : List Tm := s.filter fun a => a.2 != no
theorem isin_true {no : Int} {s : List Tm} : isin no s = true ↔ ∃ a ∈ s, a.2 = no := by simp [isin]
theorem isin_false {no : Int} {s : List Tm} : isin no s = false ↔ ∀ a ∈ s, a.2 ≠ no := by simp [isin]
theorem isin_perm {no : Int} {l s : List Tm} (h : l.Perm s) : isin no l = isin no s := by
  by_cases e : isin no s = true
  · rw [e]
    obtain ⟨a, ha, e2⟩ := isin_true.1 e
    exact isin_true.2 ⟨a, h.mem_iff.2 ha, e2⟩
  · have e' : isin no s = false := by simpa using e
    rw [e', isin_false]
    exact fun a ha => isin_false.1 e' a (h.mem_iff.1 ha)
theorem del_so {no : Int} {s : List Tm} (h : So s) : So (del no s) := h.sublist List.filter_sublist
theorem del_nn {no : Int} {s : List Tm} (h : Nn s) : Nn (del no s) := h.sublist List.filter_sublist
/-- What is left of a row whose last one is taken out. -/
theorem del_perm {l s : List Tm} {t : Tm} (hp : (l ++ [t]).Perm s) (hs : Nn s) : l.Perm (del t.2 s) := by
  have h1 : (del t.2 (l ++ [t])).Perm (del t.2 s) := hp.filter _
  have hn : Nn (l ++ [t]) := hs.perm hp
  have h2 : del t.2 (l ++ [t]) = l := by
    have hl : ∀ a ∈ l, a.2 ≠ t.2 := fun a ha => (List.pairwise_append.1 hn).2.2 a ha t (by simp)
    unfold del
    rw [List.filter_append]
    have : l.filter (fun a => a.2 != t.2) = l := List.filter_eq_self.2 fun a ha => by simpa using hl a ha
    simp [this]
  rwa [h2] at h1
theorem del_first {t : Tm} {r : List Tm} (hs : Nn (t :: r)) : del t.2 (t :: r) = r := by
  have hl := (List.pairwise_cons.1 hs).1
  unfold del
  rw [List.filter_cons]
  simp only [bne_self_eq_false, Bool.false_eq_true, if_false]
  exact List.filter_eq_self.2 fun a ha => by simpa using (hl a ha).symm
theorem del_none {no : Int} {s : List Tm} (h : isin no s = false) : del no s = s := List.filter_eq_self.2 fun a ha => by simpa using isin_false.1 h a ha
theorem del_at {s : List Tm} {i : Nat} (hs : Nn s) (hi : i < s.length) : s.take i ++ s.drop (i + 1) = del (at_ s i).2 s := by
  have e : s = s.take i ++ at_ s i :: s.drop (i + 1) := by
    rw [at_get hi, ← List.drop_eq_getElem_cons hi, List.take_append_drop]
  obtain ⟨x, hx⟩ : ∃ x, at_ s i = x := ⟨_, rfl⟩
  obtain ⟨a, ha⟩ : ∃ a, s.take i = a := ⟨_, rfl⟩
  obtain ⟨b, hb⟩ : ∃ b, s.drop (i + 1) = b := ⟨_, rfl⟩
  rw [hx, ha, hb] at e
  rw [hx, ha, hb, e]
  rw [e] at hs
  obtain ⟨_, h2, h3⟩ := List.pairwise_append.1 hs
  have hl : ∀ y ∈ a, y.2 ≠ x.2 := fun y hy => h3 y hy x (by simp)
  have hr : ∀ y ∈ b, x.2 ≠ y.2 := (List.pairwise_cons.1 h2).1
  unfold del
  rw [List.filter_append, List.filter_cons]
  simp only [bne_self_eq_false, Bool.false_eq_true, if_false]
  rw [List.filter_eq_self.2 fun y hy => by simpa using hl y hy, List.filter_eq_self.2 fun y hy => by simpa using (hr y hy).symm]
/-- What is due at a time, and what is not. -/
def dueOf (now : Int) (s : List Tm) : List Tm := s.takeWhile fun t => decide (t.1 ≤ now)
def lateOf (now : Int) (s : List Tm) : List Tm := s.dropWhile fun t => decide (t.1 ≤ now)
theorem due_split {now : Int} {s : List Tm} : ∀ {out rest : List Tm}, out ++ rest = s → (∀ t ∈ out, t.1 ≤ now) → (∀ t r, rest = t :: r → now < t.1) → out = dueOf now s ∧ rest = lateOf now s := by
  intro out
  induction out generalizing s with
  | nil =>
    intro rest h _ hr
    subst h
    unfold dueOf lateOf
    cases rest with
    | nil => exact ⟨rfl, rfl⟩
    | cons t r =>
      have := hr t r rfl
      have h1 : ¬ t.1 ≤ now := by omega
      simp [h1]
  | cons a out ih =>
    intro rest h ho hr
    subst h
    have h1 : a.1 ≤ now := ho a (by simp)
    obtain ⟨h2, h3⟩ := ih (s := out ++ rest) rfl (fun t ht => ho t (by simp [ht])) hr
    unfold dueOf lateOf at *
    simp only [List.cons_append, List.takeWhile_cons, List.dropWhile_cons, h1, decide_true, if_true]
    exact ⟨by rw [← h2], h3⟩
end Go.Proofs.HeapMath
