/-
  Plain mathematics of layer 4: how the document's own answer reads and lays a state.
-/
import Derived.Test.YtkfidolbbnmjfaaDoorCtxBackS
namespace Go.Proofs.CtxState
open Go Go.Proofs.CtxMath

/-! ### Where a sign stands first -/
theorem index_first (c : UInt8) : ∀ (l : List UInt8) (k : Nat), k < l.length → l.getD k 0 = c → (∀ j, j < k → l.getD j 0 ≠ c) → Lib.indexByte l c = (k : Int)
  | [], k, h, _, _ => by simp at h
  | b :: l, 0, _, h, _ => by
    have : b = c := by simpa using h
    unfold Lib.indexByte
    rw [if_pos (by simp [this])]; rfl
  | b :: l, k + 1, hk, h, hn => by
    have hb : b ≠ c := by have := hn 0 (by omega); simpa using this
    have ih := index_first c l k (by simpa using hk) (by simpa using h) (fun j hj => by have := hn (j + 1) (by omega); simpa using this)
    unfold Lib.indexByte
    rw [if_neg (by simp [hb]), ih]
    have : ((k : Int) == -1) = false := by simp
    rw [this]; rfl
theorem index_never (c : UInt8) : ∀ (l : List UInt8), (∀ j, j < l.length → l.getD j 0 ≠ c) → Lib.indexByte l c = -1
  | [], _ => rfl
  | b :: l, hn => by
    have hb : b ≠ c := by have := hn 0 (by simp); simpa using this
    have ih := index_never c l (fun j hj => by have := hn (j + 1) (by simpa using hj); simpa using this)
    unfold Lib.indexByte
    rw [if_neg (by simp [hb]), ih]
    rfl

/-! ### Values -/
def refVal (v : List UInt8) : Bool := !v.isEmpty && decide (v.length ≤ 200) && v.all markSign
theorem refVal_eq {v : List UInt8} (h : 44 ∉ v) : refVal v = rightVal v := by
  have h1 : v.all markSign = (!v.contains 61 && v.all valSign) := by
    rw [Bool.eq_iff_iff]
    simp only [List.all_eq_true, Bool.and_eq_true, Bool.not_eq_true']
    constructor
    · intro ha
      refine ⟨?_, fun x hx => ?_⟩
      · rw [Bool.eq_false_iff]
        intro hc
        have hc' : 61 ∈ v := by simpa using hc
        have := ha 61 hc'
        revert this; decide
      · have := ha x hx
        unfold markSign at this
        simp only [Bool.and_eq_true] at this
        exact this.1.1
    · rintro ⟨hc, ha⟩ x hx
      unfold markSign
      simp only [Bool.and_eq_true, Bool.not_eq_true', beq_eq_false_iff_ne]
      refine ⟨⟨ha x hx, ?_⟩, ?_⟩
      · intro e; subst e
        have : v.contains 61 = true := by simpa using hx
        rw [hc] at this; cases this
      · intro e; subst e; exact h hx
  unfold refVal rightVal
  rw [h1, Bool.and_assoc, Bool.and_assoc, Bool.and_assoc]
theorem refVal_0 {cs : List UInt8} (h : cs.length = 0) : refVal cs = false := by
  have : cs = [] := List.eq_nil_of_length_eq_zero h
  subst this; rfl
theorem refVal_bad {cs : List UInt8} (h : cs.all markSign = false) : refVal cs = false := by simp only [refVal, h]; simp
theorem refVal_ok {cs : List UInt8} (h : cs.all markSign = true) : refVal cs = (decide (0 < cs.length) && decide (cs.length ≤ 200)) := by
  simp only [refVal, h, Bool.and_true]
  cases cs <;> simp
theorem rightKey_bad {cs : List UInt8} (h : cs.all keySign = false) : rightKey cs = false := by simp only [rightKey, h]; simp
theorem rightKey_ok {cs : List UInt8} (h : cs.all keySign = true) : rightKey cs = (decide (0 < cs.length) && decide (cs.length ≤ 60)) := by
  simp only [rightKey, h, Bool.and_true]
  cases cs <;> simp

/-! ### Pieces -/
/-- At each sign; of nothing nothing. -/
def pieces (c : UInt8) (l : List UInt8) : List (List UInt8) := if l.isEmpty then [] else split c l
theorem pieces_nil (c : UInt8) : pieces c [] = [] := rfl
theorem pieces_some {c : UInt8} {l : List UInt8} (h : l.length ≠ 0) : pieces c l = split c l := by
  unfold pieces; cases l; exact absurd rfl h; rfl
/-- So far: pieces told, and one from 'a' on up to here that has no sign. -/
structure Cut (c : UInt8) (l : List UInt8) (done : List (List UInt8)) (a i : Nat) : Prop where
  le : a ≤ i
  all : split c l = done ++ split c (l.drop a)
  no : c ∉ (l.drop a).take (i - a)
theorem Cut.start (c : UInt8) (l : List UInt8) : Cut c l [] 0 0 := ⟨Nat.le_refl _, by simp, by simp⟩
theorem take_more {l : List UInt8} {a i : Nat} {x : UInt8} (h : a ≤ i) (hi : i < l.length) (hx : l.getD i 0 = x) : (l.drop a).take (i + 1 - a) = (l.drop a).take (i - a) ++ [x] := by
  rw [show i + 1 - a = (i - a) + 1 by omega, List.take_add_one]
  congr 1
  rw [List.getElem?_drop, show a + (i - a) = i by omega, List.getElem?_eq_getElem hi]
  have : l[i] = x := by rw [← hx]; simp [hi]
  rw [this]; rfl
theorem Cut.over {c : UInt8} {l : List UInt8} {done : List (List UInt8)} {a i : Nat} {x : UInt8} (h : Cut c l done a i) (hi : i < l.length) (hx : l.getD i 0 = x) (hn : x ≠ c) : Cut c l done a (i + 1) := by
  refine ⟨by have := h.le; omega, h.all, ?_⟩
  rw [take_more h.le hi hx]
  have := h.no
  simp [this, Ne.symm hn]
theorem drop_at {l : List UInt8} {a i : Nat} {x : UInt8} (h : a ≤ i) (hi : i < l.length) (hx : l.getD i 0 = x) : l.drop a = (l.drop a).take (i - a) ++ x :: l.drop (i + 1) := by
  conv => lhs; rw [← List.take_append_drop (i - a) (l.drop a)]
  congr 1
  rw [List.drop_drop, show a + (i - a) = i by omega, List.drop_eq_getElem_cons hi]
  have : l[i] = x := by rw [← hx]; simp [hi]
  rw [this]
theorem Cut.at {c : UInt8} {l : List UInt8} {done : List (List UInt8)} {a i : Nat} (h : Cut c l done a i) (hi : i < l.length) (hx : l.getD i 0 = c) : Cut c l (done ++ [(l.drop a).take (i - a)]) (i + 1) (i + 1) := by
  refine ⟨Nat.le_refl _, ?_, by simp⟩
  have h1 : split c (l.drop a) = (l.drop a).take (i - a) :: split c (l.drop (i + 1)) := by
    conv => lhs; rw [drop_at h.le hi hx]
    exact split_ahead c _ h.no _
  rw [h.all, h1, List.append_assoc]
  rfl
theorem Cut.last {c : UInt8} {l : List UInt8} {done : List (List UInt8)} {a : Nat} (h : Cut c l done a l.length) : split c l = done ++ [(l.drop a).take (l.length - a)] := by
  have hn := h.no
  have : (l.drop a).take (l.length - a) = l.drop a := List.take_of_length_le (by simp)
  rw [this] at hn ⊢
  rw [h.all, split_alone c _ hn]
theorem Cut.count {c : UInt8} {l : List UInt8} {done : List (List UInt8)} {a i : Nat} (h : Cut c l done a i) : done.length ≤ l.length := by
  have h1 := split_count c l
  have h2 : (split c (l.drop a)).length ≠ 0 := by
    cases hd : l.drop a with
    | nil => simp [split]
    | cons b r =>
      rw [split]
      split
      · simp
      · cases split c r <;> simp
  have := congrArg List.length h.all
  rw [List.length_append] at this
  omega
theorem split_len_count (c : UInt8) : ∀ l : List UInt8, (split c l).length = l.count c + 1
  | [] => rfl
  | b :: l => by
    have ih := split_len_count c l
    rw [split]
    by_cases hb : (b == c) = true
    · rw [if_pos hb, List.length_cons, ih, List.count_cons, if_pos hb]
    · rw [if_neg hb, List.count_cons, if_neg hb]
      cases hs : split c l with
      | nil => rw [hs] at ih; simp at ih
      | cons q qs => rw [hs] at ih; simpa using ih
theorem pieces_long (cs : List UInt8) : tooLong cs = (decide (512 < cs.length) || decide (32 < (pieces 44 cs).length)) := by
  unfold tooLong
  cases cs with
  | nil => rfl
  | cons b l =>
    rw [pieces_some (by simp), split_len_count]
    congr 1
    exact decide_eq_decide.2 (by omega)

/-! ### Members -/
def badKv (acc : List (List UInt8 × List UInt8)) (kv : List UInt8 × List UInt8) : Bool := (acc.map Prod.fst).contains kv.1 || !rightKey kv.1 || !rightVal kv.2
def refMem : List (List UInt8 × List UInt8) → List (List UInt8) → Option (List (List UInt8 × List UInt8))
  | acc, [] => some acc
  | acc, p :: ps => match cutAt 61 p with
    | none => none
    | some kv => if badKv acc kv then none else refMem (acc ++ [kv]) ps
theorem refMem_eq : ∀ (ps : List (List UInt8)) (acc : List (List UInt8 × List UInt8)), refMem acc ps = if (mem (pairs 61 ps).2 (acc.map Prod.fst) (pairs 61 ps).1).2 then none else some (acc ++ (mem (pairs 61 ps).2 (acc.map Prod.fst) (pairs 61 ps).1).1)
  | [], acc => by simp [refMem, pairs, mem]
  | p :: ps, acc => by
    rw [refMem, pairs]
    cases hc : cutAt 61 p with
    | none => simp [mem]
    | some kv =>
      simp only
      rw [mem]
      unfold badKv
      split
      · rfl
      · rw [refMem_eq ps (acc ++ [kv]), List.map_append]
        simp
theorem refMem_members (cs : List UInt8) : refMem [] (pieces 44 cs) = if (members cs).2 then none else some (members cs).1 := by
  rw [refMem_eq]
  unfold members pieces
  cases cs with
  | nil => rfl
  | cons b l => rfl
theorem refMem_none {acc : List (List UInt8 × List UInt8)} {p : List UInt8} (ps : List (List UInt8)) (h : cutAt 61 p = none) : refMem acc (p :: ps) = none := by rw [refMem, h]
theorem refMem_bad {acc : List (List UInt8 × List UInt8)} {p : List UInt8} {kv : List UInt8 × List UInt8} (ps : List (List UInt8)) (h : cutAt 61 p = some kv) (hb : badKv acc kv = true) : refMem acc (p :: ps) = none := by
  rw [refMem, h]; simp only; rw [hb]; rfl
theorem refMem_step {acc : List (List UInt8 × List UInt8)} {p : List UInt8} {kv : List UInt8 × List UInt8} (ps : List (List UInt8)) (h : cutAt 61 p = some kv) (hb : badKv acc kv = false) : refMem acc (p :: ps) = refMem (acc ++ [kv]) ps := by
  rw [refMem, h]; simp only; rw [hb]; rfl

/-! ### Marks -/
def refMk : Mk → List (List UInt8) → Option Mk
  | m, [] => some m
  | m, p :: ps => match cutAt 58 p with
    | none => none
    | some kv => if (step m kv).wrong then none else refMk (step m kv) ps
theorem step_wrong {m : Mk} (h : m.wrong = true) (kv : List UInt8 × List UInt8) : (step m kv).wrong = true := by
  unfold step
  split
  · split <;> simp_all
  · split
    · split <;> simp_all
    · exact h
theorem fold_wrong : ∀ (l : List (List UInt8 × List UInt8)) (m : Mk), m.wrong = true → (l.foldl step m).wrong = true
  | [], _, h => h
  | kv :: l, m, h => by rw [List.foldl_cons]; exact fold_wrong l _ (step_wrong h kv)
theorem refMk_eq : ∀ (ps : List (List UInt8)) (m : Mk), m.wrong = false → refMk m ps = if (((pairs 58 ps).1.foldl step m).bent (pairs 58 ps).2).wrong then none else some (((pairs 58 ps).1.foldl step m).bent (pairs 58 ps).2)
  | [], m, h => by
    show some m = _
    have : (m.bent false) = m := by cases m; simp [Mk.bent]
    simp only [pairs, List.foldl_nil, this, h]
    rfl
  | p :: ps, m, h => by
    rw [refMk, pairs]
    cases hc : cutAt 58 p with
    | none => simp [Mk.bent]
    | some kv =>
      simp only [List.foldl_cons]
      by_cases hw : (step m kv).wrong = true
      · rw [if_pos hw]
        have := fold_wrong (pairs 58 ps).1 _ hw
        simp [Mk.bent, this]
      · rw [if_neg hw, refMk_eq ps _ (by simpa using hw)]
        rfl
theorem refMk_marks (v : List UInt8) : refMk start (split 59 v) = if (marks v).wrong then none else some (marks v) := by
  rw [refMk_eq _ _ rfl, marks_eq]
theorem refMk_none {m : Mk} {p : List UInt8} (ps : List (List UInt8)) (h : cutAt 58 p = none) : refMk m (p :: ps) = none := by rw [refMk, h]
theorem refMk_bad {m : Mk} {p : List UInt8} {kv : List UInt8 × List UInt8} (ps : List (List UInt8)) (h : cutAt 58 p = some kv) (hb : (step m kv).wrong = true) : refMk m (p :: ps) = none := by
  rw [refMk, h]; simp only; rw [hb]; rfl
theorem refMk_step {m : Mk} {p : List UInt8} {kv : List UInt8 × List UInt8} (ps : List (List UInt8)) (h : cutAt 58 p = some kv) (hb : (step m kv).wrong = false) : refMk m (p :: ps) = refMk (step m kv) ps := by
  rw [refMk, h]; simp only; rw [hb]; rfl

/-! ### A state that is read -/
def otOf : List (List UInt8 × List UInt8) → Option (List UInt8)
  | [] => none
  | kv :: l => if kv.1 = [111, 116] then some kv.2 else otOf l
def otRead : Option (List UInt8) → Nat × Mk
  | none => (0, start)
  | some v => if (marks v).wrong then (31, start) else (0, marks v)
theorem fold_m : ∀ (l : List (List UInt8 × List UInt8)) (st : St), (l.map Prod.fst).Nodup → (l.foldl stStep st).m = match otOf l with | none => st.m | some v => (marks v).bent st.m.wrong
  | [], _, _ => rfl
  | kv :: l, st, h => by
    rw [List.map_cons, List.nodup_cons] at h
    rw [List.foldl_cons, otOf]
    by_cases hk : kv.1 = [111, 116]
    · rw [if_pos hk, fold_none l _ (fun x hx e => h.1 (by rw [hk, ← e]; exact List.mem_map_of_mem hx))]
      unfold stStep
      rw [if_pos hk]
    · rw [if_neg hk, fold_m l _ h.2]
      unfold stStep
      rw [if_neg hk]
theorem readSt_ref (cs : List UInt8) : ((readSt cs).1, (readSt cs).2.1) = if tooLong cs then (3, start) else if (members cs).2 then (31, start) else otRead (otOf (members cs).1) := by
  unfold readSt
  split
  · rfl
  · cases hm : (members cs).2 with
    | true => simp
    | false =>
      have hg := members_good hm
      have h1 := fold_m (members cs).1 st0 hg.nodup
      have h2 : (foldS (members cs).1).m = _ := h1
      rw [h2]
      cases otOf (members cs).1 with
      | none => rfl
      | some v =>
        have : (marks v).bent st0.m.wrong = marks v := by
          show (marks v).bent false = _
          cases marks v; simp [Mk.bent]
        simp only [this, otRead]
        cases (marks v).wrong <;> rfl
theorem readSt_oth {cs : List UInt8} (h : (readSt cs).1 = 0) : tooLong cs = false ∧ (members cs).2 = false ∧ (readSt cs).2.2 = (others (members cs).1).map txt := by
  have h1 := h
  unfold readSt at h1 ⊢
  split at h1
  · cases h1
  · rename_i hl
    rw [if_neg hl]
    split at h1
    · cases h1
    · rename_i hm
      rw [if_neg hm]
      simp only [Bool.or_eq_true, not_or, Bool.not_eq_true] at hm
      refine ⟨by simpa using hl, hm.2, ?_⟩
      show (foldS (members cs).1).oth = _
      unfold foldS
      rw [fold_oth]; rfl
theorem otOf_skip {l : List (List UInt8 × List UInt8)} {i : Nat} {kv : List UInt8 × List UInt8} (h : l[i]? = some kv) (hk : kv.1 ≠ [111, 116]) : otOf (l.drop i) = otOf (l.drop (i + 1)) := by
  obtain ⟨hi, he⟩ := List.getElem?_eq_some_iff.1 h
  rw [List.drop_eq_getElem_cons hi, otOf, he, if_neg hk]
theorem otOf_here {l : List (List UInt8 × List UInt8)} {i : Nat} {kv : List UInt8 × List UInt8} (h : l[i]? = some kv) (hk : kv.1 = [111, 116]) : otOf (l.drop i) = some kv.2 := by
  obtain ⟨hi, he⟩ := List.getElem?_eq_some_iff.1 h
  rw [List.drop_eq_getElem_cons hi, otOf, he, if_pos hk]

/-! ### A state that is laid -/
theorem join_snoc (sep x : List UInt8) : ∀ l : List (List UInt8), l ≠ [] → Lib.join (l ++ [x]) sep = Lib.join l sep ++ sep ++ x
  | [], h => (h rfl).elim
  | y :: l, _ => by
    rw [List.cons_append, Lib.join_cons, Lib.join_cons]
    unfold Lib.joinTail
    simp [List.append_assoc]
theorem join_empty {sep : List UInt8} : ∀ l : List (List UInt8), (∀ x ∈ l, x ≠ []) → (Lib.join l sep = [] ↔ l = [])
  | [], _ => by simp [Lib.join_nil]
  | y :: l, h => by
    have := h y (by simp)
    rw [Lib.join_cons]
    cases y with
    | nil => exact (this rfl).elim
    | cons a b => simp
theorem join_long {l : List (List UInt8)} (h : ∀ x ∈ l, (44 : UInt8) ∉ x) : tooLong (Lib.join l [44]) = (decide (512 < (Lib.join l [44]).length) || decide (32 < l.length)) := by
  unfold tooLong
  cases l with
  | nil => rfl
  | cons y r =>
    have h1 := split_join 44 (y :: r) (by simp) h
    have h2 := split_len_count 44 (Lib.join (y :: r) [44])
    rw [h1] at h2
    congr 1
    exact decide_eq_decide.2 (by omega)
theorem others_skip {l : List (List UInt8 × List UInt8)} {i : Nat} {kv : List UInt8 × List UInt8} (h : l[i]? = some kv) (hk : kv.1 = [111, 116]) : others (l.drop i) = others (l.drop (i + 1)) := by
  obtain ⟨hi, he⟩ := List.getElem?_eq_some_iff.1 h
  rw [List.drop_eq_getElem_cons hi, he]
  unfold others
  rw [List.filter_cons]
  simp [hk]
theorem others_here {l : List (List UInt8 × List UInt8)} {i : Nat} {kv : List UInt8 × List UInt8} (h : l[i]? = some kv) (hk : kv.1 ≠ [111, 116]) : others (l.drop i) = kv :: others (l.drop (i + 1)) := by
  obtain ⟨hi, he⟩ := List.getElem?_eq_some_iff.1 h
  rw [List.drop_eq_getElem_cons hi, he]
  unfold others
  rw [List.filter_cons]
  have : (kv.1 == [111, 116]) = false := by simpa using hk
  simp [this]
/-- A threshold's digits, cut from behind up to k, are the short ones. -/
theorem short_take (t k : Nat) (h1 : 1 ≤ k) (h2 : k ≤ 14) (hz : ∀ j, k ≤ j → j < 14 → (CtxMath.last t 14).getD j 0 = 48) (hs : k = 1 ∨ (CtxMath.last t 14).getD (k - 1) 0 ≠ 48) : (CtxMath.last t 14).take k = shortL t := by
  have hl := CtxMath.last_len t 14 (by omega)
  generalize hD : CtxMath.last t 14 = D at *
  have : Lib.trimRightB (D.drop 1) 48 = (D.drop 1).take (k - 1) := by
    refine Lib.trimRightB_take _ _ _ (by simp; omega) ?_ ?_
    · intro j b hj hb
      have := hz (1 + j) (by omega)
      rw [List.getElem?_drop] at hb
      obtain ⟨hj2, he⟩ := List.getElem?_eq_some_iff.1 hb
      have := this (by omega)
      rw [List.getD_eq_getElem?_getD, hb] at this
      exact this
    · intro b hk hb
      rcases hs with hs | hs
      · omega
      · rw [List.getElem?_drop, show 1 + (k - 1 - 1) = k - 1 by omega] at hb
        intro e
        subst e
        rw [List.getD_eq_getElem?_getD, hb] at hs
        exact hs rfl
  unfold shortL
  rw [hD, this]
  obtain ⟨m, rfl⟩ : ∃ m, k = m + 1 := ⟨k - 1, by omega⟩
  cases D with
  | nil => simp
  | cons x D => simp
end Go.Proofs.CtxState
