/-
  Plain mathematics of layer 4: a state's text cut into members, and those into keys and values. No program is named here.
-/
import Derived.Test.YtkfidolbbnmjfaaDoorCtxMath
import Derived.Lib.Bytealg
namespace Go.Proofs.CtxState
open Go

def bs (l : List UInt8) : ByteArray := ⟨l.toArray⟩
theorem bs_list (s : ByteArray) : bs s.data.toList = s := by simp [bs]
theorem list_bs (l : List UInt8) : (bs l).data.toList = l := by simp [bs]
theorem size_bs (l : List UInt8) : (bs l).size = l.length := by simp [bs, ByteArray.size]
theorem bs_inj {a b : List UInt8} (h : bs a = bs b) : a = b := by rw [← list_bs a, h, list_bs]
theorem take_bs (s : ByteArray) (i : Nat) : s.extract 0 i = bs (s.data.toList.take i) := by
  rw [← bs_list (s.extract 0 i)]; congr 1; simp [ByteArray.data_extract]
theorem drop_bs (s : ByteArray) (i : Nat) : s.extract i s.size = bs (s.data.toList.drop i) := by
  rw [← bs_list (s.extract i s.size)]; congr 1
  simp only [ByteArray.data_extract, Array.toList_extract, List.extract_eq_take_drop]
  rw [List.take_of_length_le]; simp

/-- Ahead of the first c, and behind it. -/
def cutAt (c : UInt8) : List UInt8 → Option (List UInt8 × List UInt8)
  | [] => none
  | b :: l => if b == c then some ([], l) else match cutAt c l with | none => none | some (x, y) => some (b :: x, y)
/-- At each c: one piece at least. -/
def split (c : UInt8) : List UInt8 → List (List UInt8)
  | [] => [[]]
  | b :: l => if b == c then [] :: split c l else match split c l with | [] => [[b]] | p :: ps => (b :: p) :: ps

theorem index_cases (l : List UInt8) (c : UInt8) : (Lib.indexByte l c = -1 ∧ cutAt c l = none ∧ split c l = [l]) ∨
    (∃ i : Nat, Lib.indexByte l c = (i : Int) ∧ i < l.length ∧ cutAt c l = some (l.take i, l.drop (i + 1)) ∧ split c l = l.take i :: split c (l.drop (i + 1))) := by
  induction l with
  | nil => exact .inl ⟨rfl, rfl, rfl⟩
  | cons b l ih =>
    unfold Lib.indexByte
    by_cases hb : (b == c) = true
    · rw [if_pos hb]
      exact .inr ⟨0, rfl, by simp, by simp [cutAt, hb], by simp [split, hb]⟩
    · rw [if_neg hb]
      rcases ih with ⟨h1, h2, h3⟩ | ⟨i, h1, h2, h3, h4⟩
      · exact .inl ⟨by simp [h1], by simp [cutAt, hb, h2], by simp [split, hb, h3]⟩
      · refine .inr ⟨i + 1, ?_, Nat.succ_lt_succ h2, by simp [cutAt, hb, h3], by simp [split, hb, h4]⟩
        rw [h1]
        have : ((i : Int) == -1) = false := by simp
        rw [this]; rfl

/-- A text's pieces as a program's texts. -/
def splitB (c : UInt8) (s : ByteArray) : List ByteArray := (split c s.data.toList).map bs
theorem splitB_cases (s : ByteArray) (c : UInt8) : (Lib.indexByte s.data.toList c = -1 ∧ splitB c s = [s] ∧ cutAt c s.data.toList = none) ∨
    (∃ i : Nat, Lib.indexByte s.data.toList c = (i : Int) ∧ i < s.size ∧ splitB c s = s.extract 0 i :: splitB c (s.extract (i + 1) s.size) ∧
      ∃ x y, cutAt c s.data.toList = some (x, y) ∧ s.extract 0 i = bs x ∧ s.extract (i + 1) s.size = bs y) := by
  rcases index_cases s.data.toList c with ⟨h1, h2, h3⟩ | ⟨i, h1, h2, h3, h4⟩
  · exact .inl ⟨h1, by simp [splitB, h3, bs_list], h2⟩
  · refine .inr ⟨i, h1, by simpa using h2, ?_, _, _, h3, take_bs s i, drop_bs s (i + 1)⟩
    unfold splitB
    rw [h4, take_bs, drop_bs, list_bs]; rfl

/-- Names, each with what stands behind it, up to a piece that is no pair; whether there was one. -/
def pairs (c : UInt8) : List (List UInt8) → List (List UInt8 × List UInt8) × Bool
  | [] => ([], false)
  | p :: ps => match cutAt c p with | none => ([], true) | some kv => (kv :: (pairs c ps).1, (pairs c ps).2)

theorem pairs_app (c : UInt8) (r : List (List UInt8)) : ∀ l : List (List UInt8), (pairs c l).2 = false → pairs c (l ++ r) = ((pairs c l).1 ++ (pairs c r).1, (pairs c r).2)
  | [], _ => rfl
  | p :: ps, h => by
    rw [List.cons_append, pairs, pairs]
    cases hc : cutAt c p with
    | none => rw [pairs, hc] at h; cases h
    | some kv => rw [pairs, hc] at h; simp only; rw [pairs_app c r ps h]; rfl
theorem pairs_none {c : UInt8} {x : List UInt8} (h : cutAt c x = none) (r : List (List UInt8)) : pairs c (x :: r) = ([], true) := by rw [pairs, h]
theorem pairs_some {c : UInt8} {x : List UInt8} {kv : List UInt8 × List UInt8} (h : cutAt c x = some kv) (r : List (List UInt8)) : pairs c (x :: r) = (kv :: (pairs c r).1, (pairs c r).2) := by rw [pairs, h]
abbrev lst (t : ByteArray) : List UInt8 := t.data.toList
theorem lst_bs (l : List (List UInt8)) : (l.map bs).map lst = l := by
  rw [List.map_map]
  have : (lst ∘ bs) = id := by funext x; exact list_bs x
  rw [this, List.map_id]
/-- What lies ahead of a piece among all of them. -/
theorem pre_lst {c : UInt8} {s : ByteArray} {pre : List ByteArray} {x : ByteArray} (h : pre ++ [x] <+: splitB c s) : ∃ lr, split c s.data.toList = pre.map lst ++ lst x :: lr := by
  obtain ⟨r, hr⟩ := h
  refine ⟨r.map lst, ?_⟩
  have := congrArg (List.map lst) hr
  unfold splitB at this
  rw [lst_bs] at this
  rw [← this]
  simp
theorem split_len (c : UInt8) : ∀ (l p : List UInt8), p ∈ split c l → p.length ≤ l.length
  | [], p, h => by simp [split] at h; subst h; simp
  | b :: l, p, h => by
    rw [split] at h
    split at h
    · rcases List.mem_cons.1 h with rfl | h
      · simp
      · have := split_len c l p h; rw [List.length_cons]; omega
    · have ih := split_len c l
      cases hs : split c l with
      | nil => rw [hs] at h; simp at h; subst h; simp
      | cons q qs =>
        rw [hs] at h ih
        rcases List.mem_cons.1 h with rfl | h
        · have := ih q (by simp); rw [List.length_cons, List.length_cons]; omega
        · have := ih p (List.mem_cons_of_mem _ h); rw [List.length_cons]; omega
theorem piece_len {c : UInt8} {s x : ByteArray} {l lr : List (List UInt8)} (h : split c s.data.toList = l ++ lst x :: lr) : x.size ≤ s.size := by
  have := split_len c s.data.toList (lst x) (by rw [h]; simp)
  simpa using this
theorem pairs_snoc {c : UInt8} {pre : List ByteArray} {x : ByteArray} {kv : List UInt8 × List UInt8} (h : (pairs c (pre.map lst)).2 = false) (hc : cutAt c x.data.toList = some kv) :
    pairs c ((pre ++ [x]).map lst) = ((pairs c (pre.map lst)).1 ++ [kv], false) := by
  rw [List.map_append, pairs_app _ _ _ h, List.map_cons, pairs_some hc]; rfl

def keySigns : List UInt8 := [97, 98, 99, 100, 101, 102, 103, 104, 105, 106, 107, 108, 109, 110, 111, 112, 113, 114, 115, 116, 117, 118, 119, 120, 121, 122, 48, 49, 50, 51, 52, 53, 54, 55, 56, 57, 95, 45, 42, 47, 64]
def keySign (c : UInt8) : Bool := keySigns.contains c
def rightKey (k : List UInt8) : Bool := !k.isEmpty && decide (k.length ≤ 60) && k.all keySign
def valSign (c : UInt8) : Bool := decide (33 ≤ c.toNat) && decide (c.toNat ≤ 126)
def rightVal (v : List UInt8) : Bool := !v.isEmpty && decide (v.length ≤ 200) && !v.contains 61 && v.all valSign

/-- Members, up to what is none, or has a key that was there; whether something was wrong. -/
def mem (bad : Bool) : List (List UInt8) → List (List UInt8 × List UInt8) → List (List UInt8 × List UInt8) × Bool
  | _, [] => ([], bad)
  | seen, kv :: r => if seen.contains kv.1 || !rightKey kv.1 || !rightVal kv.2 then ([], true) else (kv :: (mem bad (seen ++ [kv.1]) r).1, (mem bad (seen ++ [kv.1]) r).2)
def members (s : List UInt8) : List (List UInt8 × List UInt8) × Bool :=
  if s.isEmpty then ([], false) else mem (pairs 61 (split 44 s)).2 [] (pairs 61 (split 44 s)).1

/-- Marks: whether there is a threshold, it, whether there is a number that was drawn, it; and whether something was wrong. -/
structure Mk where
  hasT : Bool
  t : Nat
  hasR : Bool
  r : Nat
  wrong : Bool
deriving DecidableEq

/-- The number of a part's digits, noughts behind them; none: it is wrong. -/
def partOf (least : Nat) (x : List UInt8) : Option Nat :=
  match CtxMath.hexNum x with
  | none => none
  | some n => if decide (least ≤ x.length) && decide (x.length ≤ 14) then some (n * 16 ^ (14 - x.length) % 18446744073709551616) else none
def step (m : Mk) (p : List UInt8 × List UInt8) : Mk :=
  if p.1 = [116, 104] then match m.hasT, partOf 1 p.2 with | false, some n => { m with hasT := true, t := n } | _, _ => { m with wrong := true }
  else if p.1 = [114, 118] then match m.hasR, partOf 14 p.2 with | false, some n => { m with hasR := true, r := n } | _, _ => { m with wrong := true }
  else m
def marksFrom (bad : Bool) : List (List UInt8 × List UInt8) → Mk := fun l => let m := l.foldl step ⟨false, 0, false, 0, false⟩; { m with wrong := m.wrong || bad }
def marks (v : List UInt8) : Mk := marksFrom (pairs 58 (split 59 v)).2 (pairs 58 (split 59 v)).1

def start : Mk := ⟨false, 0, false, 0, false⟩
theorem step_fold (pre : List (List UInt8 × List UInt8)) (x : List UInt8 × List UInt8) : (pre ++ [x]).foldl step start = step (pre.foldl step start) x := by rw [List.foldl_append]; rfl
theorem step_other {m : Mk} {k v : List UInt8} (h1 : k ≠ [116, 104]) (h2 : k ≠ [114, 118]) : step m (k, v) = m := by simp [step, h1, h2]
theorem step_th {m : Mk} {v : List UInt8} {n : Nat} (h : m.hasT = false) (hp : partOf 1 v = some n) : step m ([116, 104], v) = { m with hasT := true, t := n } := by simp [step, h, hp]
theorem step_th_no {m : Mk} {v : List UInt8} (h : m.hasT = true ∨ partOf 1 v = none) : step m ([116, 104], v) = { m with wrong := true } := by
  simp only [step, if_true]
  rcases h with h | h
  · rw [h]
  · rw [h]; cases m.hasT <;> rfl
theorem step_rv {m : Mk} {v : List UInt8} {n : Nat} (h : m.hasR = false) (hp : partOf 14 v = some n) : step m ([114, 118], v) = { m with hasR := true, r := n } := by simp [step, h, hp]
theorem step_rv_no {m : Mk} {v : List UInt8} (h : m.hasR = true ∨ partOf 14 v = none) : step m ([114, 118], v) = { m with wrong := true } := by
  have : ([114, 118] : List UInt8) ≠ [116, 104] := by decide
  simp only [step, if_true, if_neg this]
  rcases h with h | h
  · rw [h]
  · rw [h]; cases m.hasR <;> rfl
theorem pair_lens {d : UInt8} {x : List UInt8} {kv : List UInt8 × List UInt8} (h : cutAt d x = some kv) : kv.1.length ≤ x.length ∧ kv.2.length ≤ x.length := by
  rcases index_cases x d with ⟨_, h2, _⟩ | ⟨i, _, _, h3, _⟩
  · rw [h2] at h; cases h
  · rw [h3] at h; injection h with h; subst h; simp; omega
theorem pairs_lens {d : UInt8} : ∀ (l : List (List UInt8)) (kv : List UInt8 × List UInt8) (n : Nat), (∀ x ∈ l, x.length ≤ n) → kv ∈ (pairs d l).1 → kv.1.length ≤ n ∧ kv.2.length ≤ n
  | [], kv, n, _, h => by cases h
  | p :: ps, kv, n, hl, h => by
    rw [pairs] at h
    cases hc : cutAt d p with
    | none => rw [hc] at h; cases h
    | some q =>
      rw [hc] at h
      rcases List.mem_cons.1 h with rfl | h
      · have := pair_lens hc; have := hl p (by simp); omega
      · exact pairs_lens ps kv n (fun x hx => hl x (List.mem_cons_of_mem _ hx)) h
/-- What a text's pairs are no longer than. -/
theorem told_lens {c d : UInt8} {s : ByteArray} {pre : List (List UInt8 × List UInt8)} {x : List UInt8 × List UInt8} (h : pre ++ [x] <+: (pairs d (split c s.data.toList)).1) : x.1.length ≤ s.size ∧ x.2.length ≤ s.size := by
  have hx : x ∈ (pairs d (split c s.data.toList)).1 := h.subset (by simp)
  refine pairs_lens _ x s.size (fun y hy => ?_) hx
  have := split_len c _ y hy
  simpa using this

def Mk.bent (m : Mk) (b : Bool) : Mk := { m with wrong := m.wrong || b }
abbrev run (l : List (List UInt8 × List UInt8)) : Mk := l.foldl step start
theorem run_snoc (pre : List (List UInt8 × List UInt8)) (x : List UInt8 × List UInt8) : run (pre ++ [x]) = step (run pre) x := step_fold pre x
theorem marks_eq (v : List UInt8) : marks v = (run (pairs 58 (split 59 v)).1).bent (pairs 58 (split 59 v)).2 := rfl
/-- The members told are as they were read up to here. -/
def okPre (bad : Bool) (pre : List (List UInt8 × List UInt8)) : Prop := ∀ r, mem bad [] (pre ++ r) = (pre ++ (mem bad (pre.map Prod.fst) r).1, (mem bad (pre.map Prod.fst) r).2)
theorem okPre_nil (bad : Bool) : okPre bad [] := fun _ => rfl
theorem okPre_snoc {bad : Bool} {pre : List (List UInt8 × List UInt8)} {kv : List UInt8 × List UInt8} (h : okPre bad pre) (h1 : (pre.map Prod.fst).contains kv.1 = false) (h2 : rightKey kv.1 = true) (h3 : rightVal kv.2 = true) : okPre bad (pre ++ [kv]) := fun r => by
  rw [List.append_assoc, h ([kv] ++ r)]
  show (pre ++ (mem bad (pre.map Prod.fst) (kv :: r)).1, (mem bad (pre.map Prod.fst) (kv :: r)).2) = _
  rw [mem, h1, h2, h3]
  simp
theorem okPre_bad {bad : Bool} {pre : List (List UInt8 × List UInt8)} {kv : List UInt8 × List UInt8} (h : okPre bad pre) (hw : ((pre.map Prod.fst).contains kv.1 || !rightKey kv.1 || !rightVal kv.2) = true) (r : List (List UInt8 × List UInt8)) : mem bad [] (pre ++ kv :: r) = (pre, true) := by
  rw [h, mem, hw]; simp
theorem okPre_all {bad : Bool} {pre : List (List UInt8 × List UInt8)} (h : okPre bad pre) : mem bad [] pre = (pre, bad) := by
  have := h []
  simpa [mem] using this
theorem okPre_pre {bad : Bool} {pre r : List (List UInt8 × List UInt8)} (h : okPre bad pre) : pre <+: (mem bad [] (pre ++ r)).1 := by rw [h]; exact ⟨_, rfl⟩
theorem mem_true : ∀ (l : List (List UInt8 × List UInt8)) (seen : List (List UInt8)), (mem true seen l).2 = true
  | [], _ => rfl
  | kv :: r, seen => by
    rw [mem]
    split
    · rfl
    · exact mem_true r _
theorem pairs_count (c : UInt8) : ∀ l : List (List UInt8), (pairs c l).1.length ≤ l.length
  | [] => Nat.le_refl _
  | p :: ps => by
    rw [pairs]
    cases cutAt c p with
    | none => simp
    | some kv => simp only [List.length_cons]; have := pairs_count c ps; omega
theorem split_count (c : UInt8) : ∀ l : List UInt8, (split c l).length ≤ l.length + 1
  | [] => by simp [split]
  | b :: l => by
    have ih := split_count c l
    rw [split]
    split
    · simp only [List.length_cons]; omega
    · cases hs : split c l with
      | nil => simp
      | cons q qs => rw [hs] at ih; simp only [List.length_cons] at ih ⊢; omega
/-- Has a text more bytes, or more pieces, than a state may? -/
def tooLong (cs : List UInt8) : Bool := decide (512 < cs.length) || decide (32 ≤ cs.count 44)
/-- A state's marks, and its other members, in their order. -/
structure St where
  m : Mk
  oth : List (List UInt8)
def stStep (st : St) (kv : List UInt8 × List UInt8) : St :=
  if kv.1 = [111, 116] then { st with m := (marks kv.2).bent st.m.wrong } else { st with oth := st.oth ++ [kv.1 ++ [61] ++ kv.2] }
def st0 : St := ⟨start, []⟩
abbrev foldS (l : List (List UInt8 × List UInt8)) : St := l.foldl stStep st0
theorem foldS_snoc (pre : List (List UInt8 × List UInt8)) (x : List UInt8 × List UInt8) : foldS (pre ++ [x]) = stStep (foldS pre) x := by unfold foldS; rw [List.foldl_append]; rfl
theorem stStep_ot (st : St) (v : List UInt8) : stStep st ([111, 116], v) = { st with m := (marks v).bent st.m.wrong } := by simp [stStep]
theorem stStep_other (st : St) {k : List UInt8} (v : List UInt8) (h : k ≠ [111, 116]) : stStep st (k, v) = { st with oth := st.oth ++ [k ++ [61] ++ v] } := by simp [stStep, h]
theorem oth_count : ∀ (l : List (List UInt8 × List UInt8)) (st : St), (l.foldl stStep st).oth.length ≤ st.oth.length + l.length
  | [], st => Nat.le_refl _
  | kv :: l, st => by
    have := oth_count l (stStep st kv)
    rw [List.foldl_cons, List.length_cons]
    unfold stStep at this ⊢
    split at this <;> simp_all <;> omega
theorem mem_count (bad : Bool) : ∀ (l : List (List UInt8 × List UInt8)) (seen : List (List UInt8)), (mem bad seen l).1.length ≤ l.length
  | [], _ => Nat.le_refl _
  | kv :: r, seen => by
    rw [mem]
    split
    · simp
    · have := mem_count bad r (seen ++ [kv.1]); simp only [List.length_cons]; omega
theorem members_count (cs : List UInt8) : (members cs).1.length ≤ cs.length + 1 := by
  unfold members
  split
  · simp
  · exact Nat.le_trans (mem_count _ _ _) (Nat.le_trans (pairs_count _ _) (split_count _ _))
/-- The error, the marks, the others. -/
def readSt (cs : List UInt8) : Nat × Mk × List (List UInt8) :=
  if tooLong cs then (3, start, []) else
  if (foldS (members cs).1).m.wrong || (members cs).2 then (31, start, []) else (0, (foldS (members cs).1).m, (foldS (members cs).1).oth)
/-- Of the members told each one has a text no longer than the whole. -/
theorem mem_sub (bad : Bool) : ∀ (l : List (List UInt8 × List UInt8)) (seen : List (List UInt8)) (x : List UInt8 × List UInt8), x ∈ (mem bad seen l).1 → x ∈ l
  | [], _, _, h => by cases h
  | kv :: r, seen, x, h => by
    rw [mem] at h
    split at h
    · cases h
    · rcases List.mem_cons.1 h with rfl | h
      · simp
      · exact List.mem_cons_of_mem _ (mem_sub bad r _ x h)
theorem members_lens {s : ByteArray} {pre : List (List UInt8 × List UInt8)} {x : List UInt8 × List UInt8} (h : pre ++ [x] <+: (members s.data.toList).1) : x.1.length ≤ s.size ∧ x.2.length ≤ s.size := by
  have hx : x ∈ (members s.data.toList).1 := h.subset (by simp)
  unfold members at hx
  split at hx
  · cases hx
  · refine pairs_lens _ x s.size (fun y hy => ?_) (mem_sub _ _ _ _ hx)
    have := split_len 44 _ y hy
    simpa using this

end Go.Proofs.CtxState
