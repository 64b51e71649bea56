/-
  How a heap lies in memory: its own block, its row of timers, the map of places; a world in which some blocks alone have turned.
-/
import Derived.Laws.OwnMore
import Derived.Deep.AppendLies
import Derived.Maps.Own
import Derived.Maps.OwnOps
import Derived.Maps.OwnSet
import Derived.Test.YthpcnnkdpgjiiaaBlk0
import Derived.Test.YthpcnnkdpgjiiaaHpMath
namespace Go.Proofs.Ythpcnnkdpgjiiaa
open Go.RowKit Go.Maps Go.Proofs.HeapMath

/-- But for these blocks the world is as it was. -/
structure Mut (bs : List Nat) (w w' : World) : Prop where
  os : w'.os = w.os
  tape : w'.tape = w.tape
  output : w'.output = w.output
  size : w.heap.size ≤ w'.heap.size
  block : ∀ k, k < w.heap.size → k ∉ bs → w'.heap[k]? = w.heap[k]?
theorem Mut.refl (bs : List Nat) (w : World) : Mut bs w w := ⟨rfl, rfl, rfl, Nat.le_refl _, fun _ _ _ => rfl⟩
theorem Mut.trans {bs : List Nat} {a b c : World} (h : Mut bs a b) (k : Mut bs b c) : Mut bs a c :=
  ⟨k.os.trans h.os, k.tape.trans h.tape, k.output.trans h.output, Nat.le_trans h.size k.size, fun i hi hn => (k.block i (Nat.lt_of_lt_of_le hi h.size) hn).trans (h.block i hi hn)⟩
theorem Mut.of_below {bs : List Nat} {w w' : World} (h : Below w.heap.size w w') : Mut bs w w' := ⟨h.os, h.tape, h.output, h.size, fun k hk _ => h.block k hk⟩
theorem Mut.below {bs : List Nat} {w w' : World} {B : Nat} (h : Mut bs w w') (hB : B ≤ w.heap.size) (hbs : ∀ k ∈ bs, B ≤ k) : Below B w w' :=
  ⟨h.os, h.tape, h.output, h.size, fun k hk => h.block k (by omega) fun hm => by have := hbs k hm; omega⟩
theorem Mut.setCell {bs : List Nat} {a w : World} (h : Mut bs a w) {p : Addr} (hp : p.block ∈ bs) (u : Value) : Mut bs a (w.setCell p u) :=
  h.trans ⟨rfl, rfl, rfl, by simp [World.setCell], fun k _ hn => Below.heap_setCell _ _ _ _ (fun e => hn (e ▸ hp))⟩
theorem Mut.wider {bs cs : List Nat} {w w' : World} (h : Mut bs w w') (hs : ∀ k ∈ bs, k ∈ cs) : Mut cs w w' := ⟨h.os, h.tape, h.output, h.size, fun k hk hn => h.block k hk fun hm => hn (hs k hm)⟩
theorem Mut.drew {bs : List Nat} {a w : World} (h : Mut bs a w) : Mut bs a w.drew := ⟨h.os, h.tape, h.output, h.size, h.block⟩
theorem Mut.grown {bs : List Nat} {a w w' : World} {g : Nat} (h : Mut bs a w) (hg : w.grownBy w' (some g)) (hm : g ∈ bs) : Mut bs a w' :=
  h.trans ⟨hg.os, hg.tape, hg.output, hg.size, fun k hk hn => hg.block k hk (by intro e; injection e with e; exact hn (e ▸ hm))⟩
theorem Blk.mut {W W' : World} {g : Nat} {C : Array Value} {T : TypeId} {bs : List Nat} (h : Blk W g C T) (hb : Mut bs W W') (hg : g ∉ bs) : Blk W' g C T := h.same (hb.block _ h.lt hg)
/-- Each of these blocks is one of the elder ones, or new. -/
def Ext (W : World) (bs bs' : List Nat) : Prop := ∀ k ∈ bs', k ∈ bs ∨ W.heap.size ≤ k
theorem Ext.refl (W : World) (bs : List Nat) : Ext W bs bs := fun _ h => .inl h
theorem Ext.trans {W W' : World} {a b c : List Nat} (h : Ext W a b) (k : Ext W' b c) (hs : W.heap.size ≤ W'.heap.size) : Ext W a c := fun x hx => by
  rcases k x hx with h1 | h1
  · exact h x h1
  · exact .inr (by omega)
/-- What came to pass behind another one: blocks that were new then may have turned. -/
theorem Mut.onto {bs cs : List Nat} {a b c : World} (h : Mut bs a b) (k : Mut cs b c) (hx : Ext a bs cs) : Mut bs a c :=
  ⟨k.os.trans h.os, k.tape.trans h.tape, k.output.trans h.output, Nat.le_trans h.size k.size, fun i hi hn => (k.block i (Nat.lt_of_lt_of_le hi h.size) (fun hm => by
    rcases hx i hm with h1 | h1
    · exact hn h1
    · omega)).trans (h.block i hi hn)⟩

/-- The cells of a row of timers. -/
def cl (l : List Tm) : List Value := l.flatMap fun t => [.int .i64 t.1, .int .i64 t.2]
theorem cl_nil : cl [] = [] := rfl
theorem cl_cons (t : Tm) (l : List Tm) : cl (t :: l) = .int .i64 t.1 :: .int .i64 t.2 :: cl l := rfl
theorem cl_append (a b : List Tm) : cl (a ++ b) = cl a ++ cl b := by simp [cl]
theorem cl_length (l : List Tm) : (cl l).length = l.length * 2 := by
  induction l with
  | nil => rfl
  | cons t l ih => rw [cl_cons]; simp [ih]; omega
theorem cl_at {l : List Tm} : ∀ {i : Nat}, i < l.length → (cl l)[i * 2]? = some (.int .i64 (at_ l i).1) ∧ (cl l)[i * 2 + 1]? = some (.int .i64 (at_ l i).2) := by
  induction l with
  | nil => intro i hi; simp at hi
  | cons t l ih =>
    intro i hi
    match i, hi with
    | 0, _ => exact ⟨rfl, rfl⟩
    | i + 1, hi =>
      have := ih (i := i) (by simpa using hi)
      rw [cl_cons, show (i + 1) * 2 = i * 2 + 1 + 1 by omega]
      simpa [at_, List.getD] using this
theorem cl_set {l : List Tm} : ∀ {i : Nat} (t : Tm), i < l.length → ((cl l).set (i * 2) (.int .i64 t.1)).set (i * 2 + 1) (.int .i64 t.2) = cl (l.set i t) := by
  induction l with
  | nil => intro i t hi; simp at hi
  | cons a l ih =>
    intro i t hi
    match i, hi with
    | 0, _ => simp [cl_cons]
    | i + 1, hi =>
      have := ih (i := i) t (by simpa using hi)
      rw [show (i + 1) * 2 = i * 2 + 1 + 1 by omega, List.set_cons_succ, cl_cons, cl_cons]
      simpa using this
theorem cl_take (l : List Tm) (n : Nat) : (cl l).take (n * 2) = cl (l.take n) := by
  induction l generalizing n with
  | nil => simp [cl]
  | cons t l ih =>
    match n with
    | 0 => simp [cl]
    | n + 1 =>
      rw [show (n + 1) * 2 = n * 2 + 1 + 1 by omega, List.take_succ_cons, cl_cons, cl_cons, List.take_succ_cons, List.take_succ_cons, ih]
theorem cl_one (l : List Tm) : ∀ u ∈ cl l, u.oneCell' = true := fun u hu => by
  obtain ⟨t, _, h⟩ := List.mem_flatMap.1 hu
  simp at h
  rcases h with rfl | rfl <;> rfl

/-- The cells of a map of places by number. -/
theorem law_int : Keyed Try.prog 3 := int_keyed Try.underlying3
theorem zero_int (w : World) : (zeroValue 3).run Try.prog w = .ok (.int .i64 0) w := by kernel_rfl
def kl (no : Int) : Lit := .int .i64 no
abbrev z0 : DataW Unit := .lit (.int .i64 0)
def In64 (t : Tm) : Prop := (-9223372036854775808 ≤ t.1 ∧ t.1 ≤ 9223372036854775807) ∧ (-9223372036854775808 ≤ t.2 ∧ t.2 ≤ 9223372036854775807)
theorem wf64 {a : Int} (h1 : -9223372036854775808 ≤ a) (h2 : a ≤ 9223372036854775807) : (Lit.int .i64 a).wf = true := by
  have e1 : IntKind.i64.min = -9223372036854775808 := rfl
  have e2 : IntKind.i64.max = 9223372036854775807 := rfl
  simp only [Lit.wf, Bool.and_eq_true, decide_eq_true_eq]
  omega
theorem key_int {a : Int} (h1 : -9223372036854775808 ≤ a) (h2 : a ≤ 9223372036854775807) : keyOf Try.prog 3 (.int .i64 a) = some (kl a) := keyOf_int_mk Try.underlying3 (wf64 h1 h2)
theorem kl_ne {a b : Int} (h : a ≠ b) : kl a ≠ kl b := fun e => by unfold kl at e; injection e with _ e; exact h e
theorem kl_key (a : Int) : WideAt.IsKeyLit (kl a) := by unfold kl; trivial
/-- The map D tells the places of the timers l. -/
structure Pl (D : DataW Unit) (l : List Tm) : Prop where
  size : Maps.size D = l.length
  has : ∀ i, i < l.length → Maps.has D (kl (at_ l i).2) = true ∧ D.atKey (kl (at_ l i).2) z0 = .lit (.int .i64 (i : Int))
  only : ∀ no, Maps.has D (kl no) = true → ∃ i, i < l.length ∧ (at_ l i).2 = no
def Mp (W : World) (M : Nat) (l : List Tm) : Prop := ∃ D : DataW Unit, W.ownsMap Try.prog 3 (plainElem Try.prog 3) M l.length D ∧ Pl D l
theorem resize {W : World} {M n m : Nat} {D : DataW Unit} (h : W.ownsMap Try.prog 3 (plainElem Try.prog 3) M n D) (hm : Maps.size D ≤ m) : W.ownsMap Try.prog 3 (plainElem Try.prog 3) M m D := by
  obtain ⟨es, clock, h1, h2, h3, h4⟩ := h
  refine ⟨es, clock, h1, h2, ?_, h4⟩
  subst h4
  rw [Maps.size_eq, length_read] at hm
  exact hm
theorem Pl.of_not {D : DataW Unit} {l : List Tm} (h : Pl D l) {no : Int} (hn : isin no l = false) : Maps.has D (kl no) = false := by
  cases e : Maps.has D (kl no)
  · rfl
  · obtain ⟨i, hi, h2⟩ := h.only no e
    exact absurd h2 (isin_false.1 hn _ (at_mem hi))
theorem Pl.is {D : DataW Unit} {l : List Tm} (h : Pl D l) (no : Int) : Maps.has D (kl no) = isin no l := by
  cases e : isin no l
  · exact h.of_not e
  · obtain ⟨a, ha, h2⟩ := isin_true.1 e
    obtain ⟨i, hi, h3⟩ := mem_at ha
    have := (h.has i hi).1
    rwa [h3, h2] at this
theorem Pl.nil : Pl (.map []) [] := ⟨rfl, fun i hi => by simp at hi, fun no h => by simp [Maps.has_eq] at h⟩
/-- One more, behind all. -/
theorem Pl.snoc {D : DataW Unit} {l : List Tm} {t : Tm} (h : Pl D l) (hT : Tidy D) (hn : isin t.2 l = false) : Pl (D.put (kl t.2) (.lit (.int .i64 (l.length : Int)))) (l ++ [t]) := by
  have hat : ∀ k, k < l.length → at_ (l ++ [t]) k = at_ l k := fun k hk => by simp [at_, List.getD, List.getElem?_append, hk]
  have hat2 : at_ (l ++ [t]) l.length = t := by simp [at_, List.getD]
  refine ⟨by rw [size_put hT, h.of_not hn, h.size]; simp, fun i hi => ?_, fun no hno => ?_⟩
  · simp at hi
    by_cases e : i = l.length
    · subst e
      rw [hat2, has_put_same hT.isMap (kl_key _), atKey_put_same hT.isMap (kl_key _)]
      exact ⟨rfl, rfl⟩
    · have hi' : i < l.length := by omega
      have hne : (at_ l i).2 ≠ t.2 := isin_false.1 hn _ (at_mem hi')
      rw [hat i hi', has_put_other (kl_ne hne), atKey_put_other (kl_ne hne)]
      exact h.has i hi'
  · by_cases e : no = t.2
    · exact ⟨l.length, by simp, by rw [hat2, e]⟩
    · rw [has_put_other (kl_ne e)] at hno
      obtain ⟨i, hi, h2⟩ := h.only no hno
      exact ⟨i, by simp; omega, by rw [hat i hi, h2]⟩
/-- Without the last one. -/
theorem Pl.pop {D : DataW Unit} {l : List Tm} {t : Tm} (h : Pl D (l ++ [t])) (hT : Tidy D) (hn : Nn (l ++ [t])) : Pl (D.del (kl t.2)) l := by
  have hat : ∀ k, k < l.length → at_ (l ++ [t]) k = at_ l k := fun k hk => by simp [at_, List.getD, List.getElem?_append, hk]
  have hat2 : at_ (l ++ [t]) l.length = t := by simp [at_, List.getD]
  have ht := (h.has l.length (by simp)).1
  rw [hat2] at ht
  have hl : ∀ a ∈ l, a.2 ≠ t.2 := fun a ha => (List.pairwise_append.1 hn).2.2 a ha t (by simp)
  refine ⟨?_, fun i hi => ?_, fun no hno => ?_⟩
  · have := size_del (k := kl t.2) hT
    rw [ht, h.size] at this
    simpa using this
  · have hne := hl _ (at_mem hi)
    have := h.has i (by simp; omega)
    rw [hat i hi] at this
    rw [has_del_other (kl_ne hne), atKey_del_other (kl_ne hne)]
    exact this
  · by_cases e : no = t.2
    · subst e
      rw [has_del_same] at hno; cases hno
    · rw [has_del_other (kl_ne e)] at hno
      obtain ⟨i, hi, h2⟩ := h.only no hno
      simp at hi
      by_cases e2 : i = l.length
      · subst e2
        rw [hat2] at h2
        exact absurd h2.symm e
      · exact ⟨i, by omega, by rw [hat i (by omega)] at h2; exact h2⟩
/-- Behind an exchange. -/
theorem Pl.swap {D : DataW Unit} {l : List Tm} {i j : Nat} (h : Pl D l) (hT : Tidy D) (hn : Nn l) (hi : i < l.length) (hj : j < l.length) : Pl ((D.put (kl (at_ (sw l i j) i).2) (.lit (.int .i64 (i : Int)))).put (kl (at_ (sw l i j) j).2) (.lit (.int .i64 (j : Int)))) (sw l i j) := by
  have sws := at_sw hi hj
  have hj' : (at_ (sw l i j) j).2 = (at_ l i).2 := by rw [sws, if_pos rfl]
  have hsi : (at_ (sw l i j) i).2 = (at_ l j).2 := by
    rw [sws]
    by_cases e : i = j
    · subst e; rw [if_pos rfl]
    · rw [if_neg e, if_pos rfl]
  have hT1 := hT.put (kl_key (at_ l j).2) (.lit (.int .i64 (i : Int)))
  rw [hj', hsi]
  clear hj' hsi
  have a1 := (h.has i hi).1
  have a2 := (h.has j hj).1
  have a3 : Maps.has (D.put (kl (at_ l j).2) (.lit (.int .i64 (i : Int)))) (kl (at_ l i).2) = true := by
    by_cases e : (at_ l i).2 = (at_ l j).2
    · rw [e]; exact has_put_same hT.isMap (kl_key _) _
    · rw [has_put_other (kl_ne e)]; exact a1
  refine ⟨?_, fun k hk => ?_, fun no hno => ?_⟩
  · rw [size_put hT1, a3, if_pos rfl, size_put hT, a2, if_pos rfl, h.size, length_sw]
  · rw [length_sw] at hk
    rw [sws]
    by_cases e1 : k = j
    · rw [if_pos e1, e1, has_put_same hT1.isMap (kl_key _), atKey_put_same hT1.isMap (kl_key _)]
      exact ⟨rfl, rfl⟩
    · rw [if_neg e1]
      by_cases e2 : k = i
      · rw [if_pos e2]
        have hne : (at_ l j).2 ≠ (at_ l i).2 := hn.at_ne hj hi (by omega)
        rw [has_put_other (kl_ne hne), atKey_put_other (kl_ne hne), has_put_same hT.isMap (kl_key _), atKey_put_same hT.isMap (kl_key _), e2]
        exact ⟨rfl, rfl⟩
      · rw [if_neg e2]
        have n1 : (at_ l k).2 ≠ (at_ l i).2 := hn.at_ne hk hi e2
        have n2 : (at_ l k).2 ≠ (at_ l j).2 := hn.at_ne hk hj e1
        rw [has_put_other (kl_ne n1), atKey_put_other (kl_ne n1), has_put_other (kl_ne n2), atKey_put_other (kl_ne n2)]
        exact h.has k hk
  · have : isin no (sw l i j) = isin no l := isin_perm (sw_perm hi hj)
    have hm : isin no l = true := by
      by_cases e1 : no = (at_ l i).2
      · rw [e1]; exact isin_true.2 ⟨_, at_mem hi, rfl⟩
      · rw [has_put_other (kl_ne e1)] at hno
        by_cases e2 : no = (at_ l j).2
        · rw [e2]; exact isin_true.2 ⟨_, at_mem hj, rfl⟩
        · rw [has_put_other (kl_ne e2), h.is] at hno
          exact hno
    rw [← this] at hm
    obtain ⟨a, ha, e⟩ := isin_true.1 hm
    obtain ⟨k, hk, e2⟩ := mem_at ha
    exact ⟨k, hk, by rw [e2, e]⟩

/-- A row of timers and its map, as container/heap is handed them: the heap's block S, v the slice, M the map's block. -/
structure Rw (W : World) (S M : Nat) (mo v : Value) (l : List Tm) : Prop where
  own : Blk W S #[mo, v, .map (some M)] 108
  row : W.ownsRow 0 123 2 v l.length (cl l)
  map : Mp W M l
  nn : Nn l
  in64 : ∀ t ∈ l, In64 t
  most : l.length ≤ 5000
theorem map_lt {W : World} {M n : Nat} {D : DataW Unit} (h : W.ownsMap Try.prog 3 (plainElem Try.prog 3) M n D) : M < W.heap.size := by
  obtain ⟨es, clock, h1, _⟩ := h
  exact (Array.getElem?_eq_some_iff.1 h1).1
theorem map_same {W W' : World} {M n : Nat} {D : DataW Unit} (h : W.ownsMap Try.prog 3 (plainElem Try.prog 3) M n D) (hb : W'.heap[M]? = W.heap[M]?) : W'.ownsMap Try.prog 3 (plainElem Try.prog 3) M n D := by
  obtain ⟨es, clock, h1, h2⟩ := h
  exact ⟨es, clock, hb.trans h1, h2⟩
theorem Mp.same {W W' : World} {M : Nat} {l : List Tm} (h : Mp W M l) (hb : W'.heap[M]? = W.heap[M]?) : Mp W' M l := by
  obtain ⟨D, h1, h2⟩ := h
  exact ⟨D, map_same h1 hb, h2⟩
theorem Mp.lt {W : World} {M : Nat} {l : List Tm} (h : Mp W M l) : M < W.heap.size := by
  obtain ⟨D, h1, _⟩ := h
  exact map_lt h1
theorem row_same {W W' : World} {base T size n : Nat} {v : Value} {xs : List Value} (h : W.ownsRow base T size v n xs) (hb : ∀ g, v.ownBlock = some g → W'.heap[g]? = W.heap[g]?) : W'.ownsRow base T size v n xs := by
  refine ⟨h.1, ?_⟩
  rcases h.2 with h1 | ⟨g, cap, cur, rfl, h2, h3, h4⟩
  · exact .inl h1
  · exact .inr ⟨g, cap, cur, rfl, h2, (hb g rfl).trans h3, h4⟩
theorem row_base {W : World} {T size n a : Nat} {v : Value} {xs : List Value} (h : W.ownsRow a T size v n xs) : W.ownsRow 0 T size v n xs := by
  refine ⟨h.1, ?_⟩
  rcases h.2 with h1 | ⟨g, cap, cur, rfl, h2, h3, h4⟩
  · exact .inl h1
  · exact .inr ⟨g, cap, cur, rfl, Nat.zero_le _, h3, h4⟩
theorem Rw.mut {W W' : World} {S M : Nat} {mo v : Value} {l : List Tm} (h : Rw W S M mo v l) {bs : List Nat} (hb : Mut bs W W') (hS : S ∉ bs) (hM : M ∉ bs) (hv : ∀ g, v.ownBlock = some g → g ∉ bs) : Rw W' S M mo v l :=
  { h with own := h.own.mut hb hS, row := row_same h.row fun g hg => hb.block g (h.row.lt g hg).2 (hv g hg), map := h.map.same (hb.block _ h.map.lt hM) }
theorem Rw.later {W W' : World} {S M : Nat} {mo v : Value} {l : List Tm} (h : Rw W S M mo v l) (hb : Below W.heap.size W W') : Rw W' S M mo v l := h.mut (bs := []) (Mut.of_below hb) (by simp) (by simp) (by simp)
theorem Rw.drew {W : World} {S M : Nat} {mo v : Value} {l : List Tm} (h : Rw W S M mo v l) : Rw W.drew S M mo v l := h.mut (bs := []) ((Mut.refl _ _).drew) (by simp) (by simp) (by simp)
/-- Where the row lies, if one is there. -/
theorem Rw.slice {W : World} {S M : Nat} {mo v : Value} {l : List Tm} (h : Rw W S M mo v l) (h0 : 0 < l.length) : ∃ B cap, v = .slice (some ⟨B, 0, none⟩) l.length cap ∧ l.length ≤ cap ∧ cap ≤ maxLen ∧ B < W.heap.size := by
  rcases h.row.2 with ⟨_, h1⟩ | ⟨g, cap, cur, rfl, _, h3, h4, h5, _⟩
  · omega
  · exact ⟨g, cap, rfl, h4, h5, (Array.getElem?_eq_some_iff.1 h3).1⟩
theorem Rw.len {W : World} {S M : Nat} {mo v : Value} {l : List Tm} (h : Rw W S M mo v l) : ∃ A cap, v = .slice A l.length cap ∧ l.length ≤ cap ∧ cap ≤ maxLen := by
  rcases h.row.2 with ⟨h0, h1⟩ | ⟨g, cap, cur, rfl, _, h3, h4, h5, _⟩
  · exact ⟨none, 0, by rw [h1]; exact h0, by omega, by omega⟩
  · exact ⟨_, cap, rfl, h4, h5⟩
theorem Rw.cell {W : World} {S M B cap n : Nat} {mo : Value} {l : List Tm} (h : Rw W S M mo (.slice (some ⟨B, 0, none⟩) n cap) l) {i : Nat} (hi : i < l.length) : W.cell? ⟨B, i * 2, none⟩ = some (.int .i64 (at_ l i).1) ∧ W.cell? ⟨B, i * 2 + 1, none⟩ = some (.int .i64 (at_ l i).2) := by
  have hr := h.row
  obtain ⟨_, _, e, _⟩ := h.len
  injection e with _ e2 _
  subst e2
  rw [hr.cellAt _ (by omega), hr.cellAt _ (by omega)]
  exact cl_at hi
theorem Rw.free {W : World} {S M B cap n : Nat} {mo : Value} {l : List Tm} (h : Rw W S M mo (.slice (some ⟨B, 0, none⟩) n cap) l) (i : Nat) : W.frozen? ⟨B, i, none⟩ = false := by
  have hr := h.row
  obtain ⟨_, _, e, _⟩ := h.len
  injection e with _ e2 _
  subst e2
  exact hr.frozenAt i
theorem Rw.len2 {W : World} {S M n cap : Nat} {A : Option Addr} {mo : Value} {l : List Tm} (h : Rw W S M mo (.slice A n cap) l) : n = l.length ∧ l.length ≤ cap ∧ cap ≤ maxLen := by
  obtain ⟨_, _, e, h1, h2⟩ := h.len
  injection e with _ e2 e3
  subst e3
  exact ⟨e2, h1, h2⟩
/-- The three lie apart. -/
theorem Rw.apart {W : World} {S M B cap n : Nat} {mo : Value} {l : List Tm} (h : Rw W S M mo (.slice (some ⟨B, 0, none⟩) n cap) l) : S ≠ B ∧ S ≠ M ∧ B ≠ M := by
  obtain ⟨D, ⟨es, clock, hm, _⟩, _⟩ := h.map
  have hS := h.own
  unfold Blk at hS
  obtain ⟨cur, T⟩ : ∃ cur, W.heap[B]? = some (.cells cur 123) := by
    rcases h.row.2 with ⟨h1, _⟩ | ⟨g, cap, cur, e, _, h3, _⟩
    · cases h1
    · injection e with e1 _ _
      injection e1 with e1
      injection e1 with e1 _ _
      subst e1
      exact ⟨cur, h3⟩
  refine ⟨fun e => ?_, fun e => ?_, fun e => ?_⟩
  · subst e; rw [hS] at T; simp at T
  · subst e; rw [hS] at hm; simp at hm
  · subst e; rw [hm] at T; simp at T
theorem Rw.apart2 {W : World} {S M : Nat} {mo v : Value} {l : List Tm} (h : Rw W S M mo v l) : S ≠ M := by
  obtain ⟨D, ⟨es, clock, hm, _⟩, _⟩ := h.map
  have hS := h.own
  unfold Blk at hS
  intro e
  subst e; rw [hS] at hm; simp at hm
end Go.Proofs.Ythpcnnkdpgjiiaa
