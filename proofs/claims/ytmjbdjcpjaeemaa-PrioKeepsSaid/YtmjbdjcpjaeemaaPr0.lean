/-
  How a sampler lies in memory: its own block, its row of offers; a world in which some blocks alone have turned.
-/
import Derived.Laws.OwnMore
import Derived.Deep.AppendLies
import Derived.Test.YtmjbdjcpjaeemaaBlk0
import Derived.Test.YtmjbdjcpjaeemaaPrMath
namespace Go.Proofs.Ytmjbdjcpjaeemaa
open Go.RowKit Go.Proofs.PrioMath

/-- But for these blocks the world is as it was. -/
structure Mut (bs : List Nat) (w w' : World) : Prop where
  os : w'.os = w.os
  tape : w'.tape = w.tape
  output : w'.output = w.output
  size : w.heap.size ≤ w'.heap.size
  block : ∀ k, k < w.heap.size → k ∉ bs → w'.heap[k]? = w.heap[k]?
theorem Mut.refl (bs : List Nat) (w : World) : Mut bs w w := ⟨rfl, rfl, rfl, Nat.le_refl _, fun _ _ _ => rfl⟩
theorem Mut.trans {bs : List Nat} {a b c : World} (h : Mut bs a b) (k : Mut bs b c) : Mut bs a c :=
  ⟨k.os.trans h.os, k.tape.trans h.tape, k.output.trans h.output, Nat.le_trans h.size k.size, fun i hi hn => (k.block i (Nat.lt_of_lt_of_le hi h.size) hn).trans (h.block i hi hn)⟩
theorem Mut.of_below {bs : List Nat} {w w' : World} (h : Below w.heap.size w w') : Mut bs w w' := ⟨h.os, h.tape, h.output, h.size, fun k hk _ => h.block k hk⟩
theorem Mut.below {bs : List Nat} {w w' : World} {B : Nat} (h : Mut bs w w') (hB : B ≤ w.heap.size) (hbs : ∀ k ∈ bs, B ≤ k) : Below B w w' :=
  ⟨h.os, h.tape, h.output, h.size, fun k hk => h.block k (by omega) fun hm => by have := hbs k hm; omega⟩
theorem Mut.setCell {bs : List Nat} {a w : World} (h : Mut bs a w) {p : Addr} (hp : p.block ∈ bs) (u : Value) : Mut bs a (w.setCell p u) :=
  h.trans ⟨rfl, rfl, rfl, by simp [World.setCell], fun k _ hn => Below.heap_setCell _ _ _ _ (fun e => hn (e ▸ hp))⟩
theorem Mut.wider {bs cs : List Nat} {w w' : World} (h : Mut bs w w') (hs : ∀ k ∈ bs, k ∈ cs) : Mut cs w w' := ⟨h.os, h.tape, h.output, h.size, fun k hk hn => h.block k hk fun hm => hn (hs k hm)⟩
theorem Mut.drew {bs : List Nat} {a w : World} (h : Mut bs a w) : Mut bs a w.drew := ⟨h.os, h.tape, h.output, h.size, h.block⟩
theorem Mut.grown {bs : List Nat} {a w w' : World} {g : Nat} (h : Mut bs a w) (hg : w.grownBy w' (some g)) (hm : g ∈ bs) : Mut bs a w' :=
  h.trans ⟨hg.os, hg.tape, hg.output, hg.size, fun k hk hn => hg.block k hk (by intro e; injection e with e; exact hn (e ▸ hm))⟩
theorem Blk.mut {W W' : World} {g : Nat} {C : Array Value} {T : TypeId} {bs : List Nat} (h : Blk W g C T) (hb : Mut bs W W') (hg : g ∉ bs) : Blk W' g C T := h.same (hb.block _ h.lt hg)
/-- Each of these blocks is one of the elder ones, or new. -/
def Ext (W : World) (bs bs' : List Nat) : Prop := ∀ k ∈ bs', k ∈ bs ∨ W.heap.size ≤ k
theorem Ext.refl (W : World) (bs : List Nat) : Ext W bs bs := fun _ h => .inl h
theorem Ext.trans {W W' : World} {a b c : List Nat} (h : Ext W a b) (k : Ext W' b c) (hs : W.heap.size ≤ W'.heap.size) : Ext W a c := fun x hx => by
  rcases k x hx with h1 | h1
  · exact h x h1
  · exact .inr (by omega)
/-- What came to pass behind another one: blocks that were new then may have turned. -/
theorem Mut.onto {bs cs : List Nat} {a b c : World} (h : Mut bs a b) (k : Mut cs b c) (hx : Ext a bs cs) : Mut bs a c :=
  ⟨k.os.trans h.os, k.tape.trans h.tape, k.output.trans h.output, Nat.le_trans h.size k.size, fun i hi hn => (k.block i (Nat.lt_of_lt_of_le hi h.size) (fun hm => by
    rcases hx i hm with h1 | h1
    · exact hn h1
    · omega)).trans (h.block i hi hn)⟩

/-- The cells of a row of offers. -/
def oc (t : Of) : List Value := [.int .i64 (t.p : Int), .int .u64 (t.w : Int), .int .u64 (t.d : Int)]
def cl (l : List Of) : List Value := l.flatMap oc
theorem cl_nil : cl [] = [] := rfl
theorem cl_cons (t : Of) (l : List Of) : cl (t :: l) = .int .i64 (t.p : Int) :: .int .u64 (t.w : Int) :: .int .u64 (t.d : Int) :: cl l := rfl
theorem cl_append (a b : List Of) : cl (a ++ b) = cl a ++ cl b := by simp [cl]
theorem cl_length (l : List Of) : (cl l).length = l.length * 3 := by
  induction l with
  | nil => rfl
  | cons t l ih => rw [cl_cons]; simp [ih]; omega
theorem cl_at {l : List Of} : ∀ {i : Nat}, i < l.length → (cl l)[i * 3]? = some (.int .i64 ((at_ l i).p : Int)) ∧ (cl l)[i * 3 + 1]? = some (.int .u64 ((at_ l i).w : Int)) ∧ (cl l)[i * 3 + 2]? = some (.int .u64 ((at_ l i).d : Int)) := by
  induction l with
  | nil => intro i hi; simp at hi
  | cons t l ih =>
    intro i hi
    match i, hi with
    | 0, _ => exact ⟨rfl, rfl, rfl⟩
    | i + 1, hi =>
      have := ih (i := i) (by simpa using hi)
      rw [cl_cons, show (i + 1) * 3 = i * 3 + 1 + 1 + 1 by omega]
      simpa [at_, List.getD] using this
theorem cl_set {l : List Of} : ∀ {i : Nat} (t : Of), i < l.length → (((cl l).set (i * 3) (.int .i64 (t.p : Int))).set (i * 3 + 1) (.int .u64 (t.w : Int))).set (i * 3 + 2) (.int .u64 (t.d : Int)) = cl (l.set i t) := by
  induction l with
  | nil => intro i t hi; simp at hi
  | cons a l ih =>
    intro i t hi
    match i, hi with
    | 0, _ => simp [cl_cons]
    | i + 1, hi =>
      have := ih (i := i) t (by simpa using hi)
      rw [show (i + 1) * 3 = i * 3 + 1 + 1 + 1 by omega, List.set_cons_succ, cl_cons, cl_cons]
      simpa using this
theorem cl_take (l : List Of) (n : Nat) : (cl l).take (n * 3) = cl (l.take n) := by
  induction l generalizing n with
  | nil => simp [cl]
  | cons t l ih =>
    match n with
    | 0 => simp [cl]
    | n + 1 =>
      rw [show (n + 1) * 3 = n * 3 + 1 + 1 + 1 by omega, List.take_succ_cons, cl_cons, cl_cons, List.take_succ_cons, List.take_succ_cons, List.take_succ_cons, ih]
theorem cl_one (l : List Of) : ∀ u ∈ cl l, u.oneCell' = true := fun u hu => by
  obtain ⟨t, _, h⟩ := List.mem_flatMap.1 hu
  simp [oc] at h
  rcases h with rfl | rfl | rfl <;> rfl

/-- Its numbers fit. -/
def Fit (t : Of) : Prop := t.w < 18446744073709551616 ∧ t.d < 18446744073709551616
/-- A row of offers, as container/heap is handed it: the sampler's block S, v the slice. -/
structure Rw (W : World) (S : Nat) (mo : Value × Value × Value) (v : Value) (l : List Of) : Prop where
  own : Blk W S #[mo.1, mo.2.1, mo.2.2, v] 55
  row : W.ownsRow 0 59 3 v l.length (cl l)
  fit : ∀ t ∈ l, Fit t
  most : l.length ≤ 5000
theorem row_same {W W' : World} {base T size n : Nat} {v : Value} {xs : List Value} (h : W.ownsRow base T size v n xs) (hb : ∀ g, v.ownBlock = some g → W'.heap[g]? = W.heap[g]?) : W'.ownsRow base T size v n xs := by
  refine ⟨h.1, ?_⟩
  rcases h.2 with h1 | ⟨g, cap, cur, rfl, h2, h3, h4⟩
  · exact .inl h1
  · exact .inr ⟨g, cap, cur, rfl, h2, (hb g rfl).trans h3, h4⟩
theorem row_base {W : World} {T size n a : Nat} {v : Value} {xs : List Value} (h : W.ownsRow a T size v n xs) : W.ownsRow 0 T size v n xs := by
  refine ⟨h.1, ?_⟩
  rcases h.2 with h1 | ⟨g, cap, cur, rfl, h2, h3, h4⟩
  · exact .inl h1
  · exact .inr ⟨g, cap, cur, rfl, Nat.zero_le _, h3, h4⟩
theorem Rw.mut {W W' : World} {S : Nat} {mo : Value × Value × Value} {v : Value} {l : List Of} (h : Rw W S mo v l) {bs : List Nat} (hb : Mut bs W W') (hS : S ∉ bs) (hv : ∀ g, v.ownBlock = some g → g ∉ bs) : Rw W' S mo v l :=
  { h with own := h.own.mut hb hS, row := row_same h.row fun g hg => hb.block g (h.row.lt g hg).2 (hv g hg) }
theorem Rw.later {W W' : World} {S : Nat} {mo : Value × Value × Value} {v : Value} {l : List Of} (h : Rw W S mo v l) (hb : Below W.heap.size W W') : Rw W' S mo v l := h.mut (bs := []) (Mut.of_below hb) (by simp) (by simp)
theorem Rw.drew {W : World} {S : Nat} {mo : Value × Value × Value} {v : Value} {l : List Of} (h : Rw W S mo v l) : Rw W.drew S mo v l := h.mut (bs := []) ((Mut.refl _ _).drew) (by simp) (by simp)
/-- Where the row lies, if one is there. -/
theorem Rw.slice {W : World} {S : Nat} {mo : Value × Value × Value} {v : Value} {l : List Of} (h : Rw W S mo v l) (h0 : 0 < l.length) : ∃ B cap, v = .slice (some ⟨B, 0, none⟩) l.length cap ∧ l.length ≤ cap ∧ cap ≤ maxLen ∧ B < W.heap.size := by
  rcases h.row.2 with ⟨_, h1⟩ | ⟨g, cap, cur, rfl, _, h3, h4, h5, _⟩
  · omega
  · exact ⟨g, cap, rfl, h4, h5, (Array.getElem?_eq_some_iff.1 h3).1⟩
theorem Rw.len {W : World} {S : Nat} {mo : Value × Value × Value} {v : Value} {l : List Of} (h : Rw W S mo v l) : ∃ A cap, v = .slice A l.length cap ∧ l.length ≤ cap ∧ cap ≤ maxLen := by
  rcases h.row.2 with ⟨h0, h1⟩ | ⟨g, cap, cur, rfl, _, h3, h4, h5, _⟩
  · exact ⟨none, 0, by rw [h1]; exact h0, by omega, by omega⟩
  · exact ⟨_, cap, rfl, h4, h5⟩
theorem Rw.len2 {W : World} {S n cap : Nat} {A : Option Addr} {mo : Value × Value × Value} {l : List Of} (h : Rw W S mo (.slice A n cap) l) : n = l.length ∧ l.length ≤ cap ∧ cap ≤ maxLen := by
  obtain ⟨_, _, e, h1, h2⟩ := h.len
  injection e with _ e2 e3
  subst e3
  exact ⟨e2, h1, h2⟩
theorem Rw.cell {W : World} {S B cap n : Nat} {mo : Value × Value × Value} {l : List Of} (h : Rw W S mo (.slice (some ⟨B, 0, none⟩) n cap) l) {i : Nat} (hi : i < l.length) : W.cell? ⟨B, i * 3, none⟩ = some (.int .i64 ((at_ l i).p : Int)) ∧ W.cell? ⟨B, i * 3 + 1, none⟩ = some (.int .u64 ((at_ l i).w : Int)) ∧ W.cell? ⟨B, i * 3 + 2, none⟩ = some (.int .u64 ((at_ l i).d : Int)) := by
  have hr := h.row
  have e := h.len2.1
  subst e
  rw [hr.cellAt _ (by omega), hr.cellAt _ (by omega), hr.cellAt _ (by omega)]
  exact cl_at hi
theorem Rw.free {W : World} {S B cap n : Nat} {mo : Value × Value × Value} {l : List Of} (h : Rw W S mo (.slice (some ⟨B, 0, none⟩) n cap) l) (i : Nat) : W.frozen? ⟨B, i, none⟩ = false := by
  have hr := h.row
  have e := h.len2.1
  subst e
  exact hr.frozenAt i
/-- Both lie apart. -/
theorem Rw.apart {W : World} {S B cap n : Nat} {mo : Value × Value × Value} {l : List Of} (h : Rw W S mo (.slice (some ⟨B, 0, none⟩) n cap) l) : S ≠ B := by
  have hS := h.own
  unfold Blk at hS
  obtain ⟨cur, T⟩ : ∃ cur, W.heap[B]? = some (.cells cur 59) := by
    rcases h.row.2 with ⟨h1, _⟩ | ⟨g, cap, cur, e, _, h3, _⟩
    · cases h1
    · injection e with e1 _ _
      injection e1 with e1
      injection e1 with e1 _ _
      subst e1
      exact ⟨cur, h3⟩
  intro e
  subst e; rw [hS] at T; simp at T
end Go.Proofs.Ytmjbdjcpjaeemaa
