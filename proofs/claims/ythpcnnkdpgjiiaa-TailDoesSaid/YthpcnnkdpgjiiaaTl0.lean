/-
  How a buffer lies in memory: its own block, the decisions, the heap, the traces that wait with their rows of spans.
-/
import Derived.Test.YthpcnnkdpgjiiaaTlMath
import Derived.Test.YthpcnnkdpgjiiaaTlMap
import Derived.Test.YthpcnnkdpgjiiaaTlSl
namespace Go.Proofs.Ythpcnnkdpgjiiaa
open Go.RowKit Go.Maps Go.Proofs.HeapMath Go.Proofs.TailMath

theorem As.perm {R : Rr} {D : DataW Unit} {l l' : List (Lit × Value)} (h : As R D l) (hp : l.Perm l') : As R D l' :=
  ⟨h.size.trans hp.length_eq, (hp.pairwise_iff (fun {a b} (h : a.1 ≠ b.1) => h.symm)).1 h.nd, fun p hm => h.has p (hp.mem_iff.2 hm), fun k hk => by
    obtain ⟨p, hm, e⟩ := h.only k hk
    exact ⟨p, hp.mem_iff.1 hm, e⟩⟩
/-- The entries E, but for what stands at k, are F. -/
def But (k : Lit) (E F : List (Lit × Value)) : Prop := (E = F ∧ ∀ p ∈ E, p.1 ≠ k) ∨ ∃ a b v0, E = a ++ (k, v0) :: b ∧ F = a ++ b
theorem As.put {R : Rr} {D : DataW Unit} {E F : List (Lit × Value)} {k : Lit} (h : As R D E) (hb : But k E F) (hT : Tidy D) (hk : WideAt.IsKeyLit k) {v : Value} {d : DataW Unit} {ps : List MemPlace} (hv : R v = some (d, ps)) : As R (D.put k d) (F ++ [(k, v)]) := by
  rcases hb with ⟨rfl, hn⟩ | ⟨a, b, v0, rfl, rfl⟩
  · exact h.put_new hT hk hn hv
  · refine (h.put_old hT hk hv).perm ?_
    rw [List.append_assoc]
    exact List.Perm.append_left a (List.perm_append_comm (l₁ := [(k, v)]) (l₂ := b))

/-- The cells of a span. -/
def spL (s : Sp) : List Value := [.int .u64 (s.hi : Int), .int .u64 (s.lo : Int), .int .u64 (s.id : Int), .int .u64 (s.parent : Int), .string s.name, .int .i64 s.start, .int .i64 s.stop, .bool s.bad, .slice none 0 0, .int .u64 (s.rv : Int)]
def spC (l : List Sp) : List Value := l.flatMap spL
theorem spC_append (a b : List Sp) : spC (a ++ b) = spC a ++ spC b := by simp [spC]
theorem spC_cons (s : Sp) (l : List Sp) : spC (s :: l) = spL s ++ spC l := by simp [spC]
theorem spC_length (l : List Sp) : (spC l).length = l.length * 10 := by
  induction l with
  | nil => rfl
  | cons s l ih => rw [spC_cons, List.length_append, ih]; simp [spL]; omega
theorem spL_one (s : Sp) : ∀ u ∈ spL s, u.oneCell' = true := fun u hu => by
  simp [spL] at hu
  rcases hu with h | h | h | h | h | h | h | h | h | h <;> subst h <;> rfl
theorem spC_at {l : List Sp} : ∀ {i : Nat} (h : i < l.length) {j : Nat} (_ : j < 10), (spC l)[i * 10 + j]? = (spL l[i])[j]? := by
  induction l with
  | nil => intro i hi; simp at hi
  | cons s l ih =>
    intro i hi j hj
    have hl : (spL s).length = 10 := rfl
    match i, hi with
    | 0, _ =>
      rw [spC_cons, List.getElem?_append_left (by omega), Nat.zero_mul, Nat.zero_add]
      rfl
    | i + 1, hi =>
      have := ih (i := i) (by simpa using hi) (j := j) hj
      rw [spC_cons, List.getElem?_append_right (by omega), hl, show (i + 1) * 10 + j - 10 = i * 10 + j by omega]
      simpa using this
def spV (s : Sp) : Value := .agg #[.int .u64 (s.hi : Int), .int .u64 (s.lo : Int), .int .u64 (s.id : Int), .int .u64 (s.parent : Int), .string s.name, .int .i64 s.start, .int .i64 s.stop, .bool s.bad, .slice none 0 0, .int .u64 (s.rv : Int)]
def spA (s : Sp) : Array Value := #[.int .u64 (s.hi : Int), .int .u64 (s.lo : Int), .int .u64 (s.id : Int), .int .u64 (s.parent : Int), .string s.name, .int .i64 s.start, .int .i64 s.stop, .bool s.bad, .slice none 0 0, .int .u64 (s.rv : Int)]

/-- A trace that waits, its block, where its spans lie. -/
structure Ge where
  g : Gr
  p : Nat
  A : Option Addr
  cap : Nat
def Ge.v (x : Ge) : Value := .slice x.A x.g.spans.length x.cap
def Ge.own (x : Ge) : List Nat := x.p :: x.v.ownBlock.toList
structure Gok (W : World) (x : Ge) : Prop where
  blk : Blk W x.p #[.int .u64 (x.g.hi : Int), .int .u64 (x.g.lo : Int), x.v] 41
  row : W.ownsRow 0 35 10 x.v x.g.spans.length (spC x.g.spans)
theorem Gok.mut {W W' : World} {x : Ge} (h : Gok W x) {bs : List Nat} (hb : Mut bs W W') (hn : ∀ k ∈ x.own, k ∉ bs) : Gok W' x :=
  ⟨h.blk.mut hb (hn _ (by simp [Ge.own])), row_same h.row fun g hg => hb.block g (h.row.lt g hg).2 (hn g (by simp [Ge.own, hg]))⟩
theorem Gok.lt {W : World} {x : Ge} (h : Gok W x) : ∀ k ∈ x.own, k < W.heap.size := fun k hk => by
  simp [Ge.own] at hk
  rcases hk with rfl | hk
  · exact h.blk.lt
  · exact (h.row.lt k hk).2

def kT (K : List Kn) : List Tr := K.map fun k => (k.hi, k.lo)
def kE (K : List Kn) : List (Lit × Value) := K.map fun k => (tk k.hi k.lo, .int .u8 (k.ay : Int))
def nE (L : List Gr) : List (Lit × Value) := L.map fun g => (tk g.hi g.lo, .int .i64 (g.no : Int))
def gE (G : List Ge) : List (Lit × Value) := G.map fun x => (kl (x.g.no : Int), .pointer (some ⟨x.p, 0, none⟩))
/-- The blocks of a buffer but for its heap's. -/
def core (S T N M : Nat) (v : Value) (G : List Ge) : List Nat := S :: T :: N :: M :: (v.ownBlock.toList ++ G.flatMap Ge.own)
def bfC (b : St) (T N M H : Nat) (v : Value) : Array Value := #[.int .i64 (b.most : Int), .map (some T), v, .pointer (some ⟨H, 0, none⟩), .int .i64 (b.came : Int), .int .i64 (tot b.L : Int), .map (some N), .map (some M), .int .i64 (b.sp : Int), .int .i64 (b.wait : Int), .int .i64 (b.time : Int)]
structure Bf (W : World) (S T N M H : Nat) (v : Value) (hbs : List Nat) (G : List Ge) (b : St) (s : List Tm) : Prop where
  blk : Blk W S (bfC b T N M H v) 79
  told : Am W 83 (plainElem Try.prog 5) T (kE b.K)
  row : Qu W v (kT b.K)
  heap : Hp W hbs H b.sp s
  nums : Am W 83 (plainElem Try.prog 3) N (nE b.L)
  grps : Am W 3 ptrElem M (gE G)
  each : ∀ x ∈ G, Gok W x
  gl : G.map (·.g) = b.L
  nd : (core S T N M v G).Nodup
  hnd : ∀ k ∈ core S T N M v G, k ∉ hbs
theorem Bf.mut {W W' : World} {S T N M H : Nat} {v : Value} {hbs : List Nat} {G : List Ge} {b : St} {s : List Tm} (h : Bf W S T N M H v hbs G b s) {cs : List Nat} (hb : Mut cs W W') (hc : ∀ k ∈ core S T N M v G, k ∉ cs) (hh : ∀ k ∈ hbs, k ∉ cs) : Bf W' S T N M H v hbs G b s := by
  have c1 : ∀ x ∈ G, ∀ k ∈ x.own, k ∉ cs := fun x hx k hk => hc k (by simp only [core, List.mem_cons, List.mem_append, List.mem_flatMap]; exact .inr (.inr (.inr (.inr (.inr ⟨x, hx, hk⟩)))))
  have c2 : ∀ g, v.ownBlock = some g → g ∉ cs := fun g hg => hc g (by simp [core, hg])
  exact { h with
    blk := h.blk.mut hb (hc S (by simp [core]))
    told := h.told.same (hb.block _ h.told.lt (hc T (by simp [core])))
    row := h.row.mut hb c2
    heap := h.heap.mut hb hh
    nums := h.nums.same (hb.block _ h.nums.lt (hc N (by simp [core])))
    grps := h.grps.same (hb.block _ h.grps.lt (hc M (by simp [core])))
    each := fun x hx => (h.each x hx).mut hb (c1 x hx) }
theorem Bf.later {W W' : World} {S T N M H : Nat} {v : Value} {hbs : List Nat} {G : List Ge} {b : St} {s : List Tm} (h : Bf W S T N M H v hbs G b s) (hb : Below W.heap.size W W') : Bf W' S T N M H v hbs G b s := h.mut (cs := []) (Mut.of_below hb) (by simp) (by simp)
theorem Bf.drew {W : World} {S T N M H : Nat} {v : Value} {hbs : List Nat} {G : List Ge} {b : St} {s : List Tm} (h : Bf W S T N M H v hbs G b s) : Bf W.drew S T N M H v hbs G b s := h.mut (cs := []) ((Mut.refl _ _).drew) (by simp) (by simp)
theorem Bf.drewN {W : World} {S T N M H : Nat} {v : Value} {hbs : List Nat} {G : List Ge} {b : St} {s : List Tm} (h : Bf W S T N M H v hbs G b s) (q : Nat) : Bf (W.drewN q) S T N M H v hbs G b s := h.mut (cs := []) ⟨rfl, rfl, rfl, Nat.le_refl _, fun _ _ _ => rfl⟩ (by simp) (by simp)
theorem Bf.lt {W : World} {S T N M H : Nat} {v : Value} {hbs : List Nat} {G : List Ge} {b : St} {s : List Tm} (h : Bf W S T N M H v hbs G b s) : ∀ k ∈ core S T N M v G, k < W.heap.size := fun k hk => by
  simp only [core, List.mem_cons, List.mem_append, List.mem_flatMap] at hk
  rcases hk with rfl | rfl | rfl | rfl | hk | ⟨x, hx, hk⟩
  · exact h.blk.lt
  · exact h.told.lt
  · exact h.nums.lt
  · exact h.grps.lt
  · exact h.row.lt k (by simpa using hk)
  · exact (h.each x hx).lt k hk
/-- A buffer at S, whose blocks are bs. -/
def Tb (W : World) (bs : List Nat) (S : Nat) (b : St) : Prop := ∃ T N M H v hbs G, Bf W S T N M H v hbs G b (tms b.L) ∧ Iv b ∧ bs = core S T N M v G ++ hbs
theorem Tb.lt {W : World} {bs : List Nat} {S : Nat} {b : St} (h : Tb W bs S b) : ∀ k ∈ bs, k < W.heap.size := by
  obtain ⟨T, N, M, H, v, hbs, G, h1, _, rfl⟩ := h
  intro k hk
  rcases List.mem_append.1 hk with e | e
  · exact h1.lt k e
  · exact h1.heap.lt k e
theorem Tb.iv {W : World} {bs : List Nat} {S : Nat} {b : St} (h : Tb W bs S b) : Iv b := by
  obtain ⟨_, _, _, _, _, _, _, _, h1, _⟩ := h
  exact h1
theorem Tb.mut {W W' : World} {bs cs : List Nat} {S : Nat} {b : St} (h : Tb W bs S b) (hb : Mut cs W W') (hc : ∀ k ∈ bs, k ∉ cs) : Tb W' bs S b := by
  obtain ⟨T, N, M, H, v, hbs, G, h1, h2, rfl⟩ := h
  exact ⟨T, N, M, H, v, hbs, G, h1.mut hb (fun k hk => hc k (by simp [hk])) (fun k hk => hc k (by simp [hk])), h2, rfl⟩
theorem Tb.later {W W' : World} {bs : List Nat} {S : Nat} {b : St} (h : Tb W bs S b) (hb : Below W.heap.size W W') : Tb W' bs S b := h.mut (cs := []) (Mut.of_below hb) (by simp)
theorem Tb.drewN {W : World} {bs : List Nat} {S : Nat} {b : St} (h : Tb W bs S b) (q : Nat) : Tb (W.drewN q) bs S b := h.mut (cs := []) ⟨rfl, rfl, rfl, Nat.le_refl _, fun _ _ _ => rfl⟩ (by simp)
/-- It has turned into another one. -/
def TbTo (w : World) (bs : List Nat) (S : Nat) (b : St) (w' : World) : Prop := ∃ bs', Tb w' bs' S b ∧ Mut bs w w' ∧ Ext w bs bs'
end Go.Proofs.Ythpcnnkdpgjiiaa
