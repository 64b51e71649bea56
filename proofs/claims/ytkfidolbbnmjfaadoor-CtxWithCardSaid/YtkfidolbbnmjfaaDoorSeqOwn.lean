/-
  A range over a function whose iterator keeps state of its own in cells, and holds loops of the kind itself: its contract, and the law of the loop.
  The iterator may write the blocks T (what it has captured) and what it lays ahead of its first round; a round keeps those.
-/
import Derived.RangeFuncNested
import Derived.RangeFuncLeaves
import Derived.Deep.Draws
import Derived.Maps.Own
namespace Go.Proofs.SeqOwn
open Go Go.RowKit

/-- All that lay in W and is none of T lies as it lay. -/
structure Only (T : Nat → Prop) (W W' : World) : Prop where
  os : W'.os = W.os
  tape : W'.tape = W.tape
  output : W'.output = W.output
  size : W.heap.size ≤ W'.heap.size
  same : ∀ k, k < W.heap.size → ¬ T k → W'.heap[k]? = W.heap[k]?

namespace Only
variable {T T' : Nat → Prop} {A B C : World}
theorem refl (T : Nat → Prop) (W : World) : Only T W W := ⟨rfl, rfl, rfl, Nat.le_refl _, fun _ _ _ => rfl⟩
/-- What a second step turns is of T, or was laid by the first. -/
theorem step (h : Only T A B) (k : Only T' B C) (ht : ∀ i, i < A.heap.size → T' i → T i) : Only T A C :=
  ⟨k.os.trans h.os, k.tape.trans h.tape, k.output.trans h.output, Nat.le_trans h.size k.size, fun i hi hn => (k.same i (Nat.lt_of_lt_of_le hi h.size) (fun e => hn (ht i hi e))).trans (h.same i hi hn)⟩
theorem trans (h : Only T A B) (k : Only T B C) : Only T A C := h.step k (fun _ _ e => e)
theorem mono (h : Only T A B) (ht : ∀ i, i < A.heap.size → T i → T' i) : Only T' A B := ⟨h.os, h.tape, h.output, h.size, fun i hi hn => h.same i hi (fun e => hn (ht i hi e))⟩
theorem alloc (h : Only T A B) (o : Obj) : Only T A (B.alloc o) := h.trans ⟨rfl, rfl, rfl, by simp, fun k hk _ => Below.heap_alloc _ _ _ hk⟩
theorem set (T : Nat → Prop) (W : World) (a : Addr) (v : Value) (ht : T a.block) : Only T W (W.setCell a v) :=
  ⟨rfl, rfl, rfl, by simp [World.setCell], fun k _ hn => Below.heap_setCell _ _ _ _ (fun e => hn (e ▸ ht))⟩
theorem setCell (h : Only T A B) {a : Addr} (v : Value) (ht : a.block < A.heap.size → T a.block) : Only T A (B.setCell a v) :=
  h.step (set (fun k => k = a.block) B a v rfl) (fun i hi e => by have e : i = a.block := e; subst e; exact ht hi)
theorem put (T : Nat → Prop) (W : World) (r : Nat) (o : Obj) (ht : T r) : Only T W (W.putObj r o) :=
  ⟨rfl, rfl, rfl, by simp, fun _ _ hn => World.putObj_heap_other (fun e => hn (e ▸ ht))⟩
theorem putObj (h : Only T A B) {r : Nat} (o : Obj) (ht : r < A.heap.size → T r) : Only T A (B.putObj r o) :=
  h.step (put (fun k => k = r) B r o rfl) (fun i hi e => by have e : i = r := e; subst e; exact ht hi)
theorem drewN (T : Nat → Prop) (W : World) (k : Nat) : Only T W (W.drewN k) := ⟨rfl, rfl, rfl, Nat.le_refl _, fun _ _ _ => rfl⟩
theorem drew (h : Only T A B) : Only T A B.drew := ⟨h.os, h.tape, h.output, h.size, h.same⟩
theorem grown {row : Option Nat} (h : Only T A B) (hg : B.grownBy C row) (hr : ∀ k, row = some k → k < A.heap.size → T k) : Only T A C :=
  h.step (T' := fun k => row = some k) ⟨hg.os, hg.tape, hg.output, hg.size, fun k hk hn => hg.block k hk (fun e => hn e.symm)⟩ (fun i hi e => hr i e hi)
theorem of_below {n : Nat} (h : Below n A B) (ht : ∀ i, i < A.heap.size → n ≤ i → T i) : Only T A B := ⟨h.os, h.tape, h.output, h.size, fun k hk hn => h.block k (by rcases Nat.lt_or_ge k n with e | e; exact e; exact (hn (ht k hk e)).elim)⟩
theorem ofBelow (h : Below A.heap.size A B) : Only T A B := of_below h (fun _ h1 h2 => by omega)
theorem below {n : Nat} (h : Only T A B) (hn : n ≤ A.heap.size) (ht : ∀ i, i < n → ¬ T i) : Below n A B := ⟨h.os, h.tape, h.output, h.size, fun k hk => h.same k (by omega) (ht k hk)⟩
theorem at' (h : Only T A B) {k : Nat} {o : Obj} (hk : A.heap[k]? = some o) (hn : ¬ T k) : B.heap[k]? = some o := (h.same k (Array.getElem?_eq_some_iff.1 hk).1 hn).trans hk
theorem box (h : Only T A B) {k : Nat} {t : TypeId} {v : Value} (hk : Boxed A k t v) (hn : ¬ T k) : Boxed B k t v := h.at' hk hn
theorem cell (h : Only T A B) {a : Addr} {v : Value} (ha : A.cell? a = some v) (hn : ¬ T a.block) : B.cell? a = some v :=
  (World.cell?_of_block (h.same a.block (World.block_lt_of_cell? A a ha) hn)).trans ha
theorem frozen (h : Only T A B) {a : Addr} (ha : a.block < A.heap.size) (hn : ¬ T a.block) : B.frozen? a = A.frozen? a := World.frozen?_of_block (h.same a.block ha hn)
theorem row (h : Only T A B) {base : Nat} {e : TypeId} {size n : Nat} {v : Value} {xs : List Value} (hr : A.ownsRow base e size v n xs) (hn : ∀ i, base ≤ i → ¬ T i) : B.ownsRow base e size v n xs := by
  obtain ⟨h1, h2⟩ := hr
  refine ⟨h1, ?_⟩
  rcases h2 with h2 | ⟨g, cap, cur, rfl, hb, hg, hr⟩
  · exact .inl h2
  · exact .inr ⟨g, cap, cur, rfl, hb, h.at' hg (hn g hb), hr⟩
theorem map {H : Type} {P : Program} {k : TypeId} {R : Value → Option (DataW H × List MemPlace)} {b n : Nat} {D : DataW H} (h : Only T A B) (hm : A.ownsMap P k R b n D) (hn : ¬ T b) : B.ownsMap P k R b n D := by
  obtain ⟨es, clock, hb, r⟩ := hm
  exact ⟨es, clock, h.at' hb hn, r⟩
end Only

/-- The blocks that are the iterator's: what it has captured, and what it has laid ahead of its first round. -/
def Mine (T : Nat → Prop) (B N : Nat) (k : Nat) : Prop := T k ∨ (B ≤ k ∧ k < N)
theorem Mine.wide {T : Nat → Prop} {B B' N k : Nat} (h : Mine T B N k) (hB : B' ≤ B) : Mine T B' N k := h.elim .inl (fun h => .inr ⟨by omega, h.2⟩)

/-- THE CONTRACT OF AN ITERATOR, called in W: it tells xs; S: whether a round may say 'no more'; bad: the block where it leaves word behind all of them that something was wrong. -/
def Tells {α : Type} (F : Fence) (n : Nat) (P : Program) (g : Nat) (lb : Array Value) (encs : α → Array Value) (T : Nat → Prop) (xs : List α) (bad : Option Nat) (S : Prop) (W : World) : Prop :=
  ∀ (l : Nat) (J Jx : Nat → List α → World → Prop) (Jb : Nat → World → Prop),
    (∀ N p A B, W.heap.size ≤ N → N ≤ A.heap.size → J N p A → Only (Mine T W.heap.size N) A B → J N p B) →
    (∀ N p A B, W.heap.size ≤ N → N ≤ A.heap.size → Jx N p A → Only (Mine T W.heap.size N) A B → Jx N p B) →
    (∀ N A B, W.heap.size ≤ N → N ≤ A.heap.size → Jb N A → Only (Mine T W.heap.size N) A B → Jb N B) →
    (∀ b, bad = some b → ∀ N A, W.heap.size ≤ N → N ≤ A.heap.size → J N xs A → Jb N (A.setCell ⟨b, 0, none⟩ (.int .u16 31))) →
    (∀ b, bad = some b → ∀ N p A, J N p A → ∃ t v, Boxed A b t (.int .u16 v)) →
    (∀ N pre x W1, W.heap.size ≤ N → N ≤ W1.heap.size → pre ++ [x] <+: xs → J N pre W1 → YieldAt F (n - 1) P l (encs x) W1 fun e W' =>
      (e = .returned (.bool true) ∧ J N (pre ++ [x]) W' ∧ Only (fun k => ¬ Mine T W.heap.size N k) W1 W') ∨ (S ∧ e = .returned (.bool false) ∧ Jx N (pre ++ [x]) W' ∧ Only (fun k => ¬ Mine T W.heap.size N k) W1 W')) →
    (∀ N W1, Only T W W1 → N = W1.heap.size → J N [] W1) →
    CallsIn F n P g (#[.func (.yield l) #[] #[]] ++ lb) W fun e W' => (∃ v, e = .returned v) ∧ ∃ N, W.heap.size ≤ N ∧ N ≤ W'.heap.size ∧
      ((bad = none ∧ J N xs W') ∨ (bad ≠ none ∧ Jb N W') ∨ (S ∧ ∃ pre, pre <+: xs ∧ Jx N pre W'))

/-- HOW THE BODY OF A ROUND MAY BE LEFT. -/
def minePost {α : Type} (T : Nat → Prop) (B N : Nat) (S : Prop) (I : Nat → List α → World → Prop) (Ix : Nat → Code → List α → World → Prop) (xs : List α) (W : World) : Exit → Act → World → Prop
  | .normal, _, W' => Only (fun k => ¬ Mine T B N k) W W' ∧ I N xs W'
  | .ret, _, W' => S ∧ Only (fun k => ¬ Mine T B N k) W W' ∧ Ix N .ret xs W'
  | _, _, _ => False

variable {F : Fence} {n : Nat} {P : Program}

/-- THE LAW OF THE LOOP. -/
theorem wpIn_range {α : Type} {g : Operand} {ps : Array Tmp} {assign body : Code} {Q : Exit → Act → World → Prop} {a : Act} {w : World}
    (hro : F.round = none) (h1 : F.depth.isSome = true → 1 ≤ n) {gf : Nat} {lb : Array Value} (hg : a.eval g = .func (.func gf) #[] lb) (hFg : F.fn gf) (eg : ∀ args w, (callFunc gf args).run P w = .ok (.enter gf args) w)
    {encs : α → Array Value} {T : Nat → Prop} {xs : List α} {bad : Option Nat} {S : Prop} (hT : ∀ k, T k → k < w.heap.size) (hbr : ∀ b, bad = some b → b < w.heap.size)
    (hseq : ∀ W1, Only (fun _ => False) w W1 → Tells F (n - 1) P gf lb encs T xs bad S W1) (hps : ∀ x, (encs x).size = ps.size)
    (I : Nat → List α → World → Prop) (Ix : Nat → Code → List α → World → Prop) (Ib : Nat → World → Prop)
    (hI : ∀ N p A B, w.heap.size ≤ N → N ≤ A.heap.size → I N p A → Only (Mine T w.heap.size N) A B → I N p B)
    (hIx : ∀ N c p A B, w.heap.size ≤ N → N ≤ A.heap.size → Ix N c p A → Only (Mine T w.heap.size N) A B → Ix N c p B)
    (hIb : ∀ N A B, w.heap.size ≤ N → N ≤ A.heap.size → Ib N A → Only (Mine T w.heap.size N) A B → Ib N B)
    (hbad : ∀ b, bad = some b → ∀ N A, w.heap.size ≤ N → N ≤ A.heap.size → I N xs A → Ib N (A.setCell ⟨b, 0, none⟩ (.int .u16 31)))
    (hrd : ∀ b, bad = some b → ∀ N p A, I N p A → ∃ t v, Boxed A b t (.int .u16 v))
    (h0 : ∀ N W1, Only T w W1 → N = W1.heap.size → I N [] W1)
    (a₁ : α → Act)
    (hassign : ∀ (l : Nat) (x : α) (W : World) (K : Act → World → Prop), K (a₁ x) W →
      assign.wpIn (F.inRound l) (n - 1 - 1) P (Exit.then K (fun _ _ _ => False)) { tmps := (ps.zip (encs x)).foldl (fun t (p, v) => t.setIfInBounds p v) a.tmps, defers := [] } W)
    (hbody : ∀ (l N : Nat) (pre : List α) (x : α) (W : World), w.heap.size ≤ N → N ≤ W.heap.size → pre ++ [x] <+: xs → I N pre W → body.wpIn (F.inRound l) (n - 1 - 1) P (minePost T w.heap.size N S I Ix (pre ++ [x]) W) (a₁ x) W)
    (hdone : ∀ (N : Nat) (W : World), bad = none → w.heap.size < N → N ≤ W.heap.size → I N xs W → W.heap[w.heap.size]? = some (.deferred (some [])) → Q .normal { a with defers := { target := .collected w.heap.size, args := #[] } :: a.defers } W)
    (hfail : ∀ (N : Nat) (W : World), bad ≠ none → w.heap.size < N → N ≤ W.heap.size → Ib N W → W.heap[w.heap.size]? = some (.deferred (some [])) → Q .normal { a with defers := { target := .collected w.heap.size, args := #[] } :: a.defers } W)
    (hstop : ∀ (N : Nat) (c : Code) (pre : List α) (W : World), S → pre <+: xs → w.heap.size < N → N ≤ W.heap.size → Ix N c pre W → W.heap[w.heap.size]? = some (.deferred (some [])) → c.wpIn F n P Q { a with defers := { target := .collected w.heap.size, args := #[] } :: a.defers } W) :
    (Code.rangeFunc g ps assign body).wpIn F n P Q a w := by
  refine wpIn_rangeFunc ?_
  intro fn hfn
  rw [hro]
  obtain ⟨rec, hrec⟩ : ∃ rec : LoopState → Option Code → Loop, rec = fun st pe => { state := st, pending := pe, fn, tmps := a.tmps, params := ps, assign, body, defers := w.heap.size } := ⟨_, rfl⟩
  obtain ⟨W1, hW1⟩ : ∃ W1, (w.alloc (.deferred (some []))).alloc (.loop (rec .ready none)) = W1 := ⟨_, rfl⟩
  have hL1 : W1.heap[w.heap.size + 1]? = some (.loop (rec .ready none)) := by
    rw [← hW1]; have := World.alloc_heap_new (w.alloc (.deferred (some []))) (.loop (rec .ready none)); rwa [World.size_alloc] at this
  have hK1 : W1.heap[w.heap.size]? = some (.deferred (some [])) := by
    rw [← hW1]; exact (Below.heap_alloc _ _ _ (by simp)).trans (World.alloc_heap_new w _)
  have hO1 : Only (fun _ => False) w W1 := by rw [← hW1]; exact ((Only.refl _ w).alloc _).alloc _
  have hS1 : W1.heap.size = w.heap.size + 2 := by rw [← hW1]; simp
  have hTn : ∀ k, w.heap.size ≤ k → ¬ T k := fun k hk e => by have := hT k e; omega
  have hout : ∀ {N k : Nat}, Mine T W1.heap.size N k → Mine T w.heap.size N k := fun h => h.wide (by omega)
  have hnl : ∀ {N : Nat}, ¬ Mine T W1.heap.size N (w.heap.size + 1) := fun h => h.elim (hTn _ (by omega)) (fun h => by omega)
  have hnk : ∀ {N : Nat}, ¬ Mine T W1.heap.size N w.heap.size := fun h => h.elim (hTn _ (by omega)) (fun h => by omega)
  refine ⟨w.heap.size + 1, [{ target := .collected w.heap.size, args := #[] }], W1, { target := .fn (.func gf) lb, args := #[.func (.yield (w.heap.size + 1)) #[] #[]] }, W1, gf,
    #[.func (.yield (w.heap.size + 1)) #[] #[]] ++ lb, W1, ?_, ?_, ?_, ?_, h1, ?_⟩
  · rw [← hW1, hrec]; exact run_enterLoop_outer _ _ _ _ _
  · simp only [resolve, hg]
    simp [go_sem]
  · intro f' hf'; simp [Target.leads] at hf'; subst hf'; exact hFg
  · simp [invoke, go_sem, eg]
  · refine (hseq W1 hO1 (w.heap.size + 1)
      (fun N pre W => I N pre W ∧ W.heap[w.heap.size + 1]? = some (.loop (rec .ready none)) ∧ W.heap[w.heap.size]? = some (.deferred (some [])))
      (fun N pre W => ∃ c, Ix N c pre W ∧ W.heap[w.heap.size + 1]? = some (.loop (rec .done (some c))) ∧ W.heap[w.heap.size]? = some (.deferred (some [])))
      (fun N W => Ib N W ∧ W.heap[w.heap.size + 1]? = some (.loop (rec .ready none)) ∧ W.heap[w.heap.size]? = some (.deferred (some [])))
      (fun N p A B hN hA h hO => ⟨hI N p A B (by omega) hA h.1 (hO.mono (fun _ _ => hout)), hO.at' h.2.1 hnl, hO.at' h.2.2 hnk⟩)
      (fun N p A B hN hA h hO => by
        obtain ⟨c, hc, hl, hk⟩ := h
        exact ⟨c, hIx N c p A B (by omega) hA hc (hO.mono (fun _ _ => hout)), hO.at' hl hnl, hO.at' hk hnk⟩)
      (fun N A B hN hA h hO => ⟨hIb N A B (by omega) hA h.1 (hO.mono (fun _ _ => hout)), hO.at' h.2.1 hnl, hO.at' h.2.2 hnk⟩)
      (fun b hb N A hN hA h => by
        have hbl := hbr b hb
        exact ⟨hbad b hb N A (by omega) hA h.1, (Below.heap_setCell _ _ _ _ (by show _ ≠ b; omega)).trans h.2.1, (Below.heap_setCell _ _ _ _ (by show _ ≠ b; omega)).trans h.2.2⟩)
      (fun b hb N p A h => hrd b hb N p A h.1)
      ?_ ?_).mono ?_
    · -- ONE ROUND
      rintro N pre x W hN hNW hp ⟨hi, hl, hk⟩
      have hlt : w.heap.size + 1 < W.heap.size := (Array.getElem?_eq_some_iff.1 hl).1
      have hy := run_yield (P := P) (args := encs x) hl (by rw [hrec]; exact hps x)
      rw [hrec] at hy
      refine ⟨fn, _, assign, body, hy, roundIn_of_wpIn hfn (hassign _ x W _ ⟨_, run_beginRound hl (by rw [hrec]), ?_⟩)⟩
      clear hy
      obtain ⟨W2, hW2⟩ : ∃ W2, W.putObj (w.heap.size + 1) (.loop { rec .ready none with state := .busy }) = W2 := ⟨_, rfl⟩
      have hl2 : W2.heap[w.heap.size + 1]? = some (.loop { rec .ready none with state := .busy }) := by rw [← hW2]; exact World.putObj_heap_same hlt
      have hk2 : W2.heap[w.heap.size]? = some (.deferred (some [])) := by rw [← hW2]; exact (World.putObj_heap_other (by omega)).trans hk
      have hO2 : Only (fun k => k = w.heap.size + 1) W W2 := by rw [← hW2]; exact Only.put _ _ _ _ rfl
      have hml : Mine T w.heap.size N (w.heap.size + 1) := .inr ⟨by omega, by omega⟩
      have hmk : Mine T w.heap.size N w.heap.size := .inr ⟨by omega, by omega⟩
      have hi2 : I N pre W2 := hI N pre W W2 (by omega) hNW hi (hO2.mono (fun k _ e => by have e : k = _ := e; subst e; exact hml))
      have hNW2 : N ≤ W2.heap.size := by rw [← hW2]; simpa using hNW
      rw [hW2]
      refine wpIn_mono (hbody _ N pre x W2 (by omega) hNW2 hp hi2) ?_
      have fin : ∀ (jump : Option Code) (W3 : World), Only (fun k => ¬ Mine T w.heap.size N k) W2 W3 →
          ∃ W4, (Instr.endRound (w.heap.size + 1) jump).run P W3 = .ok (.bool jump.isNone) W4 ∧ Only (fun k => k = w.heap.size + 1) W3 W4 ∧
          W4.heap[w.heap.size + 1]? = some (.loop (rec (if jump.isNone then .ready else .done) jump)) ∧ W4.heap[w.heap.size]? = some (.deferred (some [])) := fun jump W3 hO3 => by
        have hl3 := hO3.at' hl2 (fun h => h hml)
        have hr := run_endRound (P := P) jump hl3
        rw [hrec] at hr hl3 ⊢
        exact ⟨_, hr, Only.put _ _ _ _ rfl, World.putObj_heap_same (Array.getElem?_eq_some_iff.1 hl3).1, (World.putObj_heap_other (by omega)).trans (hO3.at' hk2 (fun h => h hmk))⟩
      have all : ∀ {W3 W4 : World}, Only (fun k => ¬ Mine T w.heap.size N k) W2 W3 → Only (fun k => k = w.heap.size + 1) W3 W4 → Only (fun k => ¬ Mine T W1.heap.size N k) W W4 := fun h3 h4 => by
        refine ((hO2.mono (T' := fun k => ¬ Mine T W1.heap.size N k) (fun k _ e => by have e : k = _ := e; subst e; exact hnl)).step h3 (fun i _ h e => h (hout e))).step h4 (fun i _ e => by have e : i = _ := e; subst e; exact hnl)
      have keep : ∀ {W3 W4 : World}, Only (fun k => k = w.heap.size + 1) W3 W4 → Only (Mine T w.heap.size N) W3 W4 := fun h4 => h4.mono (fun k _ e => by have e : k = _ := e; subst e; exact hml)
      rintro e a3 W3 hp3
      cases e with
      | normal =>
        obtain ⟨hO3, hi3⟩ := hp3
        obtain ⟨W4, hr, hO4, hl4, hk4⟩ := fin none W3 hO3
        exact ⟨_, W4, hr, .inl ⟨rfl, ⟨hI N _ W3 W4 (by omega) (Nat.le_trans hNW2 hO3.size) hi3 (keep hO4), hl4, hk4⟩, all hO3 hO4⟩⟩
      | ret =>
        obtain ⟨hS, hO3, hi3⟩ := hp3
        obtain ⟨W4, hr, hO4, hl4, hk4⟩ := fin (some .ret) W3 hO3
        exact ⟨_, W4, hr, .inr ⟨hS, rfl, ⟨.ret, hIx N _ _ W3 W4 (by omega) (Nat.le_trans hNW2 hO3.size) hi3 (keep hO4), hl4, hk4⟩, all hO3 hO4⟩⟩
      | exit id => exact hp3.elim
      | goto t => exact hp3.elim
      | panic ch => exact hp3.elim
      | outgrown => exact hp3.elim
    · -- AT THE BEGINNING
      rintro N W2 hO hN
      refine ⟨h0 N W2 ?_ hN, hO.at' hL1 (hTn _ (by omega)), hO.at' hK1 (hTn _ (by omega))⟩
      exact (hO1.mono (T' := T) (fun _ _ h => h.elim)).trans hO
    · -- BEHIND THE ITERATOR
      have fin : ∀ {st : LoopState} {pe : Option Code} {W : World}, st ≠ .busy → W.heap[w.heap.size + 1]? = some (.loop (rec st pe)) → W.heap[w.heap.size]? = some (.deferred (some [])) →
          ∃ W4, (Instr.endLoop (w.heap.size + 1)).run P W = .ok pe W4 ∧ Only (fun k => k = w.heap.size + 1) W W4 ∧ W4.heap[w.heap.size]? = some (.deferred (some [])) := fun hs hl hk => by
        have hr := run_endLoop (P := P) hl (by rw [hrec]; exact hs)
        rw [hrec] at hr
        exact ⟨_, hr, Only.put _ _ _ _ rfl, (World.putObj_heap_other (by omega)).trans hk⟩
      rintro e W2 ⟨⟨v, rfl⟩, N, hN, hN2, h⟩
      have hml : Mine T w.heap.size N (w.heap.size + 1) := .inr ⟨by omega, by omega⟩
      have keep : ∀ {W3 W4 : World}, Only (fun k => k = w.heap.size + 1) W3 W4 → Only (Mine T w.heap.size N) W3 W4 := fun h4 => h4.mono (fun k _ e => by have e : k = _ := e; subst e; exact hml)
      rcases h with ⟨hb, hi, hl, hk⟩ | ⟨hb, hi, hl, hk⟩ | ⟨hS, pre, hp, c, hi, hl, hk⟩
      · obtain ⟨W4, hr, hO4, hk4⟩ := fin (by simp) hl hk
        exact ⟨none, W4, hr, hdone N W4 hb (by omega) (Nat.le_trans hN2 hO4.size) (hI N _ W2 W4 (by omega) hN2 hi (keep hO4)) hk4⟩
      · obtain ⟨W4, hr, hO4, hk4⟩ := fin (by simp) hl hk
        exact ⟨none, W4, hr, hfail N W4 hb (by omega) (Nat.le_trans hN2 hO4.size) (hIb N W2 W4 (by omega) hN2 hi (keep hO4)) hk4⟩
      · obtain ⟨W4, hr, hO4, hk4⟩ := fin (by simp) hl hk
        exact ⟨some c, W4, hr, hstop N c pre W4 hS hp (by omega) (Nat.le_trans hN2 hO4.size) (hIx N c _ W2 W4 (by omega) hN2 hi (keep hO4)) hk4⟩

theorem roundIn_wide {m m' l l2 : Nat} {f : FuncId} {tmps : Array Value} {assign body : Code} {w : World} {R : Ending → World → Prop} (h : RoundIn Fence.wide m P l f tmps assign body w R) : RoundIn (Fence.wide.inRound l2) m' P l f tmps assign body w R :=
  ⟨trivial, fun c cs _ => h.2 c cs (room_wide _)⟩
theorem wide_depth : (Fence.wide.depth.isSome = true) = False := by simp [Fence.wide]
theorem wide_fn (k : FuncId) : Fence.wide.fn k = True := rfl
theorem round_depth (l : Nat) : ((Fence.wide.inRound l).depth.isSome = true) = False := by simp [Fence.wide, Fence.inRound]
theorem round_fn (l : Nat) (k : FuncId) : (Fence.wide.inRound l).fn k = True := rfl

end Go.Proofs.SeqOwn
