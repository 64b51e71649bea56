/-
  For any layer: a world in which some blocks alone have turned; rows of the call's own later.
-/
import Derived.Laws.OwnMore
import Derived.Deep.AppendLies
import Derived.Laws.NewBlocks
import Derived.Test.YtbfcjfeckonklaaBlk0
namespace Go.Proofs.Ytbfcjfeckonklaa
open Go.RowKit

/-- But for these blocks the world is as it was. -/
structure Mut (bs : List Nat) (w w' : World) : Prop where
  os : w'.os = w.os
  tape : w'.tape = w.tape
  output : w'.output = w.output
  size : w.heap.size ≤ w'.heap.size
  block : ∀ k, k < w.heap.size → k ∉ bs → w'.heap[k]? = w.heap[k]?
theorem Mut.refl (bs : List Nat) (w : World) : Mut bs w w := ⟨rfl, rfl, rfl, Nat.le_refl _, fun _ _ _ => rfl⟩
theorem Mut.trans {bs : List Nat} {a b c : World} (h : Mut bs a b) (k : Mut bs b c) : Mut bs a c :=
  ⟨k.os.trans h.os, k.tape.trans h.tape, k.output.trans h.output, Nat.le_trans h.size k.size, fun i hi hn => (k.block i (Nat.lt_of_lt_of_le hi h.size) hn).trans (h.block i hi hn)⟩
theorem Mut.of_below {bs : List Nat} {w w' : World} (h : Below w.heap.size w w') : Mut bs w w' := ⟨h.os, h.tape, h.output, h.size, fun k hk _ => h.block k hk⟩
theorem Mut.below {bs : List Nat} {w w' : World} {B : Nat} (h : Mut bs w w') (hB : B ≤ w.heap.size) (hbs : ∀ k ∈ bs, B ≤ k) : Below B w w' :=
  ⟨h.os, h.tape, h.output, h.size, fun k hk => h.block k (by omega) fun hm => by have := hbs k hm; omega⟩
theorem Mut.setCell {bs : List Nat} {a w : World} (h : Mut bs a w) {p : Addr} (hp : p.block ∈ bs) (u : Value) : Mut bs a (w.setCell p u) :=
  h.trans ⟨rfl, rfl, rfl, by simp [World.setCell], fun k _ hn => Below.heap_setCell _ _ _ _ (fun e => hn (e ▸ hp))⟩
theorem Mut.wider {bs cs : List Nat} {w w' : World} (h : Mut bs w w') (hs : ∀ k ∈ bs, k ∈ cs) : Mut cs w w' := ⟨h.os, h.tape, h.output, h.size, fun k hk hn => h.block k hk fun hm => hn (hs k hm)⟩
theorem Mut.drew {bs : List Nat} {a w : World} (h : Mut bs a w) : Mut bs a w.drew := ⟨h.os, h.tape, h.output, h.size, h.block⟩
theorem Mut.grown {bs : List Nat} {a w w' : World} {g : Nat} (h : Mut bs a w) (hg : w.grownBy w' (some g)) (hm : g ∈ bs) : Mut bs a w' :=
  h.trans ⟨hg.os, hg.tape, hg.output, hg.size, fun k hk hn => hg.block k hk (by intro e; injection e with e; exact hn (e ▸ hm))⟩
theorem Blk.mut {W W' : World} {g : Nat} {C : Array Value} {T : TypeId} {bs : List Nat} (h : Blk W g C T) (hb : Mut bs W W') (hg : g ∉ bs) : Blk W' g C T := h.same (hb.block _ h.lt hg)
/-- Each of these blocks is one of the elder ones, or new. -/
def Ext (W : World) (bs bs' : List Nat) : Prop := ∀ k ∈ bs', k ∈ bs ∨ W.heap.size ≤ k
theorem Ext.refl (W : World) (bs : List Nat) : Ext W bs bs := fun _ h => .inl h
theorem Ext.trans {W W' : World} {a b c : List Nat} (h : Ext W a b) (k : Ext W' b c) (hs : W.heap.size ≤ W'.heap.size) : Ext W a c := fun x hx => by
  rcases k x hx with h1 | h1
  · exact h x h1
  · exact .inr (by omega)
/-- What came to pass behind another one: blocks that were new then may have turned. -/
theorem Mut.onto {bs cs : List Nat} {a b c : World} (h : Mut bs a b) (k : Mut cs b c) (hx : Ext a bs cs) : Mut bs a c :=
  ⟨k.os.trans h.os, k.tape.trans h.tape, k.output.trans h.output, Nat.le_trans h.size k.size, fun i hi hn => (k.block i (Nat.lt_of_lt_of_le hi h.size) (fun hm => by
    rcases hx i hm with h1 | h1
    · exact hn h1
    · omega)).trans (h.block i hi hn)⟩

theorem row_same {W W' : World} {base T size n : Nat} {v : Value} {xs : List Value} (h : W.ownsRow base T size v n xs) (hb : ∀ g, v.ownBlock = some g → W'.heap[g]? = W.heap[g]?) : W'.ownsRow base T size v n xs := by
  refine ⟨h.1, ?_⟩
  rcases h.2 with h1 | ⟨g, cap, cur, rfl, h2, h3, h4⟩
  · exact .inl h1
  · exact .inr ⟨g, cap, cur, rfl, h2, (hb g rfl).trans h3, h4⟩
theorem row_base {W : World} {T size n a : Nat} {v : Value} {xs : List Value} (h : W.ownsRow a T size v n xs) : W.ownsRow 0 T size v n xs := by
  refine ⟨h.1, ?_⟩
  rcases h.2 with h1 | ⟨g, cap, cur, rfl, h2, h3, h4⟩
  · exact .inl h1
  · exact .inr ⟨g, cap, cur, rfl, Nat.zero_le _, h3, h4⟩
theorem Ext.not {W : World} {bs bs' : List Nat} (h : Ext W bs bs') {k : Nat} (hk : k ∉ bs) (hl : k < W.heap.size) : k ∉ bs' := fun hm => by
  rcases h k hm with e | e
  · exact hk e
  · omega
theorem mut_grown {w w' : World} {v : Value} {T base n size : Nat} {xs : List Value} (hg : w.grownBy w' v.ownBlock) (_ : w.ownsRow base T size v n xs) : Mut v.ownBlock.toList w w' := ⟨hg.os, hg.tape, hg.output, hg.size, fun k hk hn => hg.block k hk fun e => hn (by rw [← e]; simp)⟩
/-- One element is appended, out of a block that is known whole. -/
theorem app_one {T Ts : TypeId} {size bytes : Nat} {z : Value} {i0 : TypeInfo} (hu : Try.prog.underlying Ts = some (.slice T)) (hi : Try.prog.info? T = some i0) (hz0 : i0.zero = some z) (hz1 : i0.size = size) (hz2 : i0.bytes = bytes) (hzs : z.cells.size = size) (hsz : 0 < size)
    {w : World} {ops : Array Oper} {rest : List Oper} {o : Oper} {a : Act} {Q : Exit → Act → World → Prop} (hgd : o.guard = none) (s x : Operand) (ho : o.op = .call { callee := .builtin .append, args := #[s, x], argTypes := #[Ts, Ts] })
    (base : Nat) (A : Option Addr) (n cap : Nat) (xs us : List Value) (B c : Nat) (hs : a.eval s = .slice A n cap) (hown : w.ownsRow base T size (.slice A n cap) n xs) (hx : a.eval x = .slice (some ⟨B, 0, none⟩) 1 c) (hus : us.length = size) (hB : ∀ j u, us[j]? = some u → w.cell? ⟨B, j, none⟩ = some u) (h1 : ∀ u ∈ us, u.oneCell' = true)
    (hb : n ≤ 100000) (hby : (n + 1) * bytes ≤ 140737488355328) (hbase : base ≤ w.heap.size)
    (h : ∀ g cap' w', w'.ownsRow base T size (.slice (some ⟨g, 0, none⟩) (n + 1) cap') (n + 1) (xs ++ us) → w.grownBy w' (Value.slice A n cap).ownBlock → ((Value.slice A n cap).ownBlock = some g ∨ w.heap.size ≤ g) → wpList Try.prog ops Q rest (a.put o.dst (.slice (some ⟨g, 0, none⟩) (n + 1) cap')) w') : wpList Try.prog ops Q (o :: rest) a w := by
  obtain ⟨g, cap', w', k1, k2, k3, k4, _⟩ := run_append_lies (P := Try.prog) w Ts o.type base T i0 z size bytes hu hi hz0 hz1 hz2 hzs hsz _ n _ hown ⟨B, 0, none⟩ 1 c us (by rw [hus]; omega) (fun j u hj => by rw [Addr.add_lit, Nat.zero_add]; exact hB j u hj) h1 (by omega) (by unfold maxLen; omega) hby hbase _ rfl
  refine wpList_plain hgd fun _ hK => ?_
  unfold Oper.wp execOp
  simp only [ho, resolve, invoke, builtin, Sem.run_bind, Sem.run_pure, Result.andThen_ok, List.map_toArray, List.map_cons, List.map_nil, hs, hx, k1]
  exact hK _ _ (h g cap' w' k2 k3 (k4.imp id fun e => by omega))
end Go.Proofs.Ytbfcjfeckonklaa
