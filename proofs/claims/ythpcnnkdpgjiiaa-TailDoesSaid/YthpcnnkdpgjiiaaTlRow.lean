/-
  Rows of a law's own beside a buffer: one more behind all; blocks that are none of the buffer's.
-/
import Derived.Laws.NewBlocks
import Derived.Deep.AppendLies
import Derived.Test.YthpcnnkdpgjiiaaTlLaw
namespace Go.Proofs.Ythpcnnkdpgjiiaa
open Go.RowKit Go.Maps Go.Proofs.HeapMath Go.Proofs.TailMath

/-- One element is appended, out of a block that is known whole. -/
theorem app_one {T Ts : TypeId} {size bytes : Nat} {z : Value} {i0 : TypeInfo} (hu : Try.prog.underlying Ts = some (.slice T)) (hi : Try.prog.info? T = some i0) (hz0 : i0.zero = some z) (hz1 : i0.size = size) (hz2 : i0.bytes = bytes) (hzs : z.cells.size = size) (hsz : 0 < size)
    {w : World} {ops : Array Oper} {rest : List Oper} {o : Oper} {a : Act} {Q : Exit → Act → World → Prop} (hgd : o.guard = none) (s x : Operand) (ho : o.op = .call { callee := .builtin .append, args := #[s, x], argTypes := #[Ts, Ts] })
    (base : Nat) (A : Option Addr) (n cap : Nat) (xs us : List Value) (B c : Nat) (hs : a.eval s = .slice A n cap) (hown : w.ownsRow base T size (.slice A n cap) n xs) (hx : a.eval x = .slice (some ⟨B, 0, none⟩) 1 c) (hus : us.length = size) (hB : ∀ j u, us[j]? = some u → w.cell? ⟨B, j, none⟩ = some u) (h1 : ∀ u ∈ us, u.oneCell' = true)
    (hb : n ≤ 100000) (hby : (n + 1) * bytes ≤ 140737488355328) (hbase : base ≤ w.heap.size)
    (h : ∀ g cap' w', w'.ownsRow base T size (.slice (some ⟨g, 0, none⟩) (n + 1) cap') (n + 1) (xs ++ us) → w.grownBy w' (Value.slice A n cap).ownBlock → ((Value.slice A n cap).ownBlock = some g ∨ w.heap.size ≤ g) → wpList Try.prog ops Q rest (a.put o.dst (.slice (some ⟨g, 0, none⟩) (n + 1) cap')) w') : wpList Try.prog ops Q (o :: rest) a w := by
  obtain ⟨g, cap', w', k1, k2, k3, k4, _⟩ := run_append_lies (P := Try.prog) w Ts o.type base T i0 z size bytes hu hi hz0 hz1 hz2 hzs hsz _ n _ hown ⟨B, 0, none⟩ 1 c us (by rw [hus]; omega) (fun j u hj => by rw [Addr.add_lit, Nat.zero_add]; exact hB j u hj) h1 (by omega) (by unfold maxLen; omega) hby hbase _ rfl
  refine wpList_plain hgd fun _ hK => ?_
  unfold Oper.wp execOp
  simp only [ho, resolve, invoke, builtin, Sem.run_bind, Sem.run_pure, Result.andThen_ok, List.map_toArray, List.map_cons, List.map_nil, hs, hx, k1]
  exact hK _ _ (h g cap' w' k2 k3 (k4.imp id fun e => by omega))
/-- What is turned beside the buffer. -/
theorem Ob.beside {w₀ W W' : World} {S : Nat} {b : St} {bs cs : List Nat} (h : Ob w₀ W S b bs) (hm : Mut cs W W') (hc : ∀ k ∈ cs, k ∉ bs ∧ w₀.heap.size ≤ k) : Ob w₀ W' S b bs :=
  ⟨h.1.mut hm fun k hk hk2 => (hc k hk2).1 hk, h.2.1.trans (hm.below h.2.1.size fun k hk => (hc k hk).2), h.2.2⟩
theorem Ext.not {W : World} {bs bs' : List Nat} (h : Ext W bs bs') {k : Nat} (hk : k ∉ bs) (hl : k < W.heap.size) : k ∉ bs' := fun hm => by
  rcases h k hm with e | e
  · exact hk e
  · omega
theorem mut_grown {w w' : World} {v : Value} {T base n size : Nat} {xs : List Value} (hg : w.grownBy w' v.ownBlock) (_ : w.ownsRow base T size v n xs) : Mut v.ownBlock.toList w w' := ⟨hg.os, hg.tape, hg.output, hg.size, fun k hk hn => hg.block k hk fun e => hn (by rw [← e]; simp)⟩
end Go.Proofs.Ythpcnnkdpgjiiaa
