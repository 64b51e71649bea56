/-
  A store of a struct into a part of a block that is known whole: the block is known whole behind it. No condition; no program is named here.
-/
import Derived.WalkKit
import Derived.Laws.Tables
import Derived.Laws.Rows
namespace Go.Proofs.StorePart
open Go Go.RowKit

section
variable {P : Program}

/-- The cells with these values from place o on. -/
def setAll : Array Value → Nat → List Value → Array Value
  | C, _, [] => C
  | C, o, v :: r => setAll (C.setIfInBounds o v) (o + 1) r

theorem setRow_self {w : World} {g : Nat} {cur : Array Value} {t : TypeId} {fr : Nat × Nat} (hg : w.heap[g]? = some (.cells cur t fr)) : w.setRow g cur = w := by
  have hv : ∀ h, w.heap[g]'h = .cells cur t fr := fun h => (Array.getElem?_eq_some_iff.1 hg).2
  unfold World.setRow
  cases w with
  | mk heap tape drawn os output =>
    congr 1
    apply Array.ext
    · simp
    · intro k h1 h2
      simp only [Array.getElem_modify]
      split
      · rename_i hk; subst hk; simp at hv; simp [hv]
      · rfl

theorem run_storeCells_part (g b : Nat) (t : TypeId) : ∀ (vs : List Value) (i : Nat) (cur : Array Value) (w : World), w.heap[g]? = some (.cells cur t (0, 0)) → b + i + vs.length ≤ cur.size → (∀ v ∈ vs, v.oneCell' = true) →
    (storeCells ⟨g, b, none⟩ vs i).run P w = .ok () (w.setRow g (setAll cur (b + i) vs))
  | [], i, cur, w, hg, _, _ => by
    simp only [storeCells, setAll, setRow_self hg]
    rfl
  | v :: rest, i, cur, w, hg, hl, h1 => by
    have hi : b + i < cur.size := by simp at hl; omega
    have hadd : (⟨g, b, none⟩ : Addr).add i = ⟨g, b + i, none⟩ := by unfold Addr.add; split <;> simp_all
    have hcell : w.cell? ⟨g, b + i, none⟩ = some cur[b + i] := by simp [World.cell?, hg, hi]
    have hfro : w.frozen? ⟨g, b + i, none⟩ = false := by simp [World.frozen?, hg]
    have hst : (store ((⟨g, b, none⟩ : Addr).add i) v).run P w = .ok () (w.setRow g (cur.setIfInBounds (b + i) v)) := by
      rw [hadd, run_store P w _ v _ (h1 v (by simp)), hcell]
      simp [hfro, setCell_eq_setRow w g (b + i) cur t (0, 0) v hg]
    have ih := run_storeCells_part g b t rest (i + 1) (cur.setIfInBounds (b + i) v) (w.setRow g (cur.setIfInBounds (b + i) v)) (setRow_heap w g cur _ t _ hg) (by simp at hl ⊢; omega) (fun x hx => h1 x (by simp [hx]))
    simp only [storeCells, Sem.run_bind, hst, Result.andThen_ok, ih, setRow_setRow, setAll, Nat.add_assoc]

theorem run_storeVar_part (w : World) (g b : Nat) (t ty : TypeId) (old cells new : Array Value) (hg : w.heap[g]? = some (.cells old t (0, 0))) (hi : (P.info? ty).map (·.size) = some cells.size)
    (ho : b + cells.size ≤ old.size) (h1 : cells.all (·.oneCell') = true) (hn : setAll old b cells.toList = new) :
    (storeVar ty ⟨g, b, none⟩ (.agg cells)).run P w = .ok () (w.setRow g new) := by
  have := run_storeCells_part (P := P) g b t cells.toList 0 old w hg (by simpa using ho) (fun v hv => (Array.all_eq_true_iff_forall_mem.1 h1) v (by simpa using hv))
  rw [Nat.add_zero, hn] at this
  cases hq : P.info? ty with
  | none => simp [hq] at hi
  | some i =>
    have hs : cells.size = i.size := by simp [hq] at hi; omega
    simp [storeVar, sizeOf, typeInfo, hq, Value.cells, hs, this]

theorem wp_store_part {o : Oper} {a : Act} {w : World} {K : Act → World → Prop} {Q : Exit → Act → World → Prop} (ty : TypeId) (x y : Operand) (ho : o.op = .store ty x y)
    (g b : Nat) (cells new : Array Value) (hx : a.eval x = .pointer (some ⟨g, b, none⟩)) (hy : a.eval y = .agg cells)
    (t : TypeId) (old : Array Value) (hg : w.heap[g]? = some (.cells old t (0, 0))) (hi : (P.info? ty).map (·.size) = some cells.size)
    (hold : b + cells.size ≤ old.size) (h1 : cells.all (·.oneCell') = true) (hn : setAll old b cells.toList = new)
    (h : K (a.put o.dst undef) (w.setRow g new)) : o.wp P a w K Q := by
  unfold Oper.wp execOp
  simp only [ho, hx, hy, Instr.storeAt, Instr.sureAddr, Sem.run_bind, Sem.run_pure, Result.andThen_ok, run_storeVar_part w g b t ty old cells new hg hi hold h1 hn]
  exact h

theorem wpList_store_part {ops : Array Oper} {rest : List Oper} {o : Oper} {a : Act} {w : World} {Q : Exit → Act → World → Prop} (hgd : o.guard = none) (ty : TypeId) (x y : Operand) (ho : o.op = .store ty x y)
    (g b : Nat) (cells new : Array Value) (hx : a.eval x = .pointer (some ⟨g, b, none⟩)) (hy : a.eval y = .agg cells)
    (t : TypeId) (old : Array Value) (hg : w.heap[g]? = some (.cells old t (0, 0))) (hi : (P.info? ty).map (·.size) = some cells.size)
    (hold : b + cells.size ≤ old.size) (h1 : cells.all (·.oneCell') = true) (hn : setAll old b cells.toList = new)
    (h : wpList P ops Q rest (a.put o.dst undef) (w.setRow g new)) : wpList P ops Q (o :: rest) a w :=
  wpList_plain hgd fun _ hK => wp_store_part ty x y ho g b cells new hx hy t old hg hi hold h1 hn (hK _ _ h)

theorem run_loadVar_part (w : World) (g b : Nat) (t ty : TypeId) (cs vs : Array Value) (fr : Nat × Nat) (d : TypeDesc) (hg : w.heap[g]? = some (.cells cs t fr))
    (hu : P.underlying ty = some d) (hd : (match d with | .struct _ | .array _ _ => true | _ => false) = true) (hi : (P.info? ty).map (·.size) = some vs.size) (hv : (cs.toList.drop b).take vs.size = vs.toList) :
    (loadVar ty ⟨g, b, none⟩).run P w = .ok (.agg vs) w := by
  have hl : (loadCells ⟨g, b, none⟩ vs.toList.length).run P w = .ok vs.toList.toArray w :=
    run_loadCells_list (P := P) w ⟨g, b, none⟩ vs.toList (fun j v hj => by
      have hadd : (⟨g, b, none⟩ : Addr).add j = ⟨g, b + j, none⟩ := by unfold Addr.add; split <;> simp_all
      have hlt : j < vs.size := by
        have := (List.getElem?_eq_some_iff.1 hj).1
        simpa using this
      rw [hadd, cell_of_row w g (b + j) cs t fr hg]
      rw [← hv, List.getElem?_take_of_lt hlt, List.getElem?_drop] at hj
      simpa using hj)
  cases hq : P.info? ty with
  | none => simp [hq] at hi
  | some i =>
    have hs : i.size = vs.size := by simpa [hq] using hi
    have hagg : (isAgg ty).run P w = .ok true w := by
      unfold isAgg
      rw [Sem.run_bind, run_underlying hu w]
      cases d <;> simp_all
    simp only [Array.length_toList, Array.toArray_toList] at hl
    simp [loadVar, Sem.run_bind, hagg, sizeOf, typeInfo, hq, hs, hl]

theorem wp_load_part {o : Oper} {a : Act} {w : World} {K : Act → World → Prop} {Q : Exit → Act → World → Prop} (ty : TypeId) (x : Operand) (ho : o.op = .load ty x)
    (g b : Nat) (hx : a.eval x = .pointer (some ⟨g, b, none⟩)) (t : TypeId) (cs vs : Array Value) (fr : Nat × Nat) (d : TypeDesc) (hg : w.heap[g]? = some (.cells cs t fr))
    (hu : P.underlying ty = some d) (hd : (match d with | .struct _ | .array _ _ => true | _ => false) = true) (hi : (P.info? ty).map (·.size) = some vs.size) (hv : (cs.toList.drop b).take vs.size = vs.toList)
    (h : K (a.put o.dst (.agg vs)) w) : o.wp P a w K Q := by
  unfold Oper.wp execOp
  simp only [ho, hx, Instr.loadAt, Instr.sureAddr, Sem.run_bind, Sem.run_pure, Result.andThen_ok, run_loadVar_part w g b t ty cs vs fr d hg hu hd hi hv]
  exact h

theorem wpList_load_part {ops : Array Oper} {rest : List Oper} {o : Oper} {a : Act} {w : World} {Q : Exit → Act → World → Prop} (hgd : o.guard = none) (ty : TypeId) (x : Operand) (ho : o.op = .load ty x)
    (g b : Nat) (hx : a.eval x = .pointer (some ⟨g, b, none⟩)) (t : TypeId) (cs vs : Array Value) (fr : Nat × Nat) (d : TypeDesc) (hg : w.heap[g]? = some (.cells cs t fr))
    (hu : P.underlying ty = some d) (hd : (match d with | .struct _ | .array _ _ => true | _ => false) = true) (hi : (P.info? ty).map (·.size) = some vs.size) (hv : (cs.toList.drop b).take vs.size = vs.toList)
    (h : wpList P ops Q rest (a.put o.dst (.agg vs)) w) : wpList P ops Q (o :: rest) a w :=
  wpList_plain hgd fun _ hK => wp_load_part ty x ho g b hx t cs vs fr d hg hu hd hi hv (hK _ _ h)
end
end Go.Proofs.StorePart
