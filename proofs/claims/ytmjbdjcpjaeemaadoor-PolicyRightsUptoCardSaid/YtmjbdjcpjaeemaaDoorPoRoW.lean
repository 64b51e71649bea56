/-
  Rows of rules, and spans, in memory that is the call's own.
-/
import Derived.Laws.OwnMore
import Derived.OneCell
import Derived.Test.YtmjbdjcpjaeemaaDoorPoRows
namespace Go.Proofs.YtmjbdjcpjaeemaaDoor
open Go.RowKit

theorem info_rule : (Tryd.prog.info? 39).map (fun i => (i.zero, i.size, i.bytes)) = some (some (.agg #[.int .u8 0, .int .i64 0, .string ⟨#[]⟩, .string ⟨#[]⟩]), 4, 48) := by kernel_rfl
theorem info_rules : (Tryd.prog.info? 30).map (fun i => (i.zero, i.size, i.bytes)) = some (some (.slice none 0 0), 1, 24) := by kernel_rfl
/-- The cells of rules. -/
def rCells (l : List Ru) : List Value := l.flatMap fun r => (ruCells r).toList
theorem rCells_append (a b : List Ru) : rCells (a ++ b) = rCells a ++ rCells b := by simp [rCells]
theorem rCells_one (r : Ru) : rCells [r] = [.int .u8 (r.kind : Int), .int .i64 r.a, .string r.key, .string r.val] := rfl
theorem rCells_len (l : List Ru) : (rCells l).length = l.length * 4 := by
  induction l with
  | nil => rfl
  | cons r l ih => simp only [rCells, List.flatMap_cons, List.length_append, List.length_cons] at *; rw [ih]; simp [ruCells]; omega
theorem rCells_one_cell (l : List Ru) : ∀ u ∈ rCells l, u.oneCell' = true := fun u hu => by
  obtain ⟨r, _, h⟩ := List.mem_flatMap.1 hu
  simp [ruCells] at h
  rcases h with rfl | rfl | rfl | rfl <;> rfl
theorem rCells_at {l : List Ru} : ∀ {i : Nat}, i < l.length → (rCells l)[i * 4]? = some (.int .u8 ((l.getD i ru0).kind : Int)) ∧ (rCells l)[i * 4 + 1]? = some (.int .i64 (l.getD i ru0).a) ∧ (rCells l)[i * 4 + 2]? = some (.string (l.getD i ru0).key) ∧ (rCells l)[i * 4 + 3]? = some (.string (l.getD i ru0).val) := by
  induction l with
  | nil => intro i h; simp at h
  | cons r l ih =>
    intro i h
    cases i with
    | zero => exact ⟨rfl, rfl, rfl, rfl⟩
    | succ i =>
      have := ih (i := i) (by simpa using h)
      have e : rCells (r :: l) = .int .u8 (r.kind : Int) :: .int .i64 r.a :: .string r.key :: .string r.val :: rCells l := rfl
      rw [e, show (i + 1) * 4 = i * 4 + 1 + 1 + 1 + 1 by omega]
      simpa [List.getD] using this
/-- What owns rules holds them. -/
theorem holds_own {W : World} {base : Nat} {A : Option Addr} {n cap : Nat} {l : List Ru} (hl : l.length = n) (h : W.ownsRow base 39 4 (.slice A n cap) n (rCells l)) : HoldsR W.heap.size W A l := fun h0 => by
  obtain ⟨g, c, e, _, hg⟩ := h.form (by omega)
  injection e with e1 _ e2
  subst e1 e2
  refine ⟨g, 0, rfl, hg, fun j hj => ?_⟩
  obtain ⟨r0, r1, r2, r3⟩ := rCells_at hj
  rw [Nat.zero_add, h.cellAt _ (by omega), h.cellAt _ (by omega), h.cellAt _ (by omega), h.cellAt _ (by omega)]
  exact ⟨r0, r1, r2, r3⟩

/-- A row, the block it lies in, how many rules it has room for. -/
abbrev Rz := List Ru × Nat × Nat
def rowV (z : Rz) : Value := .slice (some ⟨z.2.1, 0, none⟩) z.1.length z.2.2
/-- Rows of rules that are the call's own, each in a block of its own. -/
structure RoW (W : World) (base : Nat) (v : Value) (zs : List Rz) : Prop where
  out : W.ownsRow base 30 1 v zs.length (zs.map rowV)
  row : ∀ z ∈ zs, W.ownsRow base 39 4 (rowV z) z.1.length (rCells z.1)
  ne : (zs.map fun z => z.2.1).Nodup
theorem RoW.nil (W : World) (base : Nat) : RoW W base (.slice none 0 0) [] := ⟨World.ownsRow_nil _ _ _ _, fun z h => by simp at h, by simp⟩
theorem type_apart {W : World} {base base' n m s s' : Nat} {v u : Value} {T T' : TypeId} (hT : T ≠ T') {xs ys : List Value} (h : W.ownsRow base T s v n xs) (h' : W.ownsRow base' T' s' u m ys) : u.ownBlock = none ∨ u.ownBlock ≠ v.ownBlock := by
  rcases h'.2 with ⟨rfl, _⟩ | ⟨g', cap', cur', rfl, _, hg', _⟩
  · exact .inl rfl
  · right
    rcases h.2 with ⟨rfl, _⟩ | ⟨g, cap, cur, rfl, _, hg, _⟩
    · simp [Value.ownBlock]
    · intro e
      have e' : g' = g := by simpa [Value.ownBlock] using e
      subst e'
      rw [hg] at hg'
      injection hg' with hg'
      injection hg' with _ hg' _
      exact hT hg'
theorem RoW.later {W W' : World} {base : Nat} {v : Value} {zs : List Rz} (h : RoW W base v zs) (hb : Below W.heap.size W W') : RoW W' base v zs := by
  have hg : W.grownBy W' none := ⟨hb.os, hb.tape, hb.output, hb.size, fun i hi _ => hb.block i hi⟩
  have hn : ∀ o : Option Nat, o = none ∨ o ≠ none := fun o => by cases o <;> simp
  exact ⟨h.out.kept hg (hn _), fun z hz => (h.row z hz).kept hg (hn _), h.ne⟩
theorem RoW.snoc {W W' : World} {base g1 c1 : Nat} {v v' : Value} {zs : List Rz} {row : List Ru} (h : RoW W base v zs) (hrow : W.ownsRow base 39 4 (rowV (row, g1, c1)) row.length (rCells row)) (hne : ∀ z ∈ zs, z.2.1 ≠ g1)
    (hgr : W.grownBy W' v.ownBlock) (hout : W'.ownsRow base 30 1 v' (zs.length + 1) (zs.map rowV ++ [rowV (row, g1, c1)])) : RoW W' base v' (zs ++ [(row, g1, c1)]) := by
  have hT : (30 : TypeId) ≠ 39 := by decide
  refine ⟨by simpa using hout, fun z hz => ?_, ?_⟩
  · rcases List.mem_append.1 hz with hz | hz
    · exact (h.row z hz).kept hgr (type_apart hT h.out (h.row z hz))
    · rw [List.mem_singleton.1 hz]
      exact hrow.kept hgr (type_apart hT h.out hrow)
  · rw [List.map_append, List.nodup_append]
    refine ⟨h.ne, by simp, fun a ha b hb => ?_⟩
    obtain ⟨z, hz, rfl⟩ := List.mem_map.1 ha
    simp at hb
    rw [hb]
    exact hne z hz
theorem RoW.lt {W : World} {base : Nat} {v : Value} {zs : List Rz} (h : RoW W base v zs) : ∀ z ∈ zs, base ≤ z.2.1 ∧ z.2.1 < W.heap.size := fun z hz => (h.row z hz).lt _ rfl
/-- The last row is another one, wherever it lies now. -/
theorem RoW.last {W W1 : World} {base go n cap g c g' c' : Nat} {zs : List Rz} {row row' : List Ru} (h : RoW W base (.slice (some ⟨go, 0, none⟩) n cap) (zs ++ [(row, g, c)])) (hgr : W.grownBy W1 (some g)) (hnew : W1.ownsRow base 39 4 (rowV (row', g', c')) row'.length (rCells row')) (hor : g' = g ∨ W.heap.size ≤ g') (hn : n = zs.length + 1) :
    RoW (W1.setCell ⟨go, zs.length, none⟩ (rowV (row', g', c'))) base (.slice (some ⟨go, 0, none⟩) n cap) (zs ++ [(row', g', c')]) := by
  have hT : (30 : TypeId) ≠ 39 := by decide
  have hlast := h.row (row, g, c) (by simp)
  have hgo : go ≠ g := by
    rcases type_apart hT h.out hlast with h1 | h1
    · simp [rowV, Value.ownBlock] at h1
    · intro e; apply h1; simp [rowV, Value.ownBlock, e]
  have ho1 : W1.ownsRow base 30 1 (.slice (some ⟨go, 0, none⟩) n cap) (zs ++ [(row, g, c)]).length ((zs ++ [(row, g, c)]).map rowV) := h.out.kept hgr (.inr (by simp [Value.ownBlock, hgo]))
  have hlen : (zs ++ [(row, g, c)]).length = n := by simp [hn]
  rw [hlen] at ho1
  obtain ⟨hs1, hs2⟩ := ho1.stored zs.length (rowV (row', g', c'))
  have hset : ((zs ++ [(row, g, c)]).map rowV).set zs.length (rowV (row', g', c')) = (zs ++ [(row', g', c')]).map rowV := by
    rw [List.map_append, List.map_append, List.set_append_right _ _ (by simp)]
    simp
  rw [hset] at hs1
  have hlt := h.lt
  have hnod : ∀ z ∈ zs, z.2.1 ≠ g := fun z hz e => by
    have := h.ne
    rw [List.map_append, List.nodup_append] at this
    exact this.2.2 _ (List.mem_map_of_mem (f := fun z : Rz => z.2.1) hz) g (by simp) e
  have hkeep : ∀ z ∈ zs, W1.ownsRow base 39 4 (rowV z) z.1.length (rCells z.1) := fun z hz => (h.row z (by simp [hz])).kept hgr (.inr (by simp [rowV, Value.ownBlock]; exact hnod z hz))
  refine ⟨by simpa [hn] using hs1, fun z hz => ?_, ?_⟩
  · rcases List.mem_append.1 hz with hz | hz
    · exact (hkeep z hz).kept hs2 (type_apart hT ho1 (hkeep z hz))
    · rw [List.mem_singleton.1 hz]
      exact hnew.kept hs2 (type_apart hT ho1 hnew)
  · rw [List.map_append, List.nodup_append]
    have := h.ne
    rw [List.map_append, List.nodup_append] at this
    refine ⟨this.1, by simp, fun a ha b hb => ?_⟩
    obtain ⟨z, hz, rfl⟩ := List.mem_map.1 ha
    simp at hb
    rw [hb]
    rcases hor with h1 | h1
    · rw [h1]; exact hnod z hz
    · have := (hlt z (by simp [hz])).2; intro e; omega
/-- Rows that are the call's own lie there to be read. -/
theorem RoW.holds {W : World} {base n cap : Nat} {A : Option Addr} {zs : List Rz} (h : RoW W base (.slice A n cap) zs) (hn : zs.length = n) : HoldsRR W.heap.size W A (zs.map fun z => z.1) := fun h0 => by
  rw [List.length_map] at h0
  have ho := h.out
  rw [hn] at ho
  obtain ⟨g, c, e, _, hg⟩ := ho.form (by omega)
  injection e with e1 _ e2
  subst e1 e2
  refine ⟨g, 0, rfl, hg, fun j hj => ?_⟩
  rw [List.length_map] at hj
  have e2 : (zs.map fun z => z.1).getD j [] = (zs[j]).1 := by simp [List.getD, hj]
  rw [e2]
  refine ⟨some ⟨(zs[j]).2.1, 0, none⟩, (zs[j]).2.2, ?_, holds_own rfl (h.row zs[j] (List.getElem_mem hj))⟩
  rw [Nat.zero_add, ho.cellAt j (by omega)]
  simp [hj, rowV]
theorem RoW.cellOf {W : World} {base n cap go : Nat} {zs : List Rz} (h : RoW W base (.slice (some ⟨go, 0, none⟩) n cap) zs) (hn : zs.length = n) {j : Nat} (hj : j < zs.length) : W.cell? ⟨go, j, none⟩ = some (rowV zs[j]) ∧ W.frozen? ⟨go, j, none⟩ = false := by
  have ho := h.out
  rw [hn] at ho
  exact ⟨by rw [ho.cellAt j (by omega)]; simp [hj], ho.frozenAt j⟩
end Go.Proofs.YtmjbdjcpjaeemaaDoor
