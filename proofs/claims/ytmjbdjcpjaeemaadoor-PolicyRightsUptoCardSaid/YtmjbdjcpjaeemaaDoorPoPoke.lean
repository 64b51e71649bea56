/-
  One rule of one row bent in one place, a row emptied: what the rows hold then; the statement's own rules may be.
-/
import Derived.Test.YtmjbdjcpjaeemaaDoorPoArgs
namespace Go.Proofs.YtmjbdjcpjaeemaaDoor
open Go.RowKit

theorem RoW.apart {W : World} {base n cap go : Nat} {zs : List Rz} (h : RoW W base (.slice (some ⟨go, 0, none⟩) n cap) zs) {z : Rz} (hz : z ∈ zs) : go ≠ z.2.1 := by
  rcases type_apart (by decide : (30 : TypeId) ≠ 39) h.out (h.row z hz) with h1 | h1
  · simp [rowV, Value.ownBlock] at h1
  · intro e; apply h1; simp [rowV, Value.ownBlock, e]
theorem blk_ne {zs : List Rz} (h : (zs.map fun z => z.2.1).Nodup) {i j : Nat} (hi : i < zs.length) (hj : j < zs.length) (hij : j ≠ i) : zs[j].2.1 ≠ zs[i].2.1 := fun e => by
  have h2 : (zs.map fun z : Rz => z.2.1)[j]'(by simpa using hj) = (zs.map fun z : Rz => z.2.1)[i]'(by simpa using hi) := by simpa using e
  exact hij ((List.getElem_inj h).1 h2)
/-- A cell of one row's own memory is stored: the row is another, all else as it was. -/
theorem RoW.poke {W : World} {base n cap go i f g c : Nat} {zs : List Rz} {row row' : List Ru} {v : Value} (h : RoW W base (.slice (some ⟨go, 0, none⟩) n cap) zs) (hi : i < zs.length) (hz : zs[i] = (row, g, c)) (hl : row'.length = row.length) (hc : rCells row' = (rCells row).set f v) :
    RoW (W.setCell ⟨g, f, none⟩ v) base (.slice (some ⟨go, 0, none⟩) n cap) (zs.set i (row', g, c)) ∧ W.grownBy (W.setCell ⟨g, f, none⟩ v) (some g) := by
  have hm : (row, g, c) ∈ zs := by rw [← hz]; exact List.getElem_mem hi
  have hrow := h.row _ hm
  obtain ⟨hs1, hs2⟩ := hrow.stored f v
  have hgo : go ≠ g := h.apart hm
  have ho1 := h.out.kept hs2 (.inr (by simp [Value.ownBlock, hgo]))
  refine ⟨⟨?_, fun z hzm => ?_, ?_⟩, hs2⟩
  · have e : (zs.set i (row', g, c)).map rowV = zs.map rowV := by
      rw [List.map_set, show rowV (row', g, c) = (zs.map rowV)[i]'(by simpa using hi) by simp [hz, rowV, hl], List.set_getElem_self]
    rw [e, List.length_set]
    exact ho1
  · obtain ⟨j, hj, rfl⟩ := List.getElem_of_mem hzm
    rw [List.length_set] at hj
    rw [List.getElem_set]
    by_cases hij : i = j
    · rw [if_pos hij]
      show World.ownsRow _ base _ 4 (rowV (row', g, c)) row'.length (rCells row')
      rw [hc, hl]
      simpa [rowV, hl] using hs1
    · rw [if_neg hij]
      have hne := blk_ne h.ne hi hj (fun e => hij e.symm)
      rw [hz] at hne
      exact (h.row _ (List.getElem_mem hj)).kept hs2 (.inr (by simp [rowV, Value.ownBlock]; exact hne))
  · have e : (zs.set i (row', g, c)).map (fun z => z.2.1) = zs.map fun z => z.2.1 := by
      rw [List.map_set, show (row', g, c).2.1 = (zs.map fun z => z.2.1)[i]'(by simpa using hi) by simp [hz], List.set_getElem_self]
    rw [e]
    exact h.ne
theorem getD_set {α : Type} (l : List α) (i j : Nat) (x d : α) (hj : j < l.length) : (l.set i x).getD j d = if i = j then x else l.getD j d := by
  simp only [List.getD_eq_getElem?_getD, List.getElem?_set]
  split
  · rename_i e; subst e; simp [hj]
  · rfl
/-- One row is cut to none of its rules. -/
theorem RoW.emptied {W : World} {base n cap go i c' : Nat} {zs : List Rz} {B : Option Addr} (h : RoW W base (.slice (some ⟨go, 0, none⟩) n cap) zs) (hn : zs.length = n) (hi : i < zs.length) :
    HoldsRR (W.setCell ⟨go, i, none⟩ (.slice B 0 c')).heap.size (W.setCell ⟨go, i, none⟩ (.slice B 0 c')) (some ⟨go, 0, none⟩) ((zs.map fun z => z.1).set i []) ∧ W.grownBy (W.setCell ⟨go, i, none⟩ (.slice B 0 c')) (some go) := by
  have ho := h.out
  rw [hn] at ho
  obtain ⟨hs1, hs2⟩ := ho.stored i (.slice B 0 c')
  refine ⟨fun _ => ?_, hs2⟩
  obtain ⟨g0, c0, e, _, hg⟩ := hs1.form (by omega)
  injection e with e1 _ _
  injection e1 with e1
  injection e1 with e1 _ _
  subst e1
  refine ⟨go, 0, rfl, hg, fun j hj => ?_⟩
  rw [List.length_set, List.length_map] at hj
  rw [getD_set _ _ _ _ _ (by simpa using hj), Nat.zero_add, hs1.cellAt j (by omega)]
  by_cases hij : i = j
  · subst hij
    rw [if_pos rfl]
    exact ⟨B, c', by simp [hi], fun h0 => absurd h0 (by simp)⟩
  · rw [if_neg hij]
    have e2 : (zs.map fun z => z.1).getD j [] = (zs[j]).1 := by simp [List.getD, hj]
    rw [e2]
    have hne : (zs[j]).2.1 ≠ go := fun e => h.apart (List.getElem_mem hj) e.symm
    refine ⟨some ⟨(zs[j]).2.1, 0, none⟩, (zs[j]).2.2, by rw [List.getElem?_set_ne hij]; simp [hj, rowV], holds_own rfl ((h.row _ (List.getElem_mem hj)).kept hs2 (.inr (by simp [rowV, Value.ownBlock]; exact hne)))⟩
theorem ok_set {ls : List (List Ru)} {i : Nat} {row : List Ru} (h : OkRows ls) (hl : row.length ≤ 9223372036854775807) (hr : ∀ j, j < row.length → In64 (row.getD j ru0).a) : OkRows (ls.set i row) := by
  refine ⟨by rw [List.length_set]; exact h.1, fun j hj => ?_⟩
  rw [List.length_set] at hj
  rw [getD_set _ _ _ _ _ hj]
  split
  · exact ⟨hl, hr⟩
  · exact h.2 j hj
theorem sum_set {ls : List (List Ru)} : ∀ {i : Nat} {row : List Ru}, i < ls.length → row.length ≤ (ls.getD i []).length → sumM (ls.set i row) ≤ sumM ls := by
  induction ls with
  | nil => intro i row h; simp at h
  | cons x ls ih =>
    intro i row hi hl
    match i with
    | 0 => simp [sumM] at hl ⊢; exact hl
    | i + 1 =>
      have := ih (i := i) (row := row) (by simpa using hi) (by simpa [List.getD] using hl)
      simp [sumM] at this ⊢
      exact this
theorem sum_append (a b : List (List Ru)) : sumM (a ++ b) = sumM a + sumM b := by simp [sumM]
theorem sum_same (j : Nat) (r : Ru) : sumM (List.replicate j [r]) = j := by
  induction j with
  | zero => rfl
  | succ j ih => rw [List.replicate_succ]; simp [sumM] at ih ⊢; omega
theorem ok_append {a b : List (List Ru)} (ha : OkRows a) (hb : OkRows b) (hl : a.length + b.length ≤ 9223372036854775807) : OkRows (a ++ b) := by
  refine ⟨by rw [List.length_append]; exact hl, fun i hi => ?_⟩
  rw [List.length_append] at hi
  rcases Nat.lt_or_ge i a.length with h | h
  · have e : (a ++ b).getD i [] = a.getD i [] := by simp [List.getD, List.getElem?_append_left h]
    rw [e]; exact ha.2 i h
  · have e : (a ++ b).getD i [] = b.getD (i - a.length) [] := by simp [List.getD, List.getElem?_append_right h]
    rw [e]; exact hb.2 _ (by omega)
theorem ok_same (j : Nat) (hj : j ≤ 1000) : OkRows (List.replicate j [(⟨2, 0, none8, none8⟩ : Ru)]) := by
  refine ⟨by simp; omega, fun i hi => ?_⟩
  have hi' : i < j := by simpa using hi
  have e : (List.replicate j [(⟨2, 0, none8, none8⟩ : Ru)]).getD i [] = [⟨2, 0, none8, none8⟩] := by simp [List.getD, hi']
  rw [e]
  exact ⟨by simp, fun k hk => by
    match k, hk with
    | 0, _ => exact ⟨by decide, by decide⟩⟩
/-- A row whose first rule is another. -/
theorem ok_head {r : Ru} {tl : List Ru} {r' : Ru} (h : ∀ j, j < (r :: tl).length → In64 ((r :: tl).getD j ru0).a) (hr : In64 r'.a) : ∀ j, j < (r' :: tl).length → In64 ((r' :: tl).getD j ru0).a := fun j hj => by
  match j with
  | 0 => exact hr
  | j + 1 => have := h (j + 1) (by simpa using hj); simpa [List.getD] using this
theorem none8_empty : none8.toList.isEmpty = true := by decide +kernel
theorem key_full : keyOf.toList.isEmpty = false := by decide +kernel
theorem right_of (a b : Nat) (hb : b < 256) : rightM (ruleOf a b) = true := by
  unfold ruleOf
  split
  · unfold rightM mostM textsM; simp [none8_empty]; omega
  · split
    · unfold rightM mostM textsM; simp [none8_empty]
    · split
      · have h1 := nameOf_size hb
        unfold rightM mostM textsM
        simp [key_full]
        exact ⟨by decide, h1⟩
      · split
        · unfold rightM mostM textsM; simp [none8_empty]; omega
        · unfold rightM mostM textsM; simp [none8_empty]; omega
theorem rights_rules (cs : List UInt8) : rightsM (rulesOf cs) = true := by
  obtain ⟨_, h2, h3⟩ := rulesN_ok cs (min 6 (cs.length / 3))
  unfold rightsM
  rw [Bool.and_eq_true, List.all_eq_true]
  refine ⟨fun row hrow => ?_, by unfold rulesOf; rw [h2]; simp; omega⟩
  obtain ⟨h4, h5⟩ := h3 row hrow
  rw [Bool.and_eq_true, List.all_eq_true]
  refine ⟨by simpa using h4, fun r hr => ?_⟩
  obtain ⟨a, b, rfl⟩ := h5 r hr
  exact right_of _ _ (at8_lt cs b)
theorem sum_rules (cs : List UInt8) : sumM (rulesOf cs) ≤ 6 := by
  have := (rulesN_ok cs (min 6 (cs.length / 3))).2.1
  unfold rulesOf
  omega
theorem row_full (cs : List UInt8) {row : List Ru} (h : row ∈ rulesOf cs) : 0 < row.length := ((rulesN_ok cs (min 6 (cs.length / 3))).2.2 row h).1
end Go.Proofs.YtmjbdjcpjaeemaaDoor
