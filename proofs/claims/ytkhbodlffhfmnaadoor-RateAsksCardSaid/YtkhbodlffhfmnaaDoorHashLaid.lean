/-
  What hash's table of steps holds at the start, out of the card's condition on it; it holds so as long as nothing that lay turns.
-/
import Derived.Test.YtkhbodlffhfmnaaDoorLift0
import Derived.Test.YtkhbodlffhfmnaaDoorTie
import Derived.Test.YtkhbodlffhfmnaaDoorCards
import Derived.LaidMore
import Derived.Stop.Joined
import Derived.Laws.Rows
namespace Go.Proofs.YtkhbodlffhfmnaaDoor
open Go.ChangeShapes Go.WideShapes Go.ChangeAt Go.RowKit

def laidL : List (String × DataW Unit) := [("telemeter/hash.steps", Rows.laid_telemeter_hash_steps)]
theorem gSteps : Tryd.prog.globalNamed "telemeter/hash.steps" = some 2 := by kernel_rfl
theorem tSteps : (Tryd.prog.globals[2]?).map (·.type) = some 104 := by kernel_rfl
/-- The door's own heap meets the condition. -/
theorem door_met (os : Os) (args : Array Value) : laidMetH Tryd.prog laidL ((World.doorLaid Tryd.prog 400 os).forCall (fun _ _ => 0) ⟨#[], args, []⟩).memory :=
  laidMetH_of_parts3 (fuel := 8) (laidMet_of_run' 8 (by kernel_rfl) (by kernel_rfl)) (by kernel_rfl) (by kernel_rfl)
def table : List Value := [.int .u64 30, .int .u64 13787848793156543929, .int .u64 10871156337175269513, .int .u64 27, .int .u64 10723151780598845931, .int .u64 3573116690164977347, .int .u64 31, .int .u64 1, .int .u64 1]
/-- The table lies where it lay. -/
def Steps (W : World) : Prop := ∃ t fr, W.heap[2]? = some (.cells table.toArray t fr)

theorem Steps.below {n : Nat} {W W' : World} (h : Steps W) (hn : 2 < n) (hb : Below n W W') : Steps W' := by
  obtain ⟨t, fr, e⟩ := h
  exact ⟨t, fr, (hb.block _ hn).trans e⟩
theorem Steps.lt {W : World} (h : Steps W) : 2 < W.heap.size := by
  obtain ⟨t, fr, e⟩ := h
  exact (Array.getElem?_eq_some_iff.1 e).1
theorem Steps.later {W W' : World} (h : Steps W) (hb : Below W.heap.size W W') : Steps W' := h.below h.lt hb

theorem Steps.cells {W : World} (h : Steps W) : W.cell? ⟨2, 0, none⟩ = some (.int .u64 30) ∧ W.cell? ⟨2, 1, none⟩ = some (.int .u64 13787848793156543929) ∧ W.cell? ⟨2, 2, none⟩ = some (.int .u64 10871156337175269513) ∧ W.cell? ⟨2, 3, none⟩ = some (.int .u64 27) ∧ W.cell? ⟨2, 4, none⟩ = some (.int .u64 10723151780598845931) ∧ W.cell? ⟨2, 5, none⟩ = some (.int .u64 3573116690164977347) ∧ W.cell? ⟨2, 6, none⟩ = some (.int .u64 31) ∧ W.cell? ⟨2, 7, none⟩ = some (.int .u64 1) ∧ W.cell? ⟨2, 8, none⟩ = some (.int .u64 1) := by
  obtain ⟨t, fr, e⟩ := h
  refine ⟨?_, ?_, ?_, ?_, ?_, ?_, ?_, ?_, ?_⟩ <;> exact cell_of_row W _ _ _ t fr e
theorem part_of {cs : List Value} {a b : Nat} {v : Value} (h : (((cs.drop a).take 3).drop b).take 1 = [v]) : cs[a + b]? = some v := by
  have h1 : (((cs.drop a).take 3).drop b)[0]? = some v := by
    have := congrArg (·[0]?) h
    simpa [List.getElem?_take] using this
  rw [List.getElem?_drop, Nat.add_zero] at h1
  by_cases hb : b < 3
  · rw [List.getElem?_take_of_lt hb, List.getElem?_drop] at h1
    exact h1
  · rw [List.getElem?_eq_none (by simp; omega)] at h1
    cases h1
theorem of_laid {W : World} (h : laidMetH Tryd.prog laidL W) : Steps W := by
  rw [MakeChecks.laidMetH_plain _ _ _ (by kernel_rfl)] at h
  obtain ⟨ps, ⟨g0, t0, cs0, f0, p0, q0, hg0, ht0, hv0, hd0, _⟩, _⟩ := h
  obtain rfl := Option.some.inj (gSteps.symm.trans hg0)
  obtain rfl := Option.some.inj (tSteps.symm.trans ht0)
  obtain ⟨xs, m, rfl, hx, hlen, hn, hel⟩ := DataW.trod_array Tryd.underlying104 hd0
  have c1 : Tryd.prog.cellsOf 103 = 3 := by kernel_rfl
  have c2 : Tryd.prog.cellsOf 104 = 9 := by kernel_rfl
  have c3 : Tryd.prog.cellsOf 22 = 1 := by kernel_rfl
  have c4 : Tryd.prog.cellsOf 51 = 1 := by kernel_rfl
  have row : ∀ i, i < 3 → ∀ a b c : Int, xs[i]?.map (·.1) = some (.agg [.lit (.int .u64 a), .lit (.int .u64 b), .lit (.int .u64 c)]) →
      cs0.toList[i * 3]? = some (.int .u64 a) ∧ cs0.toList[i * 3 + 1]? = some (.int .u64 b) ∧ cs0.toList[i * 3 + 2]? = some (.int .u64 c) := fun i hi a b c hi' => by
    have h0 := hel i hi
    obtain ⟨x, e⟩ : ∃ x, xs[i]? = some x := ⟨_, List.getElem?_eq_getElem (by omega)⟩
    rw [e] at h0 hi'
    rw [c1] at h0
    obtain ⟨ys, m1, rfl, hy, hl1, hn1, hf⟩ := DataW.trod_struct Tryd.underlying103 h0
    simp only [Option.map_some, Option.some.injEq] at hi'
    rw [hy] at hi'
    simp only [DataW.agg.injEq] at hi'
    match ys, hn1, hi', hf with
    | [y0, y1, y2], _, hi', hf =>
      simp only [List.map_cons, List.map_nil, List.cons.injEq, and_true] at hi'
      have f0 : DataW.trod (fun _ => ()) Tryd.prog W 0 (fun _ => true) false m1 51 ((((cs0.toList.drop (i * 3)).take 3).drop 0).take (Tryd.prog.cellsOf 51)) = some y0 := hf 0 _ rfl
      have f1 : DataW.trod (fun _ => ()) Tryd.prog W 0 (fun _ => true) false m1 22 ((((cs0.toList.drop (i * 3)).take 3).drop 1).take (Tryd.prog.cellsOf 22)) = some y1 := hf 1 _ rfl
      have f2 : DataW.trod (fun _ => ()) Tryd.prog W 0 (fun _ => true) false m1 22 ((((cs0.toList.drop (i * 3)).take 3).drop 2).take (Tryd.prog.cellsOf 22)) = some y2 := hf 2 _ rfl
      rw [c4] at f0
      rw [c3] at f1 f2
      obtain ⟨k0, e0, z0, _⟩ := DataW.trod_int Tryd.underlying51 f0
      obtain ⟨k1, e1, z1, _⟩ := DataW.trod_int Tryd.underlying22 f1
      obtain ⟨k2, e2, z2, _⟩ := DataW.trod_int Tryd.underlying22 f2
      obtain ⟨i0, i1, i2⟩ := hi'
      subst z0 z1 z2
      simp only [DataW.lit.injEq, Lit.int.injEq, true_and] at i0 i1 i2
      subst i0 i1 i2
      exact ⟨part_of (a := i * 3) (b := 0) e0, part_of (a := i * 3) (b := 1) e1, part_of (a := i * 3) (b := 2) e2⟩
  have e9 : cs0.toList.length = 9 := by rw [hlen, c2]
  simp only [Prod.mk.injEq, Rows.laid_telemeter_hash_steps, DataW.agg.injEq] at hx
  match xs, hn, hx, row with
  | [x0, x1, x2], _, hx, row =>
    simp only [List.map_cons, List.map_nil, List.cons.injEq, and_true] at hx
    have r0 := row 0 (by omega) _ _ _ (congrArg some hx.1.1.symm)
    have r1 := row 1 (by omega) _ _ _ (congrArg some hx.1.2.1.symm)
    have r2 := row 2 (by omega) _ _ _ (congrArg some hx.1.2.2.symm)
    have e : cs0.toList = table := by
      refine List.ext_getElem? fun i => ?_
      rcases Nat.lt_or_ge i 9 with hi | hi
      · match i, hi with
        | 0, _ => exact r0.1
        | 1, _ => exact r0.2.1
        | 2, _ => exact r0.2.2
        | 3, _ => exact r1.1
        | 4, _ => exact r1.2.1
        | 5, _ => exact r1.2.2
        | 6, _ => exact r2.1
        | 7, _ => exact r2.2.1
        | 8, _ => exact r2.2.2
      · rw [List.getElem?_eq_none (by omega), List.getElem?_eq_none (show table.length ≤ i from hi)]
    have e' : cs0 = table.toArray := by rw [← e]
    subst e'
    have hv := hv0
    unfold World.var? at hv
    rw [gSteps] at hv
    simp only [Option.bind_some] at hv
    split at hv
    · rename_i cs t fr hh
      obtain rfl := Option.some.inj hv
      exact ⟨_, _, hh⟩
    · cases hv
end Go.Proofs.YtkhbodlffhfmnaaDoor
