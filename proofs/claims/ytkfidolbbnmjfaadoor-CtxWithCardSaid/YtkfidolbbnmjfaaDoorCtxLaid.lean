/-
  What ctx's table of a parent's shape holds at the start, out of the card's condition on it; it holds so as long as nothing that lay turns.
-/
import Derived.Test.YtkfidolbbnmjfaaDoorLift0
import Derived.Test.YtkfidolbbnmjfaaDoorTie
import Derived.Test.YtkfidolbbnmjfaaDoorCards
import Derived.LaidMore
import Derived.Lay
import Derived.Stop.Joined
import Derived.Laws.Rows
namespace Go.Proofs.YtkfidolbbnmjfaaDoor
open Go.ChangeShapes Go.WideShapes Go.ChangeAt Go.RowKit

def laidL : List (String × DataW Unit) := [("unicode/utf8.acceptRanges", Rows.laid_unicode_utf8_acceptRanges), ("telemeter/ctx.shape", Rows.laid_telemeter_ctx_shape), ("unicode/utf8.first", Rows.laid_unicode_utf8_first)]
theorem gShape : Tryd.prog.globalNamed "telemeter/ctx.shape" = some 0 := by kernel_rfl
theorem tShape : (Tryd.prog.globals[0]?).map (·.type) = some 66 := by kernel_rfl
/-- A heap that meets the condition. -/
theorem door_met (os : Os) (args : Array Value) : laidMetH Tryd.prog laidL ((World.laidAll Tryd.prog os laidL).forCall (fun _ _ => 0) ⟨#[], args, []⟩).memory := by
  rw [MakeChecks.laidMetH_plain _ _ _ (by kernel_rfl)]
  exact laidMet_laidAll _ (by kernel_rfl) (by kernel_rfl)
def table : List Value := [.string ⟨#[48, 48, 45]⟩, .int .i64 16, .string ⟨#[]⟩, .int .i64 16, .string ⟨#[45]⟩, .int .i64 16, .string ⟨#[45]⟩, .int .i64 2]
/-- The table lies where it lay. -/
def Shape (W : World) : Prop := ∃ t fr, W.heap[0]? = some (.cells table.toArray t fr)
theorem Shape.below {n : Nat} {W W' : World} (h : Shape W) (hn : 0 < n) (hb : Below n W W') : Shape W' := by
  obtain ⟨t, fr, e⟩ := h
  exact ⟨t, fr, (hb.block _ hn).trans e⟩
theorem Shape.lt {W : World} (h : Shape W) : 0 < W.heap.size := by
  obtain ⟨t, fr, e⟩ := h
  exact (Array.getElem?_eq_some_iff.1 e).1
theorem Shape.later {W W' : World} (h : Shape W) (hb : Below W.heap.size W W') : Shape W' := h.below h.lt hb
theorem Shape.cells {W : World} (h : Shape W) : W.cell? ⟨0, 0, none⟩ = some (.string ⟨#[48, 48, 45]⟩) ∧ W.cell? ⟨0, 1, none⟩ = some (.int .i64 16) ∧ W.cell? ⟨0, 2, none⟩ = some (.string ⟨#[]⟩) ∧ W.cell? ⟨0, 3, none⟩ = some (.int .i64 16) ∧
    W.cell? ⟨0, 4, none⟩ = some (.string ⟨#[45]⟩) ∧ W.cell? ⟨0, 5, none⟩ = some (.int .i64 16) ∧ W.cell? ⟨0, 6, none⟩ = some (.string ⟨#[45]⟩) ∧ W.cell? ⟨0, 7, none⟩ = some (.int .i64 2) := by
  obtain ⟨t, fr, e⟩ := h
  refine ⟨?_, ?_, ?_, ?_, ?_, ?_, ?_, ?_⟩ <;> exact cell_of_row W _ _ _ t fr e
theorem part_of {cs : List Value} {a b : Nat} {v : Value} (h : (((cs.drop a).take 2).drop b).take 1 = [v]) : cs[a + b]? = some v := by
  have h1 : (((cs.drop a).take 2).drop b)[0]? = some v := by
    have := congrArg (·[0]?) h
    simpa [List.getElem?_take] using this
  rw [List.getElem?_drop, Nat.add_zero] at h1
  by_cases hb : b < 2
  · rw [List.getElem?_take_of_lt hb, List.getElem?_drop] at h1
    exact h1
  · rw [List.getElem?_eq_none (by simp; omega)] at h1
    cases h1
theorem of_laid {W : World} (h : laidMetH Tryd.prog laidL W) : Shape W := by
  rw [MakeChecks.laidMetH_plain _ _ _ (by kernel_rfl)] at h
  obtain ⟨ps, ⟨g9, t9, cs9, f9, p9, q9, hg9, ht9, hv9, hd9, ⟨g0, t0, cs0, f0, p0, q0, hg0, ht0, hv0, hd0, _⟩, _⟩, _⟩ := h
  obtain rfl := Option.some.inj (gShape.symm.trans hg0)
  obtain rfl := Option.some.inj (tShape.symm.trans ht0)
  obtain ⟨xs, m, rfl, hx, hlen, hn, hel⟩ := DataW.trod_array Tryd.underlying66 hd0
  have c1 : Tryd.prog.cellsOf 65 = 2 := by kernel_rfl
  have c2 : Tryd.prog.cellsOf 66 = 8 := by kernel_rfl
  have c3 : Tryd.prog.cellsOf 9 = 1 := by kernel_rfl
  have c4 : Tryd.prog.cellsOf 3 = 1 := by kernel_rfl
  have row : ∀ i, i < 4 → ∀ (a : List UInt8) (b : Int), xs[i]?.map (·.1) = some (.agg [.lit (.string a), .lit (.int .i64 b)]) →
      cs0.toList[i * 2]? = some (.string ⟨a.toArray⟩) ∧ cs0.toList[i * 2 + 1]? = some (.int .i64 b) := fun i hi a b hi' => by
    have h0 := hel i hi
    obtain ⟨x, e⟩ : ∃ x, xs[i]? = some x := ⟨_, List.getElem?_eq_getElem (by omega)⟩
    rw [e] at h0 hi'
    rw [c1] at h0
    obtain ⟨ys, m1, rfl, hy, hl1, hn1, hf⟩ := DataW.trod_struct Tryd.underlying65 h0
    simp only [Option.map_some, Option.some.injEq] at hi'
    rw [hy] at hi'
    simp only [DataW.agg.injEq] at hi'
    match ys, hn1, hi', hf with
    | [y0, y1], _, hi', hf =>
      simp only [List.map_cons, List.map_nil, List.cons.injEq, and_true] at hi'
      have f0 : DataW.trod (fun _ => ()) Tryd.prog W 0 (fun _ => true) false m1 9 ((((cs0.toList.drop (i * 2)).take 2).drop 0).take (Tryd.prog.cellsOf 9)) = some y0 := hf 0 _ rfl
      have f1 : DataW.trod (fun _ => ()) Tryd.prog W 0 (fun _ => true) false m1 3 ((((cs0.toList.drop (i * 2)).take 2).drop 1).take (Tryd.prog.cellsOf 3)) = some y1 := hf 1 _ rfl
      rw [c3] at f0
      rw [c4] at f1
      obtain ⟨k0, e0, z0, _⟩ := DataW.trod_string Tryd.underlying9 f0
      obtain ⟨k1, e1, z1, _⟩ := DataW.trod_int Tryd.underlying3 f1
      obtain ⟨i0, i1⟩ := hi'
      subst z0 z1
      simp only [DataW.lit.injEq, Lit.int.injEq, Lit.string.injEq, true_and] at i0 i1
      subst i1
      have e0' : k0 = ⟨a.toArray⟩ := by rw [← i0]
      subst e0'
      exact ⟨part_of (a := i * 2) (b := 0) e0, part_of (a := i * 2) (b := 1) e1⟩
  have e9 : cs0.toList.length = 8 := by rw [hlen, c2]
  simp only [Prod.mk.injEq, Rows.laid_telemeter_ctx_shape, DataW.agg.injEq] at hx
  match xs, hn, hx, row with
  | [x0, x1, x2, x3], _, hx, row =>
    simp only [List.map_cons, List.map_nil, List.cons.injEq, and_true] at hx
    have r0 := row 0 (by omega) _ _ (congrArg some hx.1.1.symm)
    have r1 := row 1 (by omega) _ _ (congrArg some hx.1.2.1.symm)
    have r2 := row 2 (by omega) _ _ (congrArg some hx.1.2.2.1.symm)
    have r3 := row 3 (by omega) _ _ (congrArg some hx.1.2.2.2.symm)
    have e : cs0.toList = table := by
      refine List.ext_getElem? fun i => ?_
      rcases Nat.lt_or_ge i 8 with hi | hi
      · match i, hi with
        | 0, _ => exact r0.1
        | 1, _ => exact r0.2
        | 2, _ => exact r1.1
        | 3, _ => exact r1.2
        | 4, _ => exact r2.1
        | 5, _ => exact r2.2
        | 6, _ => exact r3.1
        | 7, _ => exact r3.2
      · rw [List.getElem?_eq_none (by omega), List.getElem?_eq_none (show table.length ≤ i from hi)]
    have e' : cs0 = table.toArray := by rw [← e]
    subst e'
    have hv := hv0
    unfold World.var? at hv
    rw [gShape] at hv
    simp only [Option.bind_some] at hv
    split at hv
    · rename_i cs t fr hh
      obtain rfl := Option.some.inj hv
      exact ⟨_, _, hh⟩
    · cases hv
end Go.Proofs.YtkfidolbbnmjfaaDoor
