/-
  What policy's table of bounds holds at the start, out of the card's condition on it; it holds so as long as nothing that lay turns.
-/
import Derived.Test.YtmjbdjcpjaeemaaDoorLift0
import Derived.Test.YtmjbdjcpjaeemaaDoorTie
import Derived.Test.YtmjbdjcpjaeemaaDoorCards
import Derived.LaidMore
import Derived.Stop.Joined
import Derived.Laws.Rows
namespace Go.Proofs.YtmjbdjcpjaeemaaDoor
open Go.ChangeShapes Go.WideShapes Go.ChangeAt Go.RowKit

def laidL : List (String × DataW Unit) := [("telemeter/policy.mostA", Rows.laid_telemeter_policy_mostA)]
theorem gMost : Tryd.prog.globalNamed "telemeter/policy.mostA" = some 0 := by kernel_rfl
theorem tMost : (Tryd.prog.globals[0]?).map (·.type) = some 68 := by kernel_rfl
/-- The door's own heap meets the condition. -/
theorem door_met (os : Os) (args : Array Value) : laidMetH Tryd.prog laidL ((World.doorLaid Tryd.prog 400 os).forCall (fun _ _ => 0) ⟨#[], args, []⟩).memory :=
  laidMetH_of_parts3 (fuel := 8) (laidMet_of_run' 8 (by kernel_rfl) (by kernel_rfl)) (by kernel_rfl) (by kernel_rfl)
def table : List Value := [.int .i64 0, .int .i64 9223372036854775807, .int .i64 0, .int .i64 0, .int .i64 9223372036854775807, .int .i64 72057594037927936]
/-- The table lies where it lay. -/
def Most (W : World) : Prop := ∃ t fr, W.heap[0]? = some (.cells table.toArray t fr)
theorem Most.below {n : Nat} {W W' : World} (h : Most W) (hn : 0 < n) (hb : Below n W W') : Most W' := by
  obtain ⟨t, fr, e⟩ := h
  exact ⟨t, fr, (hb.block _ hn).trans e⟩
theorem Most.lt {W : World} (h : Most W) : 0 < W.heap.size := by
  obtain ⟨t, fr, e⟩ := h
  exact (Array.getElem?_eq_some_iff.1 e).1
theorem Most.later {W W' : World} (h : Most W) (hb : Below W.heap.size W W') : Most W' := h.below h.lt hb
theorem Most.cell {W : World} (h : Most W) (k : Nat) {v : Value} (hv : table.toArray[k]? = some v) : W.cell? ⟨0, k, none⟩ = some v := by
  obtain ⟨t, fr, e⟩ := h
  rw [cell_of_row W _ _ _ t fr e]
  exact hv
theorem of_laid {W : World} (h : laidMetH Tryd.prog laidL W) : Most W := by
  rw [MakeChecks.laidMetH_plain _ _ _ (by kernel_rfl)] at h
  obtain ⟨ps, ⟨g0, t0, cs0, f0, p0, q0, hg0, ht0, hv0, hd0, _⟩, _⟩ := h
  obtain rfl := Option.some.inj (gMost.symm.trans hg0)
  obtain rfl := Option.some.inj (tMost.symm.trans ht0)
  obtain ⟨xs, m, rfl, hx, hlen, hn, hel⟩ := DataW.trod_array Tryd.underlying68 hd0
  have c1 : Tryd.prog.cellsOf 3 = 1 := by kernel_rfl
  have c2 : Tryd.prog.cellsOf 68 = 6 := by kernel_rfl
  have row : ∀ i, i < 6 → ∀ a : Int, xs[i]?.map (·.1) = some (.lit (.int .i64 a)) → cs0.toList[i]? = some (.int .i64 a) := fun i hi a hi' => by
    have h0 := hel i hi
    obtain ⟨x, e⟩ : ∃ x, xs[i]? = some x := ⟨_, List.getElem?_eq_getElem (by omega)⟩
    rw [e] at h0 hi'
    rw [c1] at h0
    obtain ⟨k0, e0, z0, _⟩ := DataW.trod_int Tryd.underlying3 h0
    simp only [Option.map_some, Option.some.injEq] at hi'
    subst z0
    simp only [DataW.lit.injEq, Lit.int.injEq, true_and] at hi'
    subst hi'
    have h1 := congrArg (·[0]?) e0
    rw [Nat.mul_one] at h1
    simpa [List.getElem?_take] using h1
  have e9 : cs0.toList.length = 6 := by rw [hlen, c2]
  simp only [Prod.mk.injEq, Rows.laid_telemeter_policy_mostA, DataW.agg.injEq] at hx
  match xs, hn, hx, row with
  | [x0, x1, x2, x3, x4, x5], _, hx, row =>
    simp only [List.map_cons, List.map_nil, List.cons.injEq, and_true] at hx
    have r0 := row 0 (by omega) _ (congrArg some hx.1.1.symm)
    have r1 := row 1 (by omega) _ (congrArg some hx.1.2.1.symm)
    have r2 := row 2 (by omega) _ (congrArg some hx.1.2.2.1.symm)
    have r3 := row 3 (by omega) _ (congrArg some hx.1.2.2.2.1.symm)
    have r4 := row 4 (by omega) _ (congrArg some hx.1.2.2.2.2.1.symm)
    have r5 := row 5 (by omega) _ (congrArg some hx.1.2.2.2.2.2.symm)
    have e : cs0.toList = table := by
      refine List.ext_getElem? fun i => ?_
      rcases Nat.lt_or_ge i 6 with hi | hi
      · match i, hi with
        | 0, _ => exact r0
        | 1, _ => exact r1
        | 2, _ => exact r2
        | 3, _ => exact r3
        | 4, _ => exact r4
        | 5, _ => exact r5
      · rw [List.getElem?_eq_none (by omega), List.getElem?_eq_none (show table.length ≤ i from hi)]
    have e' : cs0 = table.toArray := by rw [← e]
    subst e'
    have hv := hv0
    unfold World.var? at hv
    rw [gMost] at hv
    simp only [Option.bind_some] at hv
    split at hv
    · rename_i cs t fr hh
      obtain rfl := Option.some.inj hv
      exact ⟨_, _, hh⟩
    · cases hv
end Go.Proofs.YtmjbdjcpjaeemaaDoor
