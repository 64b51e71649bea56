/-
  What item.isNoSpan does, at every span. No condition.
-/
import Derived.Test.YtklgggolkclebaaItemRightOf
namespace Go.Proofs.Ytklgggolkclebaa
open Go.RowKit Go.Proofs.NumMath Go.Proofs.ItemMath

def noSpan (s : Sp) : Bool :=
  decide (s.hi = 0) && decide (s.lo = 0) && decide (s.id = 0) && decide (s.par = 0) && decide (s.name.size = 0) && decide (s.start = 0) && decide (s.stop = 0) && !s.bad && decide (s.attrs.length = 0) && decide (s.rv = 0)

set_option linter.unusedVariables false in
set_option maxRecDepth 100000 in
set_option maxHeartbeats 4000000 in
/-- **item.isNoSpan at every span.** -/
theorem isNoSpan_any (hi lo id par rv : Nat) (name : ByteArray) (start stop : Int) (bad : Bool) (A : Option Addr) (l : List Attr) (n cap : Nat) (w : World) (r : Bool) (hn : l.length = n) (hres : noSpan ⟨hi, lo, id, par, name, start, stop, bad, l, rv⟩ = r) :
    Calls Try.prog 36 #[.agg (spCells hi lo id par name start stop bad A n cap rv)] w fun e w' => e = .returned (.bool r) ∧ Below w.heap.size w w' := by
  have hB0 : Below w.heap.size w (w.alloc (.cells (spCells hi lo id par name start stop bad A n cap rv) 26)) := (Below.refl _ w).alloc (Nat.le_refl _) _
  unfold noSpan at hres
  dsimp only at hres
  rw [hn] at hres
  unfold spCells at hB0 ⊢
  clear hn
  by_cases c0 : ¬ hi = 0
  · have d0 : ((hi : Int) == 0) = false := by simp; omega
    have e : r = false := by rw [← hres, decide_eq_false c0]; simp
    subst e
    clear hres
    go_enter Try.func36, Try.ntmps36
    go_wp2
    go_ret
    exact ⟨rfl, hB0⟩
  have c0 : hi = 0 := by omega
  have d0 : ((hi : Int) == 0) = true := by simp; omega
  rw [decide_eq_true c0] at hres
  clear c0
  by_cases c1 : ¬ lo = 0
  · have d1 : ((lo : Int) == 0) = false := by simp; omega
    have e : r = false := by rw [← hres, decide_eq_false c1]; simp
    subst e
    clear hres
    go_enter Try.func36, Try.ntmps36
    go_wp2
    go_ret
    exact ⟨rfl, hB0⟩
  have c1 : lo = 0 := by omega
  have d1 : ((lo : Int) == 0) = true := by simp; omega
  rw [decide_eq_true c1] at hres
  clear c1
  by_cases c2 : ¬ id = 0
  · have d2 : ((id : Int) == 0) = false := by simp; omega
    have e : r = false := by rw [← hres, decide_eq_false c2]; simp
    subst e
    clear hres
    go_enter Try.func36, Try.ntmps36
    go_wp2
    go_ret
    exact ⟨rfl, hB0⟩
  have c2 : id = 0 := by omega
  have d2 : ((id : Int) == 0) = true := by simp; omega
  rw [decide_eq_true c2] at hres
  clear c2
  by_cases c3 : ¬ par = 0
  · have d3 : ((par : Int) == 0) = false := by simp; omega
    have e : r = false := by rw [← hres, decide_eq_false c3]; simp
    subst e
    clear hres
    go_enter Try.func36, Try.ntmps36
    go_wp2
    go_ret
    exact ⟨rfl, hB0⟩
  have c3 : par = 0 := by omega
  have d3 : ((par : Int) == 0) = true := by simp; omega
  rw [decide_eq_true c3] at hres
  clear c3
  by_cases c4 : ¬ name.size = 0
  · have d4 : name.toList.isEmpty = false := full_of c4
    have e : r = false := by rw [← hres, decide_eq_false c4]; simp
    subst e
    clear hres
    go_enter Try.func36, Try.ntmps36
    go_wp2
    go_ret
    exact ⟨rfl, hB0⟩
  have c4 : name.size = 0 := by omega
  have d4 : name.toList.isEmpty = true := empty_of c4
  rw [decide_eq_true c4] at hres
  clear c4
  by_cases c5 : ¬ start = 0
  · have d5 : (start == 0) = false := by simp; omega
    have e : r = false := by rw [← hres, decide_eq_false c5]; simp
    subst e
    clear hres
    go_enter Try.func36, Try.ntmps36
    go_wp2
    go_ret
    exact ⟨rfl, hB0⟩
  have c5 : start = 0 := by omega
  have d5 : (start == 0) = true := by simp; omega
  rw [decide_eq_true c5] at hres
  clear c5
  by_cases c6 : ¬ stop = 0
  · have d6 : (stop == 0) = false := by simp; omega
    have e : r = false := by rw [← hres, decide_eq_false c6]; simp
    subst e
    clear hres
    go_enter Try.func36, Try.ntmps36
    go_wp2
    go_ret
    exact ⟨rfl, hB0⟩
  have c6 : stop = 0 := by omega
  have d6 : (stop == 0) = true := by simp; omega
  rw [decide_eq_true c6] at hres
  clear c6
  by_cases c7 : bad = true
  · subst c7
    have e : r = false := by rw [← hres]; simp
    subst e
    clear hres
    go_enter Try.func36, Try.ntmps36
    go_wp2
    go_ret
    exact ⟨rfl, hB0⟩
  have c7 : bad = false := by simpa using c7
  subst c7
  by_cases c8 : ¬ n = 0
  · have d8 : ((n : Int) == 0) = false := by simp; omega
    have e : r = false := by rw [← hres, decide_eq_false c8]; simp
    subst e
    clear hres
    go_enter Try.func36, Try.ntmps36
    go_wp2
    go_ret
    exact ⟨rfl, hB0⟩
  have c8 : n = 0 := by omega
  have d8 : ((n : Int) == 0) = true := by simp; omega
  rw [decide_eq_true c8] at hres
  clear c8
  by_cases c9 : ¬ rv = 0
  · have d9 : ((rv : Int) == 0) = false := by simp; omega
    have e : r = false := by rw [← hres, decide_eq_false c9]; simp
    subst e
    clear hres
    go_enter Try.func36, Try.ntmps36
    go_wp2
    go_ret
    exact ⟨rfl, hB0⟩
  have c9 : rv = 0 := by omega
  have d9 : ((rv : Int) == 0) = true := by simp; omega
  rw [decide_eq_true c9] at hres
  clear c9
  have e : r = true := by rw [← hres]; rfl
  subst e
  clear hres
  go_enter Try.func36, Try.ntmps36
  go_wp2
  go_ret
  exact ⟨rfl, hB0⟩

end Go.Proofs.Ytklgggolkclebaa
