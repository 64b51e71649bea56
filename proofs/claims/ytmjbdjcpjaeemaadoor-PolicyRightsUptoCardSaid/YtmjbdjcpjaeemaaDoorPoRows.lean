/-
  May rows of rules be? The program's answer, and the document's own of a rule and of rows.
-/
import Derived.Test.YtmjbdjcpjaeemaaDoorPoRight
namespace Go.Proofs.YtmjbdjcpjaeemaaDoor
open Go.RowKit

theorem goes_rule : Goes 27 := goes_of Tryd.func27 (by kernel_rfl) rfl
def rowM (row : List Ru) : Bool := decide (0 < row.length) && row.all rightM
/-- How many rules the first i rows have. -/
def sumN (ls : List (List Ru)) : Nat → Nat
  | 0 => 0
  | i + 1 => sumN ls i + (ls.getD i []).length
theorem sumN_take (ls : List (List Ru)) {i : Nat} (h : i ≤ ls.length) : sumN ls i = sumM (ls.take i) := by
  induction i with
  | zero => rfl
  | succ i ih =>
    rw [sumN, ih (by omega)]
    unfold sumM
    rw [List.take_add_one, List.getElem?_eq_getElem (by omega), List.map_append, List.sum_append, getD_get (by omega)]
    simp
theorem sumN_all (ls : List (List Ru)) : sumN ls ls.length = sumM ls := by rw [sumN_take ls (Nat.le_refl _), List.take_length]
theorem sumN_mono (ls : List (List Ru)) (i d : Nat) : sumN ls i ≤ sumN ls (i + d) := by
  induction d with
  | zero => exact Nat.le_refl _
  | succ d ih => rw [← Nat.add_assoc, sumN]; omega
theorem rights_yes {ls : List (List Ru)} (h : ∀ i, i < ls.length → rowM (ls.getD i []) = true) (hs : sumN ls ls.length ≤ 20) : rightsM ls = true := by
  unfold rightsM
  rw [Bool.and_eq_true, List.all_eq_true]
  refine ⟨fun x hx => ?_, by rw [← sumN_all]; simpa using hs⟩
  obtain ⟨i, hi, rfl⟩ := List.mem_iff_getElem.1 hx
  have := h i hi
  rw [getD_get hi []] at this
  exact this
theorem rights_row {ls : List (List Ru)} {i : Nat} (hi : i < ls.length) (h : rowM (ls.getD i []) = false) : rightsM ls = false := by
  unfold rightsM
  rw [Bool.and_eq_false_iff]
  refine .inl (List.all_eq_false.2 ⟨ls.getD i [], by rw [getD_get hi []]; exact List.getElem_mem hi, ?_⟩)
  unfold rowM at h
  rw [h]; simp
theorem rights_sum {ls : List (List Ru)} {i : Nat} (hi : i ≤ ls.length) (h : 20 < sumN ls i) : rightsM ls = false := by
  unfold rightsM
  rw [Bool.and_eq_false_iff]
  refine .inr (decide_eq_false ?_)
  rw [← sumN_all]
  have := sumN_mono ls i (ls.length - i)
  rw [show i + (ls.length - i) = ls.length by omega] at this
  omega

set_option linter.unusedSimpArgs false in
set_option maxRecDepth 100000 in
set_option maxHeartbeats 4000000 in
theorem right_any (A : Option Addr) (ls : List (List Ru)) (m cap : Nat) (w : World) (hm : ls.length = m) (hm2 : m ≤ 9223372036854775807) (hrow : ∀ i, i < m → (ls.getD i []).length ≤ 9223372036854775807) (hR : HoldsRR w.heap.size w A ls) (hMo : Most w) :
    Calls Tryd.prog 15 #[.slice A m cap] w fun e w' => e = .returned (.bool (rightsM ls)) ∧ Below w.heap.size w w' := by
  have HR := Lib.hid hR
  have HM := Lib.hid hm
  have HE : Hid (∀ W, Below w.heap.size w W → ∀ i, i < m → ∀ B c, HoldsR w.heap.size w B (ls.getD i []) → Calls Tryd.prog 21 #[.slice B (ls.getD i []).length c, .func (.func 27) #[] #[]] W fun e w' => e = .returned (.bool ((ls.getD i []).all rightM)) ∧ Below w.heap.size w w') := Lib.hid fun W hW i hi B c hB =>
    (each_any B (ls.getD i []) _ c 27 #[] rightM W rfl (hrow i hi) ((hB.below hW).mono hW.size) goes_rule fun W' hW' j hj => by
      simpa using rule_any ((ls.getD i []).getD j ru0) W' ((hMo.later hW).later hW')).mono fun e w' ⟨he, hb⟩ => ⟨he, hW.trans (hb.mono hW.size)⟩
  have HW := Lib.hid hrow
  have HYES : Hid ((∀ i, i < m → rowM (ls.getD i []) = true) → sumN ls m ≤ 20 → rightsM ls = true) := Lib.hid fun h1 h2 => rights_yes (fun i hi => h1 i (by omega)) (by rw [hm]; exact h2)
  have HROW : Hid (∀ i, i < m → rowM (ls.getD i []) = false → rightsM ls = false) := Lib.hid fun i hi h => rights_row (by omega) h
  have HSUM : Hid (∀ i, i ≤ m → 20 < sumN ls i → rightsM ls = false) := Lib.hid fun i hi h => rights_sum (by omega) h
  clear hR hm hMo hrow
  go_enter Tryd.func15, Tryd.ntmps15
  go_wp2_with fail
  go_loopw [3, 8] (fun lv iv wr => ∃ i left : Nat, lv = .int .i64 (left : Int) ∧ iv = .int .i64 (i : Int) ∧ i ≤ m ∧ left ≤ 20 ∧ Hid (∀ j, j < i → rowM (ls.getD j []) = true) ∧ Hid (sumN ls i + left = 20) ∧ Hid (Below w.heap.size w wr)) (fun _ iv _ => m - (intOf iv).toNat)
  case atStart => exact ⟨0, 20, rfl, rfl, by omega, by omega, Lib.hid fun j hj => absurd hj (by omega), Lib.hid rfl, Lib.hid (Below.refl _ _)⟩
  case round =>
    obtain ⟨i, left, rfl, rfl, hi, hl, HI, HS, HB⟩ := hrel
    by_cases hlt : i < m
    · obtain ⟨b, off, rfl, hb, hc⟩ := HR.out (by rw [HM.out]; omega)
      obtain ⟨B, c, h0, hB⟩ := hc i (by rw [HM.out]; omega)
      have hcall := HE.out wr HB.out i hlt B c hB
      have t : ∀ k, wr.cell? ⟨b, k, none⟩ = w.cell? ⟨b, k, none⟩ := fun k => HB.out.cell (p := ⟨b, k, none⟩) hb
      rw [← t] at h0
      obtain ⟨q, hq⟩ : ∃ q, (ls.getD i []).all rightM = q := ⟨_, rfl⟩
      rw [hq] at hcall
      obtain ⟨na, hna⟩ : ∃ z, (ls.getD i []).length = z := ⟨_, rfl⟩
      have hnb := HW.out i hlt
      rw [hna] at h0 hcall hnb
      have HCALL := Lib.hid hcall
      have HQ : Hid (rowM (ls.getD i []) = (decide (0 < na) && q)) := Lib.hid (by unfold rowM; rw [hna, hq])
      have HS1 : Hid (sumN ls (i + 1) = sumN ls i + na) := Lib.hid (by rw [sumN, hna])
      have ti : decide ((i : Int) < (m : Int)) = true := by simp; omega
      clear t hc hcall hq hB hna
      by_cases hz : na = 0
      · have tz : ((na : Int) == 0) = true := by simp; omega
        have HF : Hid (rightsM ls = false) := Lib.hid (HROW.out i hlt (by rw [HQ.out, decide_eq_false (show ¬ 0 < na by omega)]; rfl))
        clear hz
        go_wp2_with fail
        go_ret
        exact ⟨ret_b HF.out.symm, HB.out⟩
      have tz : ((na : Int) == 0) = false := by simp; omega
      by_cases hg : left < na
      · have tg : decide ((left : Int) < (na : Int)) = true := by simp; omega
        have tgn : decide (left < na) = true := by simp; omega
        have HF : Hid (rightsM ls = false) := Lib.hid (HSUM.out (i + 1) (by omega) (by rw [HS1.out]; have := HS.out; omega))
        clear hz hg
        go_wp2_with fail
        go_ret
        exact ⟨ret_b HF.out.symm, HB.out⟩
      have tg : decide ((left : Int) < (na : Int)) = false := by simp; omega
      have tgn : decide (left < na) = false := by simp; omega
      obtain ⟨l2, hl2, hl3⟩ : ∃ l2 : Nat, (left : Int) - (na : Int) = (l2 : Int) ∧ l2 + na = left := ⟨left - na, by omega, by omega⟩
      have HQ1 : Hid (rowM (ls.getD i []) = q) := Lib.hid (by rw [HQ.out, decide_eq_true (show 0 < na by omega), Bool.true_and])
      have hl2b : l2 ≤ 20 := by omega
      have HL3 := Lib.hid hl3
      clear hz hg hl3 HQ
      go_wp2_with fail
      refine HCALL.out.mono ?_
      rintro e w2 ⟨rfl, hb2⟩
      have HB2 := Lib.hid hb2
      clear hb2 h0
      cases q with
      | false =>
        have HF : Hid (rightsM ls = false) := Lib.hid (HROW.out i hlt HQ1.out)
        go_wp2_with fail
        go_ret
        exact ⟨ret_b HF.out.symm, HB2.out⟩
      | true =>
        go_wp2_with fail
        go_roundw
        case rel => exact ⟨i + 1, l2, rfl, by simp, by omega, hl2b, Lib.hid fun j hj => by
          rcases Nat.lt_or_ge j i with h | h
          · exact HI.out j h
          · rw [show j = i by omega]; exact HQ1.out, Lib.hid (by rw [HS1.out]; have := HS.out; have := HL3.out; omega), HB2⟩
        case measure => simp [intOf]; omega
    · have hie : i = m := by omega
      subst hie
      have ti : decide ((i : Int) < (i : Int)) = false := by simp
      have HF : Hid (rightsM ls = true) := Lib.hid (HYES.out HI.out (by have := HS.out; omega))
      clear hlt
      go_wp2_with fail
      go_ret
      exact ⟨ret_b HF.out.symm, HB.out⟩

set_option linter.unusedSimpArgs false in
set_option linter.unusedVariables false in
set_option maxRecDepth 100000 in
set_option maxHeartbeats 4000000 in
theorem refRule_any (r : Ru) (w : World) (ha64 : In64 r.a) :
    Calls Tryd.prog 28 #[.agg (ruCells r)] w fun e w' => e = .returned (.bool (rightM r)) ∧ Below w.heap.size w w' := by
  have HB := Lib.hid (box_below (W := w) (.cells (ruCells r) 39))
  obtain ⟨b2, b3, c2, c3, hT⟩ := tx_of r
  have hT3 := hT.three
  have hT0 := hT.else_
  obtain ⟨f2, f3, f4, f5, f6⟩ := hT.nat
  obtain ⟨e2, e3, d2, d3⟩ := hT
  obtain ⟨t, ht⟩ : ∃ b, textsM r = b := ⟨_, rfl⟩
  have hR : rightM r = (decide (1 ≤ r.kind) && decide (r.kind ≤ 5) && decide (0 ≤ r.a) && decide (r.a ≤ mostM r.kind) && t) := by unfold rightM; rw [ht]
  rw [ht] at hT3 hT0
  obtain ⟨b, hb⟩ : ∃ b, rightM r = b := ⟨_, rfl⟩
  rw [hb] at hR ⊢
  obtain ⟨ha1, ha2⟩ := ha64
  obtain ⟨x0, x1, x2, x3⟩ := r
  unfold ruCells at HB ⊢
  dsimp only at HB hT3 hT0 e2 e3 d2 d3 f2 f3 f4 f5 f6 ha1 ha2 hR ⊢
  clear ht hb
  by_cases k1 : x0 < 1
  · have t1 : decide ((x0 : Int) < 1) = true := by simp; omega
    have t1n : decide (x0 < 1) = true := by simp; omega
    have HR : Hid (b = false) := Lib.hid (by rw [hR, decide_eq_false (show ¬ 1 ≤ x0 by omega)]; rfl)
    clear hR hT3 hT0 k1
    go_enter Tryd.func28, Tryd.ntmps28
    go_wp2_with fail
    go_ret
    exact ⟨ret_b HR.out.symm, HB.out⟩
  have t1 : decide ((x0 : Int) < 1) = false := by simp; omega
  have t1n : decide (x0 < 1) = false := by simp; omega
  by_cases k5 : 5 < x0
  · have t5 : decide ((5 : Int) < (x0 : Int)) = true := by simp; omega
    have t5n : decide (5 < x0) = true := by simp; omega
    have HR : Hid (b = false) := Lib.hid (by rw [hR, decide_eq_false (show ¬ x0 ≤ 5 by omega)]; simp)
    clear hR hT3 hT0 k1 k5
    go_enter Tryd.func28, Tryd.ntmps28
    go_wp2_with fail
    go_ret
    exact ⟨ret_b HR.out.symm, HB.out⟩
  have t5 : decide ((5 : Int) < (x0 : Int)) = false := by simp; omega
  have t5n : decide (5 < x0) = false := by simp; omega
  by_cases ka : x1 < 0
  · have ta : decide (x1 < 0) = true := by simp; omega
    have HR : Hid (b = false) := Lib.hid (by rw [hR, decide_eq_false (show ¬ 0 ≤ x1 by omega)]; simp)
    clear hR hT3 hT0 k1 k5 ka
    go_enter Tryd.func28, Tryd.ntmps28
    go_wp2_with fail
    go_ret
    exact ⟨ret_b HR.out.symm, HB.out⟩
  have ta : decide (x1 < 0) = false := by simp; omega
  rw [decide_eq_true (show 1 ≤ x0 by omega), decide_eq_true (show x0 ≤ 5 by omega), decide_eq_true (show 0 ≤ x1 by omega)] at hR
  have hcases : x0 = 1 ∨ x0 = 2 ∨ x0 = 3 ∨ x0 = 4 ∨ x0 = 5 := by omega
  rcases hcases with h | h | h | h | h
  · have q5 : ((x0 : Int) == 5) = false := by simp; omega
    have q2 : ((x0 : Int) == 2) = false := by simp; omega
    have q3 : ((x0 : Int) == 3) = false := by simp; omega
    have hmm : mostM x0 = 9223372036854775807 := by rw [h]; rfl
    rw [hmm] at hR
    rw [decide_eq_true (show x1 ≤ 9223372036854775807 by omega)] at hR
    have HR : Hid (b = (b2 && b3)) := Lib.hid (by rw [hR, hT0 (by show x0 ≠ 3; omega)]; simp)
    clear hR hT3 hT0 k1 k5 ka h hmm
    cases b2 <;>
    · go_enter Tryd.func28, Tryd.ntmps28
      go_wp2_with fail
      go_ret
      exact ⟨ret_b (by rw [HR.out]; rfl), HB.out⟩
  · have q5 : ((x0 : Int) == 5) = false := by simp; omega
    have q2 : ((x0 : Int) == 2) = true := by simp; omega
    have q3 : ((x0 : Int) == 3) = false := by simp; omega
    have hmm : mostM x0 = 0 := by rw [h]; rfl
    rw [hmm] at hR
    by_cases kb : x1 = 0
    rotate_left
    · have tb : (x1 != 0) = true := by simp; omega
      have HR : Hid (b = false) := Lib.hid (by rw [hR, decide_eq_false (show ¬ x1 ≤ 0 by omega)]; simp)
      clear hR hT3 hT0 k1 k5 ka kb h hmm
      go_enter Tryd.func28, Tryd.ntmps28
      go_wp2_with fail
      go_ret
      exact ⟨ret_b HR.out.symm, HB.out⟩
    have tb : (x1 != 0) = false := by simp; omega
    rw [decide_eq_true (show x1 ≤ 0 by omega)] at hR
    have HR : Hid (b = (b2 && b3)) := Lib.hid (by rw [hR, hT0 (by show x0 ≠ 3; omega)]; simp)
    clear hR hT3 hT0 k1 k5 ka kb h hmm
    cases b2 <;>
    · go_enter Tryd.func28, Tryd.ntmps28
      go_wp2_with fail
      go_ret
      exact ⟨ret_b (by rw [HR.out]; rfl), HB.out⟩
  · have q5 : ((x0 : Int) == 5) = false := by simp; omega
    have q2 : ((x0 : Int) == 2) = false := by simp; omega
    have q3 : ((x0 : Int) == 3) = true := by simp; omega
    have hmm : mostM x0 = 0 := by rw [h]; rfl
    rw [hmm] at hR
    by_cases kb : x1 = 0
    rotate_left
    · have tb : (x1 != 0) = true := by simp; omega
      have HR : Hid (b = false) := Lib.hid (by rw [hR, decide_eq_false (show ¬ x1 ≤ 0 by omega)]; simp)
      clear hR hT3 hT0 k1 k5 ka kb h hmm
      go_enter Tryd.func28, Tryd.ntmps28
      go_wp2_with fail
      go_ret
      exact ⟨ret_b HR.out.symm, HB.out⟩
    have tb : (x1 != 0) = false := by simp; omega
    rw [decide_eq_true (show x1 ≤ 0 by omega)] at hR
    have HR : Hid (b = (!b2 && (c2 && c3))) := Lib.hid (by rw [hR, hT3 h]; simp)
    clear hR hT3 hT0 k1 k5 ka kb h hmm
    cases b2 with
    | true =>
      go_enter Tryd.func28, Tryd.ntmps28
      go_wp2_with fail
      go_ret
      exact ⟨ret_b (by rw [HR.out]; rfl), HB.out⟩
    | false =>
      cases c2 <;>
      · go_enter Tryd.func28, Tryd.ntmps28
        go_wp2_with fail
        go_ret
        exact ⟨ret_b (by rw [HR.out]; rfl), HB.out⟩
  · have q5 : ((x0 : Int) == 5) = false := by simp; omega
    have q2 : ((x0 : Int) == 2) = false := by simp; omega
    have q3 : ((x0 : Int) == 3) = false := by simp; omega
    have hmm : mostM x0 = 9223372036854775807 := by rw [h]; rfl
    rw [hmm] at hR
    rw [decide_eq_true (show x1 ≤ 9223372036854775807 by omega)] at hR
    have HR : Hid (b = (b2 && b3)) := Lib.hid (by rw [hR, hT0 (by show x0 ≠ 3; omega)]; simp)
    clear hR hT3 hT0 k1 k5 ka h hmm
    cases b2 <;>
    · go_enter Tryd.func28, Tryd.ntmps28
      go_wp2_with fail
      go_ret
      exact ⟨ret_b (by rw [HR.out]; rfl), HB.out⟩
  · have q5 : ((x0 : Int) == 5) = true := by simp; omega
    have q2 : ((x0 : Int) == 2) = false := by simp; omega
    have q3 : ((x0 : Int) == 3) = false := by simp; omega
    have hmm : mostM x0 = 72057594037927936 := by rw [h]; rfl
    rw [hmm] at hR
    by_cases kb : 72057594037927936 < x1
    · have tb : decide ((72057594037927936 : Int) < x1) = true := by simp; omega
      have HR : Hid (b = false) := Lib.hid (by rw [hR, decide_eq_false (show ¬ x1 ≤ 72057594037927936 by omega)]; simp)
      clear hR hT3 hT0 k1 k5 ka kb h hmm
      go_enter Tryd.func28, Tryd.ntmps28
      go_wp2_with fail
      go_ret
      exact ⟨ret_b HR.out.symm, HB.out⟩
    have tb : decide ((72057594037927936 : Int) < x1) = false := by simp; omega
    rw [decide_eq_true (show x1 ≤ 72057594037927936 by omega)] at hR
    have HR : Hid (b = (b2 && b3)) := Lib.hid (by rw [hR, hT0 (by show x0 ≠ 3; omega)]; simp)
    clear hR hT3 hT0 k1 k5 ka kb h hmm
    cases b2 <;>
    · go_enter Tryd.func28, Tryd.ntmps28
      go_wp2_with fail
      go_ret
      exact ⟨ret_b (by rw [HR.out]; rfl), HB.out⟩

set_option linter.unusedSimpArgs false in
set_option maxRecDepth 100000 in
set_option maxHeartbeats 4000000 in
theorem refRight_any (A : Option Addr) (ls : List (List Ru)) (m cap : Nat) (w : World) (hm : ls.length = m) (hok : OkRows ls) (hs : sumM ls ≤ 1000) (hR : HoldsRR w.heap.size w A ls) :
    Calls Tryd.prog 16 #[.slice A m cap] w fun e w' => e = .returned (.bool (rightsM ls)) ∧ Below w.heap.size w w' := by
  have HR := Lib.hid hR
  have HM := Lib.hid hm
  have hm2 : m ≤ 9223372036854775807 := hm ▸ hok.1
  have HE : Hid (∀ W, Below w.heap.size w W → ∀ i, i < m → ∀ j, j < (ls.getD i []).length → Calls Tryd.prog 28 #[.agg (ruCells ((ls.getD i []).getD j ru0))] W fun e w' => e = .returned (.bool (rightM ((ls.getD i []).getD j ru0))) ∧ Below w.heap.size w w') := Lib.hid fun W hW i hi j hj =>
    (refRule_any ((ls.getD i []).getD j ru0) W ((hok.2 i (by omega)).2 j hj)).mono fun e w' ⟨he, hb⟩ => ⟨he, hW.trans (hb.mono hW.size)⟩
  have HSB : Hid (∀ i, i ≤ m → sumN ls i ≤ 1000) := Lib.hid fun i hi => by
    have := sumN_mono ls i (ls.length - i)
    rw [show i + (ls.length - i) = ls.length by omega, sumN_all] at this
    omega
  have HYES : Hid ((∀ i, i < m → rowM (ls.getD i []) = true) → sumN ls m ≤ 20 → rightsM ls = true) := Lib.hid fun h1 h2 => rights_yes (fun i hi => h1 i (by omega)) (by rw [hm]; exact h2)
  have HROW : Hid (∀ i, i < m → rowM (ls.getD i []) = false → rightsM ls = false) := Lib.hid fun i hi h => rights_row (by omega) h
  have HSUM : Hid (∀ i, i ≤ m → 20 < sumN ls i → rightsM ls = false) := Lib.hid fun i hi h => rights_sum (by omega) h
  clear hR hm hok hs
  go_enter Tryd.func16, Tryd.ntmps16
  go_wp2_with fail
  go_loopw [3, 4] (fun nv iv wr => ∃ i s : Nat, nv = .int .i64 (s : Int) ∧ iv = .int .i64 (i : Int) ∧ i ≤ m ∧ s ≤ 1000 ∧ Hid (∀ j, j < i → rowM (ls.getD j []) = true) ∧ Hid (sumN ls i = s) ∧ Hid (Below w.heap.size w wr)) (fun _ iv _ => m - (intOf iv).toNat)
  case atStart => exact ⟨0, 0, rfl, rfl, by omega, by omega, Lib.hid fun j hj => absurd hj (by omega), Lib.hid rfl, Lib.hid (Below.refl _ _)⟩
  case round =>
    obtain ⟨i, s, rfl, rfl, hi, hs, HI, HS, HB⟩ := hrel
    by_cases hlt : i < m
    · obtain ⟨b, off, rfl, hb, hc⟩ := HR.out (by rw [HM.out]; omega)
      obtain ⟨B, c, h0, hB⟩ := hc i (by rw [HM.out]; omega)
      have t : ∀ W, Below w.heap.size w W → ∀ k, W.cell? ⟨b, k, none⟩ = w.cell? ⟨b, k, none⟩ := fun W hW k => hW.cell (p := ⟨b, k, none⟩) hb
      obtain ⟨row, hrow⟩ : ∃ row, ls.getD i [] = row := ⟨_, rfl⟩
      rw [hrow] at h0 hB
      obtain ⟨na, hna⟩ : ∃ z, row.length = z := ⟨_, rfl⟩
      rw [hna] at h0
      have H0 : Hid (∀ W, Below w.heap.size w W → W.cell? ⟨b, off + i, none⟩ = some (.slice B na c)) := Lib.hid fun W hW => by rw [t W hW]; exact h0
      have h0' := H0.out wr HB.out
      have HCALL : Hid (∀ W, Below w.heap.size w W → ∀ j, j < na → Calls Tryd.prog 28 #[.agg (ruCells (row.getD j ru0))] W fun e w' => e = .returned (.bool (rightM (row.getD j ru0))) ∧ Below w.heap.size w w') := Lib.hid fun W hW j hj => by
        have := HE.out W hW i hlt j (by rw [hrow]; omega)
        rw [hrow] at this
        exact this
      have HRW := Lib.hid hB
      have HROWI := Lib.hid hrow
      have HNA := Lib.hid hna
      have hnb : s + na ≤ 1000 := by
        have h1 := HSB.out (i + 1) (by omega)
        rw [sumN, HS.out, hrow, hna] at h1
        exact h1
      have ti : decide ((i : Int) < (m : Int)) = true := by simp; omega
      clear t hc hB hna hrow h0
      by_cases hz : na = 0
      · have tz : ((na : Int) == 0) = true := by simp; omega
        have HF : Hid (rightsM ls = false) := Lib.hid (HROW.out i hlt (by unfold rowM; rw [HROWI.out, HNA.out, decide_eq_false (show ¬ 0 < na by omega)]; rfl))
        clear hz hnb
        go_wp2_with fail
        go_ret
        exact ⟨ret_b HF.out.symm, HB.out⟩
      have tz : ((na : Int) == 0) = false := by simp; omega
      have HZ : Hid (0 < na) := Lib.hid (by omega)
      clear hz
      go_wp2_with fail
      clear h0'
      go_loopw [3, 5] (fun nv kv wr => ∃ k : Nat, nv = .int .i64 ((s + k : Nat) : Int) ∧ kv = .int .i64 (k : Int) ∧ k ≤ na ∧ Hid (∀ j, j < k → rightM (row.getD j ru0) = true) ∧ Hid (Below w.heap.size w wr)) (fun _ kv _ => na - (intOf kv).toNat)
      case atStart => exact ⟨0, rfl, rfl, by omega, Lib.hid fun j hj => absurd hj (by omega), HB⟩
      case round =>
        obtain ⟨k, rfl, rfl, hk, HK, HB1⟩ := hrel
        have h0' := H0.out wr HB1.out
        by_cases hkl : k < na
        · obtain ⟨g, o, rfl, hg, hca⟩ := HRW.out (by rw [HNA.out]; omega)
          obtain ⟨a0, a1, a2, a3⟩ := hca k (by rw [HNA.out]; omega)
          have hcall := HCALL.out wr HB1.out k hkl
          obtain ⟨q, hq⟩ : ∃ q, rightM (row.getD k ru0) = q := ⟨_, rfl⟩
          rw [hq] at hcall
          have HQ := Lib.hid hq
          obtain ⟨⟨y0, y1, y2, y3⟩, hy⟩ : ∃ y, row.getD k ru0 = y := ⟨_, rfl⟩
          rw [hy] at a0 a1 a2 a3 hcall
          unfold ruCells at hcall
          dsimp only at a0 a1 a2 a3 hcall
          have t : ∀ k, wr.cell? ⟨g, k, none⟩ = w.cell? ⟨g, k, none⟩ := fun k => HB1.out.cell (p := ⟨g, k, none⟩) hg
          rw [← t] at a0 a1 a2 a3
          have HC2 := Lib.hid hcall
          have tk : decide ((k : Int) < (na : Int)) = true := by simp; omega
          obtain ⟨u, hu, hu2⟩ : ∃ u : Nat, ((s + k : Nat) : Int) + 1 = (u : Int) ∧ u = s + (k + 1) := ⟨s + k + 1, by omega, by omega⟩
          obtain ⟨u0, hu0⟩ : ∃ u0, s + k = u0 := ⟨_, rfl⟩
          rw [hu0] at hu ⊢
          have HU := Lib.hid hu2
          have hu0b : u0 ≤ 1000 := by omega
          clear hca hcall hq hy t hu2 hu0
          go_wp2_with fail
          refine HC2.out.mono ?_
          rintro e w2 ⟨rfl, hb2⟩
          have HB2 := Lib.hid hb2
          clear hb2 a0 a1 a2 a3 h0'
          cases q with
          | false =>
            have HF : Hid (rightsM ls = false) := Lib.hid (HROW.out i hlt (by unfold rowM; rw [HROWI.out, Bool.and_eq_false_iff]; exact .inr (List.all_eq_false.2 ⟨row.getD k ru0, by rw [getD_get (by rw [HNA.out]; exact hkl) ru0]; exact List.getElem_mem _, by rw [HQ.out]; simp⟩)))
            go_wp2_with fail
            go_ret
            exact ⟨ret_b HF.out.symm, HB2.out⟩
          | true =>
            go_wp2_with fail
            go_roundw
            case rel => exact ⟨k + 1, by rw [HU.out], by simp, by omega, Lib.hid fun j hj => by
              rcases Nat.lt_or_ge j k with h | h
              · exact HK.out j h
              · rw [show j = k by omega]; exact HQ.out, HB2⟩
            case measure => simp [intOf]; omega
        · have hke : k = na := by omega
          subst hke
          have tk : decide ((k : Int) < (k : Int)) = false := by simp
          have HRM : Hid (rowM (ls.getD i []) = true) := Lib.hid (by
            unfold rowM
            rw [HROWI.out, HNA.out, decide_eq_true HZ.out, Bool.true_and, List.all_eq_true]
            intro x hx
            obtain ⟨j, hj, rfl⟩ := List.mem_iff_getElem.1 hx
            rw [← getD_get hj ru0]
            exact HK.out j (by rw [← HNA.out]; exact hj))
          have HS1 : Hid (sumN ls (i + 1) = s + k) := Lib.hid (by rw [sumN, HS.out, HROWI.out, HNA.out])
          obtain ⟨u0, hu0⟩ : ∃ u0, s + k = u0 := ⟨_, rfl⟩
          rw [hu0] at HS1 ⊢
          have hu0b : u0 ≤ 1000 := by omega
          clear hkl hu0
          go_wp2_with fail
          go_roundw
          case rel => exact ⟨i + 1, u0, rfl, by simp, by omega, hu0b, Lib.hid fun j hj => by
            rcases Nat.lt_or_ge j i with h | h
            · exact HI.out j h
            · rw [show j = i by omega]; exact HRM.out, HS1, HB1⟩
          case measure => simp [intOf]; omega
    · have hie : i = m := by omega
      subst hie
      have ti : decide ((i : Int) < (i : Int)) = false := by simp
      obtain ⟨q, hq⟩ : ∃ q, decide ((s : Int) ≤ 20) = q := ⟨_, rfl⟩
      have HF : Hid (rightsM ls = q) := Lib.hid (by
        by_cases h : s ≤ 20
        · rw [HYES.out HI.out (by rw [HS.out]; exact h), ← hq]; simp; omega
        · rw [HSUM.out i (Nat.le_refl _) (by rw [HS.out]; omega), ← hq]; simp; omega)
      have hqn : decide (s ≤ 20) = q := by rw [← hq]; simp; omega
      clear hlt
      go_wp2_with fail
      go_ret
      exact ⟨ret_b HF.out.symm, HB.out⟩
end Go.Proofs.YtmjbdjcpjaeemaaDoor
