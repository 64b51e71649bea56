/-
  May a rule be, may rows of them be? The program's answers, and the document's own.
-/
import Derived.Test.YtmjbdjcpjaeemaaDoorPoLaid
import Derived.Test.YtmjbdjcpjaeemaaDoorPoRef
namespace Go.Proofs.YtmjbdjcpjaeemaaDoor
open Go.RowKit

/-- A rule's numbers and texts are no greater than may be. -/
def OkRu (r : Ru) : Prop := In64 r.a ∧ r.kind ≤ 255 ∧ r.key.size ≤ 9223372036854775807 ∧ r.val.size ≤ 9223372036854775807
theorem empty_dec (s : ByteArray) : decide ((1 : Int) ≤ (s.size : Int)) = !s.toList.isEmpty := by
  by_cases h : s.size = 0
  · rw [empty_of h, decide_eq_false (by omega)]; rfl
  · rw [full_of h, decide_eq_true (by omega)]; rfl
/-- What is asked of a rule's texts, as it is asked. -/
structure Tx (r : Ru) (b2 b3 c2 c3 : Bool) : Prop where
  e2 : r.key.toList.isEmpty = b2
  e3 : r.val.toList.isEmpty = b3
  d2 : decide ((r.key.size : Int) ≤ 60) = c2
  d3 : decide ((r.val.size : Int) ≤ 60) = c3
theorem tx_of (r : Ru) : ∃ b2 b3 c2 c3, Tx r b2 b3 c2 c3 := ⟨_, _, _, _, rfl, rfl, rfl, rfl⟩
theorem Tx.nat {r : Ru} {b2 b3 c2 c3 : Bool} (h : Tx r b2 b3 c2 c3) : decide (r.key.size ≤ 60) = c2 ∧ decide (r.val.size ≤ 60) = c3 ∧ decide ((1 : Int) ≤ (r.key.size : Int)) = !b2 ∧ decide (1 ≤ r.key.size) = !b2 ∧ decide (0 < r.key.size) = !b2 := by
  have h1 := empty_dec r.key
  rw [h.e2] at h1
  have h2 : decide (1 ≤ r.key.size) = !b2 := by rw [← h1]; simp; omega
  exact ⟨by rw [← h.d2]; simp; omega, by rw [← h.d3]; simp; omega, h1, h2, h2⟩
theorem Tx.three {r : Ru} {b2 b3 c2 c3 : Bool} (h : Tx r b2 b3 c2 c3) (h3 : r.kind = 3) : textsM r = (!b2 && (c2 && c3)) := by
  unfold textsM
  rw [if_pos h3, h.e2, h.nat.1, h.nat.2.1]
theorem Tx.else_ {r : Ru} {b2 b3 c2 c3 : Bool} (h : Tx r b2 b3 c2 c3) (h3 : r.kind ≠ 3) : textsM r = (b2 && b3) := by
  unfold textsM
  rw [if_neg h3, h.e2, h.e3]

set_option linter.unusedSimpArgs false in
set_option linter.unusedVariables false in
set_option maxRecDepth 100000 in
set_option maxHeartbeats 2000000 in
theorem texts_any (r : Ru) (w : World) :
    Calls Tryd.prog 41 #[.agg (ruCells r)] w fun e w' => e = .returned (.bool (textsM r)) ∧ Below w.heap.size w w' := by
  have HB := Lib.hid (box_below (W := w) (.cells (ruCells r) 39))
  obtain ⟨b2, b3, c2, c3, hT⟩ := tx_of r
  have hT3 := hT.three
  have hT0 := hT.else_
  obtain ⟨f2, f3, f4, f5, f6⟩ := hT.nat
  obtain ⟨e2, e3, d2, d3⟩ := hT
  obtain ⟨t, ht⟩ : ∃ b, textsM r = b := ⟨_, rfl⟩
  rw [ht] at hT3 hT0 ⊢
  obtain ⟨x0, x1, x2, x3⟩ := r
  unfold ruCells at HB ⊢
  dsimp only at HB hT3 hT0 e2 e3 d2 d3 f2 f3 f4 f5 f6 ⊢
  by_cases h3 : x0 = 3
  · have t3 : ((x0 : Int) != 3) = false := by simp; omega
    have t3' : ((x0 : Int) == 3) = true := by simp; omega
    have HT := Lib.hid (hT3 h3)
    clear ht hT3 hT0 h3
    cases b2 with
    | true =>
      go_enter Tryd.func41, Tryd.ntmps41
      go_wp2_with fail
      go_ret
      exact ⟨ret_b (by rw [HT.out]; rfl), HB.out⟩
    | false =>
      cases c2 <;>
      · go_enter Tryd.func41, Tryd.ntmps41
        go_wp2_with fail
        go_ret
        exact ⟨ret_b (by rw [HT.out]; rfl), HB.out⟩
  · have t3 : ((x0 : Int) != 3) = true := by simp; omega
    have t3' : ((x0 : Int) == 3) = false := by simp; omega
    have HT := Lib.hid (hT0 h3)
    clear ht hT3 hT0 h3
    cases b2 <;>
    · go_enter Tryd.func41, Tryd.ntmps41
      go_wp2_with fail
      go_ret
      exact ⟨ret_b (by rw [HT.out]; rfl), HB.out⟩
theorem table_at {k : Nat} (h : k ≤ 5) : table.toArray[k]? = some (.int .i64 (mostM k)) := by
  match k, h with
  | 0, _ => rfl
  | 1, _ => rfl
  | 2, _ => rfl
  | 3, _ => rfl
  | 4, _ => rfl
  | 5, _ => rfl
set_option linter.unusedSimpArgs false in
set_option linter.unusedVariables false in
set_option maxRecDepth 100000 in
set_option maxHeartbeats 4000000 in
theorem rule_any (r : Ru) (w : World) (hMo : Most w) :
    Calls Tryd.prog 27 #[.agg (ruCells r)] w fun e w' => e = .returned (.bool (rightM r)) ∧ Below w.heap.size w w' := by
  have hrb := rb_at w r
  have hlt := hMo.lt
  have hM0 := hMo.later (box_below (.cells (ruCells r) 39))
  obtain ⟨N, hN⟩ : ∃ N, w.heap.size = N := ⟨_, rfl⟩
  obtain ⟨W2, hW2⟩ : ∃ W2, w.alloc (.cells (ruCells r) 39) = W2 := ⟨_, rfl⟩
  rw [hW2] at hM0
  rw [hW2, hN] at hrb
  rw [hN] at hlt
  obtain ⟨mo, hmo⟩ : ∃ z, mostM r.kind = z := ⟨_, rfl⟩
  have HMC : Hid (r.kind ≤ 5 → ∀ W, Below (N + 1) W2 W → W.cell? ⟨0, r.kind, none⟩ = some (.int .i64 mo)) := Lib.hid fun h W hW => (hM0.below (by omega) hW).cell r.kind (by rw [table_at h, hmo])
  have HRB := Lib.hid hrb
  obtain ⟨k0, k1, k2, k3⟩ := hrb.cells W2 (Below.refl _ _)
  have hBd : Below (N + 1) W2 W2.drew := (Below.refl _ _).drew
  have HKN := Lib.hid fun W => kind_any r.kind W
  obtain ⟨tx, htx⟩ : ∃ b, textsM r = b := ⟨_, rfl⟩
  have HTX : Hid (∀ W, Below (N + 1) W2 W → Calls Tryd.prog 41 #[.agg (ruCells r)] W fun e w' => e = .returned (.bool tx) ∧ Below (N + 1) W2 w') := Lib.hid fun W hW => by
    rw [← htx]
    exact (texts_any r W).mono fun e w' ⟨he, hb⟩ => ⟨he, hW.trans (hb.mono (hrb.below W hW).2)⟩
  have hR : rightM r = (((decide (1 ≤ r.kind) && decide (r.kind ≤ 5)) && decide (0 ≤ r.a)) && decide (r.a ≤ mo) && tx) := by unfold rightM; rw [hmo, htx]
  rw [hR]
  clear hrb hMo hM0 hmo htx hR
  rcases (Classical.em (1 ≤ r.kind ∧ r.kind ≤ 5)).symm with hk | hk
  · have hkf : (decide (1 ≤ r.kind) && decide (r.kind ≤ 5)) = false := by rw [Bool.eq_false_iff]; simp; omega
    rw [hkf] at HKN ⊢
    clear hk hkf
    obtain ⟨x0, x1, x2, x3⟩ := r
    unfold ruCells at hW2 ⊢
    dsimp only at hW2 k0 k1 k2 k3 HKN ⊢
    rw [hN]
    simp only [Bool.false_and]
    go_enter Tryd.func27, Tryd.ntmps27
    go_wp2_with fail
    go_quiet ((go_at_call 25; exact quiet_left (HKN.out _)))
    go_wp2_with fail
    go_ret
    exact ⟨rfl, (HRB.out.below _ (draws (Below.refl _ _) _)).1⟩
  have hkt : (decide (1 ≤ r.kind) && decide (r.kind ≤ 5)) = true := by rw [decide_eq_true hk.1, decide_eq_true hk.2]; rfl
  rw [hkt] at HKN ⊢
  rw [Bool.true_and]
  obtain ⟨hk1, hk5⟩ := hk
  have HM1 : Hid (∀ W, Below (N + 1) W2 W → W.cell? ⟨0, r.kind, none⟩ = some (.int .i64 mo)) := Lib.hid (HMC.out hk5)
  have m0 := HM1.out W2 (Below.refl _ _)
  clear hkt HMC
  obtain ⟨x0, x1, x2, x3⟩ := r
  unfold ruCells at hW2 HTX ⊢
  dsimp only at hW2 k0 k1 k2 k3 HKN HTX HM1 HRB hk1 hk5 m0 ⊢
  rw [hN]
  rcases (Classical.em (0 ≤ x1)).symm with ha | ha
  · have t1 : decide ((0 : Int) ≤ x1) = false := by simp; omega
    rw [t1]
    simp only [Bool.false_and]
    clear ha
    go_enter Tryd.func27, Tryd.ntmps27
    go_wp2_with fail
    go_quiet ((go_at_call 25; exact quiet_left (HKN.out _)))
    go_wp2_with fail
    go_ret
    exact ⟨rfl, (HRB.out.below _ (draws (Below.refl _ _) _)).1⟩
  have t1 : decide ((0 : Int) ≤ x1) = true := by simp; omega
  rw [t1, Bool.true_and]
  rcases (Classical.em (x1 ≤ mo)).symm with hm | hm
  · have t2 : decide (x1 ≤ mo) = false := by simp; omega
    rw [t2, Bool.false_and]
    clear ha hm
    go_enter Tryd.func27, Tryd.ntmps27
    go_wp2_with fail
    go_quiet ((go_at_call 25; exact quiet_left (HKN.out _)))
    go_wp2_with fail
    go_ret
    exact ⟨rfl, (HRB.out.below _ (draws (Below.refl _ _) _)).1⟩
  have t2 : decide (x1 ≤ mo) = true := by simp; omega
  rw [t2, Bool.true_and]
  have hk6 : (x0 : Int) < 6 := by omega
  clear ha hm
  go_enter Tryd.func27, Tryd.ntmps27
  go_wp2_with fail
  refine wp_region_held_drew (S := fun W => Below (N + 1) W2 W) (by kernel_rfl) ?_ (fun hHeld => ?_)
  · exact hBd
  refine wpAnyH_take (i := 0) (v := ?_) rfl (by kernel_rfl) (by kernel_rfl) (by kernel_rfl) (fun _ _ _ h => h) (Or.inl ⟨by rfl, ?_⟩) (by assumption) ?_
  rotate_left
  · intro wq hSw; (try dsimp only at hSw); go_simp; (try with_reducible rfl)
  simp only [Act.put, List.getElem_toArray, List.getElem_cons_succ, List.getElem_cons_zero, List.setIfInBounds_toArray, List.set_cons_zero, List.set_cons_succ]
  refine wpAnyH_take (i := 1) (v := ?_) rfl (by kernel_rfl) (by kernel_rfl) (by kernel_rfl) (fun _ _ _ h => h) (Or.inl ⟨by rfl, ?_⟩) (by assumption) ?_
  rotate_left
  · intro wq hSw; (try dsimp only at hSw); obtain ⟨u0, u1, u2, u3⟩ := HRB.out.cells _ hSw; go_simp; (try with_reducible rfl)
  simp only [Act.put, List.getElem_toArray, List.getElem_cons_succ, List.getElem_cons_zero, List.setIfInBounds_toArray, List.set_cons_zero, List.set_cons_succ]
  refine wpAnyH_ready (rs := [2]) (by kernel_rfl) (by simp) ?_
  refine AllReadyH.cons rfl (fun K hK => ?_) AllReadyH.nil
  go_simp
  refine (HKN.out _).mono ?_
  rintro e w2 ⟨rfl, rfl⟩
  (try go_wp2_with fail)
  refine hK.out _ _ ?_ (fun hHeld => ?_)
  · exact hHeld
  clear hK K
  try simp only [Act.put, List.getElem_toArray, List.getElem_cons_succ, List.getElem_cons_zero, List.setIfInBounds_toArray, List.set_cons_zero, List.set_cons_succ]
  refine wpAnyH_take (i := 3) (v := ?_) rfl (by kernel_rfl) (by kernel_rfl) (by kernel_rfl) (fun _ _ _ h => h) (Or.inl ⟨by rfl, ?_⟩) (by assumption) ?_
  rotate_left
  · intro wq hSw; (try dsimp only at hSw); go_simp; (try with_reducible rfl)
  simp only [Act.put, List.getElem_toArray, List.getElem_cons_succ, List.getElem_cons_zero, List.setIfInBounds_toArray, List.set_cons_zero, List.set_cons_succ]
  refine wpAnyH_take (i := 4) (v := ?_) rfl (by kernel_rfl) (by kernel_rfl) (by kernel_rfl) (fun _ _ _ h => h) (Or.inl ⟨by rfl, ?_⟩) (by assumption) ?_
  rotate_left
  · intro wq hSw; (try dsimp only at hSw); go_simp; (try with_reducible rfl)
  simp only [Act.put, List.getElem_toArray, List.getElem_cons_succ, List.getElem_cons_zero, List.setIfInBounds_toArray, List.set_cons_zero, List.set_cons_succ]
  refine wpAnyH_take (i := 5) (v := ?_) rfl (by kernel_rfl) (by kernel_rfl) (by kernel_rfl) (fun _ _ _ h => h) (Or.inl ⟨by rfl, ?_⟩) (by assumption) ?_
  rotate_left
  · intro wq hSw; (try dsimp only at hSw); obtain ⟨u0, u1, u2, u3⟩ := HRB.out.cells _ hSw; go_simp; (try with_reducible rfl)
  simp only [Act.put, List.getElem_toArray, List.getElem_cons_succ, List.getElem_cons_zero, List.setIfInBounds_toArray, List.set_cons_zero, List.set_cons_succ]
  refine wpAnyH_take (i := 6) (v := ?_) rfl (by kernel_rfl) (by kernel_rfl) (by kernel_rfl) (fun _ _ _ h => h) (Or.inl ⟨by rfl, ?_⟩) (by assumption) ?_
  rotate_left
  · intro wq hSw; (try dsimp only at hSw); go_simp; (try with_reducible rfl)
  simp only [Act.put, List.getElem_toArray, List.getElem_cons_succ, List.getElem_cons_zero, List.setIfInBounds_toArray, List.set_cons_zero, List.set_cons_succ]
  refine wpAnyH_take (i := 7) (v := ?_) rfl (by kernel_rfl) (by kernel_rfl) (by kernel_rfl) (fun _ _ _ h => h) (Or.inl ⟨by rfl, ?_⟩) (by assumption) ?_
  rotate_left
  · intro wq hSw; (try dsimp only at hSw); go_simp; (try with_reducible rfl)
  simp only [Act.put, List.getElem_toArray, List.getElem_cons_succ, List.getElem_cons_zero, List.setIfInBounds_toArray, List.set_cons_zero, List.set_cons_succ]
  refine wpAnyH_take (i := 8) (v := ?_) rfl (by kernel_rfl) (by kernel_rfl) (by kernel_rfl) (fun _ _ _ h => h) (Or.inl ⟨by rfl, ?_⟩) (by assumption) ?_
  rotate_left
  · intro wq hSw; (try dsimp only at hSw); go_simp; (try with_reducible rfl)
  simp only [Act.put, List.getElem_toArray, List.getElem_cons_succ, List.getElem_cons_zero, List.setIfInBounds_toArray, List.set_cons_zero, List.set_cons_succ]
  refine wpAnyH_take (i := 9) (v := ?_) rfl (by kernel_rfl) (by kernel_rfl) (by kernel_rfl) (fun _ _ _ h => h) (Or.inl ⟨by rfl, ?_⟩) (by assumption) ?_
  rotate_left
  · intro wq hSw; (try dsimp only at hSw); go_simp; (try with_reducible rfl)
  simp only [Act.put, List.getElem_toArray, List.getElem_cons_succ, List.getElem_cons_zero, List.setIfInBounds_toArray, List.set_cons_zero, List.set_cons_succ]
  refine wpAnyH_take (i := 10) (v := ?_) rfl (by kernel_rfl) (by kernel_rfl) (by kernel_rfl) (fun _ _ _ h => h) (Or.inl ⟨by rfl, ?_⟩) (by assumption) ?_
  rotate_left
  · intro wq hSw; (try dsimp only at hSw); obtain ⟨u0, u1, u2, u3⟩ := HRB.out.cells _ hSw; go_simp; (try with_reducible rfl)
  simp only [Act.put, List.getElem_toArray, List.getElem_cons_succ, List.getElem_cons_zero, List.setIfInBounds_toArray, List.set_cons_zero, List.set_cons_succ]
  refine wpAnyH_take (i := 11) (v := ?_) rfl (by kernel_rfl) (by kernel_rfl) (by kernel_rfl) (fun _ _ _ h => h) (Or.inl ⟨by rfl, ?_⟩) (by assumption) ?_
  rotate_left
  · intro wq hSw; (try dsimp only at hSw); go_simp; (try with_reducible rfl)
  simp only [Act.put, List.getElem_toArray, List.getElem_cons_succ, List.getElem_cons_zero, List.setIfInBounds_toArray, List.set_cons_zero, List.set_cons_succ]
  refine wpAnyH_take (i := 12) (v := ?_) rfl (by kernel_rfl) (by kernel_rfl) (by kernel_rfl) (fun _ _ _ h => h) (Or.inl ⟨by rfl, ?_⟩) (by assumption) ?_
  rotate_left
  · intro wq hSw; (try dsimp only at hSw); obtain ⟨u0, u1, u2, u3⟩ := HRB.out.cells _ hSw; go_simp; (try with_reducible rfl)
  simp only [Act.put, List.getElem_toArray, List.getElem_cons_succ, List.getElem_cons_zero, List.setIfInBounds_toArray, List.set_cons_zero, List.set_cons_succ]
  refine wpAnyH_take (i := 13) (v := ?_) rfl (by kernel_rfl) (by kernel_rfl) (by kernel_rfl) (fun _ _ _ h => h) (Or.inl ⟨by rfl, ?_⟩) (by assumption) ?_
  rotate_left
  · intro wq hSw; (try dsimp only at hSw); go_simp; (try with_reducible rfl)
  simp only [Act.put, List.getElem_toArray, List.getElem_cons_succ, List.getElem_cons_zero, List.setIfInBounds_toArray, List.set_cons_zero, List.set_cons_succ]
  refine wpAnyH_take (i := 14) (v := ?_) rfl (by kernel_rfl) (by kernel_rfl) (by kernel_rfl) (fun _ _ _ h => h) (Or.inl ⟨by rfl, ?_⟩) (by assumption) ?_
  rotate_left
  · intro wq hSw; (try dsimp only at hSw); have v0 := HM1.out _ hSw; go_simp; (try with_reducible rfl)
  simp only [Act.put, List.getElem_toArray, List.getElem_cons_succ, List.getElem_cons_zero, List.setIfInBounds_toArray, List.set_cons_zero, List.set_cons_succ]
  refine wpAnyH_take (i := 15) (v := ?_) rfl (by kernel_rfl) (by kernel_rfl) (by kernel_rfl) (fun _ _ _ h => h) (Or.inl ⟨by rfl, ?_⟩) (by assumption) ?_
  rotate_left
  · intro wq hSw; (try dsimp only at hSw); go_simp; (try with_reducible rfl)
  simp only [Act.put, List.getElem_toArray, List.getElem_cons_succ, List.getElem_cons_zero, List.setIfInBounds_toArray, List.set_cons_zero, List.set_cons_succ]
  refine wpAnyH_take (i := 16) (v := ?_) rfl (by kernel_rfl) (by kernel_rfl) (by kernel_rfl) (fun _ _ _ h => h) (Or.inl ⟨by rfl, ?_⟩) (by assumption) ?_
  rotate_left
  · intro wq hSw; (try dsimp only at hSw); go_simp; (try with_reducible rfl)
  simp only [Act.put, List.getElem_toArray, List.getElem_cons_succ, List.getElem_cons_zero, List.setIfInBounds_toArray, List.set_cons_zero, List.set_cons_succ]
  refine wpAnyH_take (i := 17) (v := ?_) rfl (by kernel_rfl) (by kernel_rfl) (by kernel_rfl) (fun _ _ _ h => h) (Or.inl ⟨by rfl, ?_⟩) (by assumption) ?_
  rotate_left
  · intro wq hSw; (try dsimp only at hSw); go_simp; (try with_reducible rfl)
  simp only [Act.put, List.getElem_toArray, List.getElem_cons_succ, List.getElem_cons_zero, List.setIfInBounds_toArray, List.set_cons_zero, List.set_cons_succ]
  refine wpAnyH_take (i := 18) (v := ?_) rfl (by kernel_rfl) (by kernel_rfl) (by kernel_rfl) (fun _ _ _ h => h) (Or.inl ⟨by rfl, ?_⟩) (by assumption) ?_
  rotate_left
  · intro wq hSw; (try dsimp only at hSw); obtain ⟨u0, u1, u2, u3⟩ := HRB.out.cells _ hSw; go_simp; (try with_reducible rfl)
  simp only [Act.put, List.getElem_toArray, List.getElem_cons_succ, List.getElem_cons_zero, List.setIfInBounds_toArray, List.set_cons_zero, List.set_cons_succ]
  refine wpAnyH_ready (rs := [19]) (by kernel_rfl) (by simp) ?_
  refine AllReadyH.cons rfl (fun K hK => ?_) AllReadyH.nil
  go_simp
  refine (HTX.out _ hHeld).mono ?_
  rintro e w3 ⟨rfl, hb3⟩
  (try go_wp2_with fail)
  refine hK.out _ _ ?_ (fun hHeld => ?_)
  · exact hb3
  clear hK K
  try simp only [Act.put, List.getElem_toArray, List.getElem_cons_succ, List.getElem_cons_zero, List.setIfInBounds_toArray, List.set_cons_zero, List.set_cons_succ]
  refine wpAnyH_take (i := 20) (v := ?_) rfl (by kernel_rfl) (by kernel_rfl) (by kernel_rfl) (fun _ _ _ h => h) (Or.inl ⟨by rfl, ?_⟩) (by assumption) ?_
  rotate_left
  · intro wq hSw; (try dsimp only at hSw); go_simp; (try with_reducible rfl)
  simp only [Act.put, List.getElem_toArray, List.getElem_cons_succ, List.getElem_cons_zero, List.setIfInBounds_toArray, List.set_cons_zero, List.set_cons_succ]
  refine wpAnyH_take (i := 21) (v := ?_) rfl (by kernel_rfl) (by kernel_rfl) (by kernel_rfl) (fun _ _ _ h => h) (Or.inl ⟨by rfl, ?_⟩) (by assumption) ?_
  rotate_left
  · intro wq hSw; (try dsimp only at hSw); go_simp; (try with_reducible rfl)
  simp only [Act.put, List.getElem_toArray, List.getElem_cons_succ, List.getElem_cons_zero, List.setIfInBounds_toArray, List.set_cons_zero, List.set_cons_succ]
  refine wpAnyH_done (by kernel_rfl) ?_ _
  clear hHeld
  go_wp2_with fail
  go_ret
  exact ⟨rfl, (HRB.out.below _ hb3).1⟩
end Go.Proofs.YtmjbdjcpjaeemaaDoor
