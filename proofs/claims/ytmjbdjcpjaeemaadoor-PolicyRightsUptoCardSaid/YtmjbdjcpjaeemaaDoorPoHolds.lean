/-
  Does a rule hold? The program's answer.
-/
import Derived.Deep.RegionHeld
import Derived.Test.YtmjbdjcpjaeemaaDoorPoAsk
namespace Go.Proofs.YtmjbdjcpjaeemaaDoor
open Go.RowKit

set_option linter.unusedSimpArgs false in
set_option maxRecDepth 100000 in
set_option maxHeartbeats 2000000 in
theorem slow_any (r : Ru) (A : Option Addr) (l : List Sp) (n cap num : Nat) (w : World) (hn : l.length = n) (hcap : n ≤ cap) (hcap2 : cap ≤ 9223372036854775807) (hr : HoldsS w.heap.size w A l) :
    Calls Tryd.prog 36 #[.agg (ruCells r), .agg #[.slice A n cap, .int .u64 (num : Int)]] w fun e w' => e = .returned (.bool (decide (0 < n) && decide (r.a ≤ lenM l))) ∧ Below w.heap.size w w' := by
  obtain ⟨hB, hK1, hK2, hs⟩ := boxes_at w r A n cap num
  obtain ⟨v, hv⟩ : ∃ v, lenM l = v := ⟨_, rfl⟩
  rw [hv]
  obtain ⟨N, hN⟩ : ∃ N, w.heap.size = N := ⟨_, rfl⟩
  obtain ⟨W2, hW2⟩ : ∃ W2, boxes w r A n cap num = W2 := ⟨_, rfl⟩
  rw [hW2, hN] at hs hB hK1 hK2
  have HL : Hid (∀ W, Below (N + 2) W2 W → Calls Tryd.prog 19 #[.slice A n cap] W fun e w' => e = .returned (.int .i64 v) ∧ Below (N + 2) W2 w') := Lib.hid fun W hW => by
    have h1 := hB.trans (hW.mono (by omega))
    have h2 := hW.size
    rw [← hv]
    rw [← hN] at h1
    exact (len_any A l n cap W hn hcap hcap2 ((hr.below h1).mono h1.size)).mono fun e w' ⟨he, hb⟩ => ⟨he, hW.trans (hb.mono (by omega))⟩
  have HKF : Hid (∀ W, Below (N + 2) W2 W → W.cell? ⟨N, 1, none⟩ = some (.int .i64 r.a) ∧ W.cell? ⟨N + 1, 0, none⟩ = some (.slice A n cap)) := Lib.hid fun W hW => ⟨(hK1.same (hW.block _ (by omega))).cell 1 rfl, (hK2.same (hW.block _ (by omega))).cell 0 rfl⟩
  have HB : Hid (∀ W, Below (N + 2) W2 W → Below N w W) := Lib.hid fun W hW => hB.trans (hW.mono (by omega))
  have HS2 := Lib.hid hs
  obtain ⟨k1, k2⟩ := HKF.out W2 (Below.refl _ _)
  have hBd : Below (N + 2) W2 W2.drew := (Below.refl _ _).drew
  clear hB hK1 hK2 hs hr hn hv
  obtain ⟨x0, x1, x2, x3⟩ := r
  unfold boxes at hW2
  unfold ruCells at hW2 ⊢
  dsimp only at hW2 k1 HKF ⊢
  rw [hN]
  by_cases h0 : 0 < n
  · have t0 : decide ((0 : Int) < (n : Int)) = true := by simp; omega
    have t0n : decide (0 < n) = true := by simp; omega
    obtain ⟨b, hb⟩ : ∃ b, decide (x1 ≤ v) = b := ⟨_, rfl⟩
    rw [t0n, hb, Bool.true_and]
    clear h0
    go_enter Tryd.func36, Tryd.ntmps36
    go_wp2_with fail
    refine wp_region_held_drew (S := fun W => Below (N + 2) W2 W) (by kernel_rfl) ?_ (fun hHeld => ?_)
    · exact hBd
    refine wpAnyH_take (i := 0) (v := ?_) rfl (by kernel_rfl) (by kernel_rfl) (by kernel_rfl) (fun _ _ _ h => h) (Or.inl ⟨by rfl, ?_⟩) (by assumption) ?_
    rotate_left
    · intro wq hSw; (try dsimp only at hSw); go_simp; (try with_reducible rfl)
    simp only [Act.put, List.getElem_toArray, List.getElem_cons_succ, List.getElem_cons_zero, List.setIfInBounds_toArray, List.set_cons_zero, List.set_cons_succ]
    refine wpAnyH_take (i := 1) (v := ?_) rfl (by kernel_rfl) (by kernel_rfl) (by kernel_rfl) (fun _ _ _ h => h) (Or.inl ⟨by rfl, ?_⟩) (by assumption) ?_
    rotate_left
    · intro wq hSw; (try dsimp only at hSw); obtain ⟨u1, u2⟩ := HKF.out _ hSw; go_simp; (try with_reducible rfl)
    simp only [Act.put, List.getElem_toArray, List.getElem_cons_succ, List.getElem_cons_zero, List.setIfInBounds_toArray, List.set_cons_zero, List.set_cons_succ]
    refine wpAnyH_take (i := 2) (v := ?_) rfl (by kernel_rfl) (by kernel_rfl) (by kernel_rfl) (fun _ _ _ h => h) (Or.inl ⟨by rfl, ?_⟩) (by assumption) ?_
    rotate_left
    · intro wq hSw; (try dsimp only at hSw); go_simp; (try with_reducible rfl)
    simp only [Act.put, List.getElem_toArray, List.getElem_cons_succ, List.getElem_cons_zero, List.setIfInBounds_toArray, List.set_cons_zero, List.set_cons_succ]
    refine wpAnyH_take (i := 3) (v := ?_) rfl (by kernel_rfl) (by kernel_rfl) (by kernel_rfl) (fun _ _ _ h => h) (Or.inl ⟨by rfl, ?_⟩) (by assumption) ?_
    rotate_left
    · intro wq hSw; (try dsimp only at hSw); go_simp; (try with_reducible rfl)
    simp only [Act.put, List.getElem_toArray, List.getElem_cons_succ, List.getElem_cons_zero, List.setIfInBounds_toArray, List.set_cons_zero, List.set_cons_succ]
    refine wpAnyH_take (i := 4) (v := ?_) rfl (by kernel_rfl) (by kernel_rfl) (by kernel_rfl) (fun _ _ _ h => h) (Or.inl ⟨by rfl, ?_⟩) (by assumption) ?_
    rotate_left
    · intro wq hSw; (try dsimp only at hSw); go_simp; (try with_reducible rfl)
    simp only [Act.put, List.getElem_toArray, List.getElem_cons_succ, List.getElem_cons_zero, List.setIfInBounds_toArray, List.set_cons_zero, List.set_cons_succ]
    refine wpAnyH_take (i := 5) (v := ?_) rfl (by kernel_rfl) (by kernel_rfl) (by kernel_rfl) (fun _ _ _ h => h) (Or.inl ⟨by rfl, ?_⟩) (by assumption) ?_
    rotate_left
    · intro wq hSw; (try dsimp only at hSw); go_simp; (try with_reducible rfl)
    simp only [Act.put, List.getElem_toArray, List.getElem_cons_succ, List.getElem_cons_zero, List.setIfInBounds_toArray, List.set_cons_zero, List.set_cons_succ]
    refine wpAnyH_take (i := 6) (v := ?_) rfl (by kernel_rfl) (by kernel_rfl) (by kernel_rfl) (fun _ _ _ h => h) (Or.inl ⟨by rfl, ?_⟩) (by assumption) ?_
    rotate_left
    · intro wq hSw; (try dsimp only at hSw); obtain ⟨u1, u2⟩ := HKF.out _ hSw; go_simp; (try with_reducible rfl)
    simp only [Act.put, List.getElem_toArray, List.getElem_cons_succ, List.getElem_cons_zero, List.setIfInBounds_toArray, List.set_cons_zero, List.set_cons_succ]
    refine wpAnyH_take (i := 8) (v := ?_) rfl (by kernel_rfl) (by kernel_rfl) (by kernel_rfl) (fun _ _ _ h => h) (Or.inl ⟨by rfl, ?_⟩) (by assumption) ?_
    rotate_left
    · intro wq hSw; (try dsimp only at hSw); go_simp; (try with_reducible rfl)
    simp only [Act.put, List.getElem_toArray, List.getElem_cons_succ, List.getElem_cons_zero, List.setIfInBounds_toArray, List.set_cons_zero, List.set_cons_succ]
    refine wpAnyH_take (i := 9) (v := ?_) rfl (by kernel_rfl) (by kernel_rfl) (by kernel_rfl) (fun _ _ _ h => h) (Or.inl ⟨by rfl, ?_⟩) (by assumption) ?_
    rotate_left
    · intro wq hSw; (try dsimp only at hSw); obtain ⟨u1, u2⟩ := HKF.out _ hSw; go_simp; (try with_reducible rfl)
    simp only [Act.put, List.getElem_toArray, List.getElem_cons_succ, List.getElem_cons_zero, List.setIfInBounds_toArray, List.set_cons_zero, List.set_cons_succ]
    refine wpAnyH_ready (rs := [7]) (by kernel_rfl) (by simp) ?_
    refine AllReadyH.cons rfl (fun K hK => ?_) AllReadyH.nil
    go_simp
    refine (HL.out _ hHeld).mono ?_
    rintro e w2 ⟨rfl, hb2⟩
    (try go_wp2_with fail)
    refine hK.out _ _ ?_ (fun hHeld => ?_)
    · exact hb2
    clear hK K
    try simp only [Act.put, List.getElem_toArray, List.getElem_cons_succ, List.getElem_cons_zero, List.setIfInBounds_toArray, List.set_cons_zero, List.set_cons_succ]
    refine wpAnyH_take (i := 10) (v := ?_) rfl (by kernel_rfl) (by kernel_rfl) (by kernel_rfl) (fun _ _ _ h => h) (Or.inl ⟨by rfl, ?_⟩) (by assumption) ?_
    rotate_left
    · intro wq hSw; (try dsimp only at hSw); go_simp; (try with_reducible rfl)
    simp only [Act.put, List.getElem_toArray, List.getElem_cons_succ, List.getElem_cons_zero, List.setIfInBounds_toArray, List.set_cons_zero, List.set_cons_succ]
    refine wpAnyH_take (i := 11) (v := ?_) rfl (by kernel_rfl) (by kernel_rfl) (by kernel_rfl) (fun _ _ _ h => h) (Or.inl ⟨by rfl, ?_⟩) (by assumption) ?_
    rotate_left
    · intro wq hSw; (try dsimp only at hSw); go_simp; (try with_reducible rfl)
    simp only [Act.put, List.getElem_toArray, List.getElem_cons_succ, List.getElem_cons_zero, List.setIfInBounds_toArray, List.set_cons_zero, List.set_cons_succ]
    refine wpAnyH_take (i := 12) (v := ?_) rfl (by kernel_rfl) (by kernel_rfl) (by kernel_rfl) (fun _ _ _ h => h) (Or.inl ⟨by rfl, ?_⟩) (by assumption) ?_
    rotate_left
    · intro wq hSw; (try dsimp only at hSw); go_simp; (try with_reducible rfl)
    simp only [Act.put, List.getElem_toArray, List.getElem_cons_succ, List.getElem_cons_zero, List.setIfInBounds_toArray, List.set_cons_zero, List.set_cons_succ]
    refine wpAnyH_done (by kernel_rfl) ?_ _
    clear hHeld
    go_wp2_with fail
    go_ret
    exact ⟨rfl, HB.out _ hb2⟩
  · have t0 : decide ((0 : Int) < (n : Int)) = false := by simp; omega
    have t0n : decide (0 < n) = false := by simp; omega
    rw [t0n, Bool.false_and]
    clear h0
    go_enter Tryd.func36, Tryd.ntmps36
    go_wp2_with fail
    go_quiet (fail)
    go_wp2_with fail
    go_ret
    exact ⟨rfl, HB.out _ (draws (Below.refl _ _) _)⟩

theorem quiet_left {P : Program} {f : FuncId} {args : Array Value} {w : World} {n : Nat} {v : Value}
    (h : Calls P f args (w.drewN n) fun e w' => e = .returned v ∧ w.drewN n = w') : Calls P f args (w.drewN n) fun e w'' => e = .returned v ∧ ∃ m, w'' = w.drewN m :=
  h.mono fun _ _ ⟨he, hm⟩ => ⟨he, n, hm.symm⟩
theorem goes_m1 : Goes 36 := goes_of Tryd.func36 (by kernel_rfl) rfl
theorem goes_m2 : Goes 37 := goes_of Tryd.func37 (by kernel_rfl) rfl
theorem goes_m3 : Goes 38 := goes_of Tryd.func38 (by kernel_rfl) rfl
theorem goes_m4 : Goes 39 := goes_of Tryd.func39 (by kernel_rfl) rfl
theorem goes_m5 : Goes 40 := goes_of Tryd.func40 (by kernel_rfl) rfl
/-- Spans that the rules are asked of: as many as a slice may have, and so are each one's attributes. -/
structure Fits (n cap : Nat) (l : List Sp) : Prop where
  len : l.length = n
  cap_ : n ≤ cap
  cap2 : cap ≤ 9223372036854775807
  at_ : ∀ i, i < n → (l.getD i sp0).attrs.length ≤ 9223372036854775807
def In64 (a : Int) : Prop := -9223372036854775808 ≤ a ∧ a ≤ 9223372036854775807
/-- By whatever kind there is: a method that tells whether the rule holds. -/
theorem method_any (r : Ru) (hk : 1 ≤ r.kind ∧ r.kind ≤ 5) (ha : In64 r.a) {n cap : Nat} {l : List Sp} (hf : Fits n cap l) (A : Option Addr) (num : Nat) :
    ∃ F, (∀ W, (Instr.index 56 (.agg asks) (.int .u8 (r.kind : Int))).run Tryd.prog W = .ok (.func (.func F) #[] #[]) W) ∧ Goes F ∧
      ∀ W, HoldsS W.heap.size W A l → Calls Tryd.prog F #[.agg (ruCells r), .agg #[.slice A n cap, .int .u64 (num : Int)]] W fun e w' => e = .returned (.bool (holdsM r l num)) ∧ Below W.heap.size W w' := by
  have hl := hf.len
  have hc2 : n ≤ 9223372036854775807 := Nat.le_trans hf.cap_ hf.cap2
  have hcases : r.kind = 1 ∨ r.kind = 2 ∨ r.kind = 3 ∨ r.kind = 4 ∨ r.kind = 5 := by omega
  rcases hcases with h | h | h | h | h
  · refine ⟨36, fun W => by rw [h]; kernel_rfl, goes_m1, fun W hr => ?_⟩
    have e : holdsM r l num = (decide (0 < n) && decide (r.a ≤ lenM l)) := by unfold holdsM; rw [if_pos h, hl]
    rw [e]
    exact slow_any r A l n cap num W hl hf.cap_ hf.cap2 hr
  · refine ⟨37, fun W => by rw [h]; kernel_rfl, goes_m2, fun W hr => ?_⟩
    have e : holdsM r l num = (l.any fun s => s.bad) := by unfold holdsM; rw [if_neg (by omega), if_pos h]
    rw [e]
    exact wrong_any r A l n cap num W hl hc2 hr
  · refine ⟨38, fun W => by rw [h]; kernel_rfl, goes_m3, fun W hr => ?_⟩
    have e : holdsM r l num = l.any (hasM r) := by unfold holdsM; rw [if_neg (by omega), if_neg (by omega), if_pos h]
    rw [e]
    exact has_any r A l n cap num W hl hc2 hf.at_ hr
  · refine ⟨39, fun W => by rw [h]; kernel_rfl, goes_m4, fun W hr => ?_⟩
    have e : holdsM r l num = decide (r.a ≤ (n : Int)) := by unfold holdsM; rw [if_neg (by omega), if_neg (by omega), if_neg (by omega), if_pos h, hl]
    rw [e]
    exact many_any r A n cap num W
  · refine ⟨40, fun W => by rw [h]; kernel_rfl, goes_m5, fun W hr => ?_⟩
    have e : holdsM r l num = (decide (0 ≤ r.a) && keep num r.a.toNat) := by unfold holdsM; rw [if_neg (by omega), if_neg (by omega), if_neg (by omega), if_neg (by omega), if_pos h]
    rw [e]
    exact share_any r A n cap num W ha.1 ha.2

set_option linter.unusedSimpArgs false in
set_option maxRecDepth 100000 in
set_option maxHeartbeats 2000000 in
theorem holds_any (r : Ru) (A : Option Addr) (l : List Sp) (n cap num : Nat) (w : World) (hf : Fits n cap l) (ha : In64 r.a) (hr : HoldsS w.heap.size w A l) :
    Calls Tryd.prog 14 #[.agg (ruCells r), .slice A n cap, .int .u64 (num : Int)] w fun e w' => e = .returned (.bool (holdsM r l num)) ∧ Below w.heap.size w w' := by
  have hB := box_below (W := w) (.cells (ruCells r) 39)
  have hK := blk_new w (ruCells r) 39
  have hs : (w.alloc (.cells (ruCells r) 39)).heap.size = w.heap.size + 1 := World.size_alloc _ _
  obtain ⟨N, hN⟩ : ∃ N, w.heap.size = N := ⟨_, rfl⟩
  obtain ⟨W2, hW2⟩ : ∃ W2, w.alloc (.cells (ruCells r) 39) = W2 := ⟨_, rfl⟩
  rw [hW2, hN] at hs hB hK
  have HKF : Hid (∀ W, Below (N + 1) W2 W → W.cell? ⟨N, 0, none⟩ = some (.int .u8 (r.kind : Int)) ∧ W.cell? ⟨N, 1, none⟩ = some (.int .i64 r.a) ∧ W.cell? ⟨N, 2, none⟩ = some (.string r.key) ∧ W.cell? ⟨N, 3, none⟩ = some (.string r.val)) := Lib.hid fun W hW => by
    have h := hK.same (hW.block _ (by omega))
    exact ⟨h.cell 0 rfl, h.cell 1 rfl, h.cell 2 rfl, h.cell 3 rfl⟩
  have HB : Hid (∀ W, Below (N + 1) W2 W → Below N w W) := Lib.hid fun W hW => hB.trans (hW.mono (by omega))
  have hHS : ∀ W, Below (N + 1) W2 W → HoldsS W.heap.size W A l ∧ N + 1 ≤ W.heap.size := fun W hW => by
    have h1 := HB.out W hW
    have h2 := hW.size
    exact ⟨(hN ▸ hr |>.below h1).mono (by omega), by omega⟩
  obtain ⟨k0, k1, k2, k3⟩ := HKF.out W2 (Below.refl _ _)
  have hBd : Below (N + 1) W2 W2.drew := (Below.refl _ _).drew
  have HKN := Lib.hid fun W => kind_any r.kind W
  by_cases hk : 1 ≤ r.kind ∧ r.kind ≤ 5
  · obtain ⟨F, hidx, hgo, hM⟩ := method_any r hk ha hf A num
    have hgo2 : ∀ args W, (callFunc F args).run Tryd.prog W = .ok (.enter F args) W := hgo
    obtain ⟨b, hb⟩ : ∃ b, holdsM r l num = b := ⟨_, rfl⟩
    rw [hb] at hM ⊢
    have hkt : (decide (1 ≤ r.kind) && decide (r.kind ≤ 5)) = true := by rw [decide_eq_true hk.1, decide_eq_true hk.2]; rfl
    rw [hkt] at HKN
    have HM : Hid (∀ W, Below (N + 1) W2 W → Calls Tryd.prog F #[.agg (ruCells r), .agg #[.slice A n cap, .int .u64 (num : Int)]] W fun e w' => e = .returned (.bool b) ∧ Below (N + 1) W2 w') := Lib.hid fun W hW =>
      (hM W (hHS W hW).1).mono fun e w' ⟨he, hb⟩ => ⟨he, hW.trans (hb.mono (hHS W hW).2)⟩
    have HAS : Hid (∀ W, Below (N + 1) W2 W → Calls Tryd.prog 26 #[] W fun e w' => e = .returned (.agg asks) ∧ Below (N + 1) W2 w') := Lib.hid fun W hW =>
      (asked_any W).mono fun e w' ⟨he, hb⟩ => ⟨he, hW.trans (hb.mono (hHS W hW).2)⟩
    clear hB hK hs hr hf ha hM hHS hb hk hkt hgo
    obtain ⟨x0, x1, x2, x3⟩ := r
    unfold ruCells at hW2 HM ⊢
    dsimp only at hW2 k0 k1 k2 k3 HKF HM HKN hidx ⊢
    rw [hN]
    go_enter Tryd.func14, Tryd.ntmps14
    go_wp2_with fail
    refine wp_region_held_drew (S := fun W => Below (N + 1) W2 W) (by kernel_rfl) ?_ (fun hHeld => ?_)
    · exact hBd
    refine wpAnyH_take (i := 0) (v := ?_) rfl (by kernel_rfl) (by kernel_rfl) (by kernel_rfl) (fun _ _ _ h => h) (Or.inl ⟨by rfl, ?_⟩) (by assumption) ?_
    rotate_left
    · intro wq hSw; (try dsimp only at hSw); go_simp; (try with_reducible rfl)
    simp only [Act.put, List.getElem_toArray, List.getElem_cons_succ, List.getElem_cons_zero, List.setIfInBounds_toArray, List.set_cons_zero, List.set_cons_succ]
    refine wpAnyH_take (i := 1) (v := ?_) rfl (by kernel_rfl) (by kernel_rfl) (by kernel_rfl) (fun _ _ _ h => h) (Or.inl ⟨by rfl, ?_⟩) (by assumption) ?_
    rotate_left
    · intro wq hSw; (try dsimp only at hSw); obtain ⟨u0, u1, u2, u3⟩ := HKF.out _ hSw; go_simp; (try with_reducible rfl)
    simp only [Act.put, List.getElem_toArray, List.getElem_cons_succ, List.getElem_cons_zero, List.setIfInBounds_toArray, List.set_cons_zero, List.set_cons_succ]
    refine wpAnyH_ready (rs := [2]) (by kernel_rfl) (by simp) ?_
    refine AllReadyH.cons rfl (fun K hK => ?_) AllReadyH.nil
    go_simp
    refine (HKN.out _).mono ?_
    rintro e w2 ⟨rfl, rfl⟩
    (try go_wp2_with fail)
    refine hK.out _ _ ?_ (fun hHeld => ?_)
    · exact hHeld
    clear hK K
    try simp only [Act.put, List.getElem_toArray, List.getElem_cons_succ, List.getElem_cons_zero, List.setIfInBounds_toArray, List.set_cons_zero, List.set_cons_succ]
    refine wpAnyH_take (i := 3) (v := ?_) rfl (by kernel_rfl) (by kernel_rfl) (by kernel_rfl) (fun _ _ _ h => h) (Or.inl ⟨by rfl, ?_⟩) (by assumption) ?_
    rotate_left
    · intro wq hSw; (try dsimp only at hSw); go_simp; (try with_reducible rfl)
    simp only [Act.put, List.getElem_toArray, List.getElem_cons_succ, List.getElem_cons_zero, List.setIfInBounds_toArray, List.set_cons_zero, List.set_cons_succ]
    refine wpAnyH_take (i := 5) (v := ?_) rfl (by kernel_rfl) (by kernel_rfl) (by kernel_rfl) (fun _ _ _ h => h) (Or.inl ⟨by rfl, ?_⟩) (by assumption) ?_
    rotate_left
    · intro wq hSw; (try dsimp only at hSw); go_simp; (try with_reducible rfl)
    simp only [Act.put, List.getElem_toArray, List.getElem_cons_succ, List.getElem_cons_zero, List.setIfInBounds_toArray, List.set_cons_zero, List.set_cons_succ]
    refine wpAnyH_take (i := 6) (v := ?_) rfl (by kernel_rfl) (by kernel_rfl) (by kernel_rfl) (fun _ _ _ h => h) (Or.inl ⟨by rfl, ?_⟩) (by assumption) ?_
    rotate_left
    · intro wq hSw; (try dsimp only at hSw); obtain ⟨u0, u1, u2, u3⟩ := HKF.out _ hSw; go_simp; (try with_reducible rfl)
    simp only [Act.put, List.getElem_toArray, List.getElem_cons_succ, List.getElem_cons_zero, List.setIfInBounds_toArray, List.set_cons_zero, List.set_cons_succ]
    refine wpAnyH_take (i := 8) (v := ?_) rfl (by kernel_rfl) (by kernel_rfl) (by kernel_rfl) (fun _ _ _ h => h) (Or.inl ⟨by rfl, ?_⟩) (by assumption) ?_
    rotate_left
    · intro wq hSw; (try dsimp only at hSw); obtain ⟨u0, u1, u2, u3⟩ := HKF.out _ hSw; go_simp; (try with_reducible rfl)
    simp only [Act.put, List.getElem_toArray, List.getElem_cons_succ, List.getElem_cons_zero, List.setIfInBounds_toArray, List.set_cons_zero, List.set_cons_succ]
    refine wpAnyH_take (i := 9) (v := ?_) rfl (by kernel_rfl) (by kernel_rfl) (by kernel_rfl) (fun _ _ _ h => h) (Or.inl ⟨by rfl, ?_⟩) (by assumption) ?_
    rotate_left
    · intro wq hSw; (try dsimp only at hSw); go_simp; (try with_reducible rfl)
    simp only [Act.put, List.getElem_toArray, List.getElem_cons_succ, List.getElem_cons_zero, List.setIfInBounds_toArray, List.set_cons_zero, List.set_cons_succ]
    refine wpAnyH_take (i := 10) (v := ?_) rfl (by kernel_rfl) (by kernel_rfl) (by kernel_rfl) (fun _ _ _ h => h) (Or.inl ⟨by rfl, ?_⟩) (by assumption) ?_
    rotate_left
    · intro wq hSw; (try dsimp only at hSw); go_simp; (try with_reducible rfl)
    simp only [Act.put, List.getElem_toArray, List.getElem_cons_succ, List.getElem_cons_zero, List.setIfInBounds_toArray, List.set_cons_zero, List.set_cons_succ]
    refine wpAnyH_take (i := 11) (v := ?_) rfl (by kernel_rfl) (by kernel_rfl) (by kernel_rfl) (fun _ _ _ h => h) (Or.inl ⟨by rfl, ?_⟩) (by assumption) ?_
    rotate_left
    · intro wq hSw; (try dsimp only at hSw); go_simp; (try with_reducible rfl)
    simp only [Act.put, List.getElem_toArray, List.getElem_cons_succ, List.getElem_cons_zero, List.setIfInBounds_toArray, List.set_cons_zero, List.set_cons_succ]
    refine wpAnyH_ready (rs := [4]) (by kernel_rfl) (by simp) ?_
    refine AllReadyH.cons rfl (fun K hK => ?_) AllReadyH.nil
    go_simp
    refine (HAS.out _ hHeld).mono ?_
    rintro e w3 ⟨rfl, hb3⟩
    (try go_wp2_with fail)
    refine hK.out _ _ ?_ (fun hHeld => ?_)
    · exact hb3
    clear hK K
    try simp only [Act.put, List.getElem_toArray, List.getElem_cons_succ, List.getElem_cons_zero, List.setIfInBounds_toArray, List.set_cons_zero, List.set_cons_succ]
    refine wpAnyH_take (i := 7) (v := ?_) rfl (by kernel_rfl) (by kernel_rfl) (by kernel_rfl) (fun _ _ _ h => h) (Or.inl ⟨by rfl, ?_⟩) (by assumption) ?_
    rotate_left
    · intro wq hSw; (try dsimp only at hSw); go_simp; (try with_reducible rfl)
    simp only [Act.put, List.getElem_toArray, List.getElem_cons_succ, List.getElem_cons_zero, List.setIfInBounds_toArray, List.set_cons_zero, List.set_cons_succ]
    refine wpAnyH_ready (rs := [12]) (by kernel_rfl) (by simp) ?_
    refine AllReadyH.cons rfl (fun K hK => ?_) AllReadyH.nil
    go_simp
    refine (HM.out _ hHeld).mono ?_
    rintro e w4 ⟨rfl, hb4⟩
    (try go_wp2_with fail)
    refine hK.out _ _ ?_ (fun hHeld => ?_)
    · exact hb4
    clear hK K
    try simp only [Act.put, List.getElem_toArray, List.getElem_cons_succ, List.getElem_cons_zero, List.setIfInBounds_toArray, List.set_cons_zero, List.set_cons_succ]
    refine wpAnyH_take (i := 13) (v := ?_) rfl (by kernel_rfl) (by kernel_rfl) (by kernel_rfl) (fun _ _ _ h => h) (Or.inl ⟨by rfl, ?_⟩) (by assumption) ?_
    rotate_left
    · intro wq hSw; (try dsimp only at hSw); go_simp; (try with_reducible rfl)
    simp only [Act.put, List.getElem_toArray, List.getElem_cons_succ, List.getElem_cons_zero, List.setIfInBounds_toArray, List.set_cons_zero, List.set_cons_succ]
    refine wpAnyH_take (i := 14) (v := ?_) rfl (by kernel_rfl) (by kernel_rfl) (by kernel_rfl) (fun _ _ _ h => h) (Or.inl ⟨by rfl, ?_⟩) (by assumption) ?_
    rotate_left
    · intro wq hSw; (try dsimp only at hSw); go_simp; (try with_reducible rfl)
    simp only [Act.put, List.getElem_toArray, List.getElem_cons_succ, List.getElem_cons_zero, List.setIfInBounds_toArray, List.set_cons_zero, List.set_cons_succ]
    refine wpAnyH_done (by kernel_rfl) ?_ _
    clear hHeld
    go_wp2_with fail
    go_ret
    exact ⟨rfl, HB.out _ hb4⟩
  · have hkf : (decide (1 ≤ r.kind) && decide (r.kind ≤ 5)) = false := by rw [Bool.eq_false_iff]; simp; omega
    have e : holdsM r l num = false := by unfold holdsM; rw [if_neg (by omega), if_neg (by omega), if_neg (by omega), if_neg (by omega), if_neg (by omega)]
    rw [hkf] at HKN
    rw [e]
    clear hB hK hs hr hf ha hHS hk hkf e
    obtain ⟨x0, x1, x2, x3⟩ := r
    unfold ruCells at hW2 ⊢
    dsimp only at hW2 k0 k1 k2 k3 HKF HKN ⊢
    rw [hN]
    go_enter Tryd.func14, Tryd.ntmps14
    go_wp2_with fail
    go_quiet ((go_at_call 25; exact quiet_left (HKN.out _)))
    go_wp2_with fail
    go_ret
    exact ⟨rfl, HB.out _ (draws (Below.refl _ _) _)⟩
end Go.Proofs.YtmjbdjcpjaeemaaDoor
