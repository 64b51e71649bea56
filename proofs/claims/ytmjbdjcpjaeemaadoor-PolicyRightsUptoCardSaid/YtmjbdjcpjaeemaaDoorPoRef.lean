/-
  The document's own answers: does a rule hold, does each of a row, which row is the first?
-/
import Derived.Deep.RegionHeld
import Derived.Test.YtmjbdjcpjaeemaaDoorPoAll
namespace Go.Proofs.YtmjbdjcpjaeemaaDoor
open Go.RowKit

theorem refKeep_any (r t : Nat) (w : World) : Calls Tryd.prog 42 #[.int .u64 (r : Int), .int .u64 (t : Int)] w fun e w' => e = .returned (.bool (keep r t)) ∧ w = w' := by
  by_cases h1 : r < 72057594037927936
  · have d : decide ((r : Int) < 72057594037927936) = true := by simp; omega
    have hres : decide (t ≤ r) = keep r t := by unfold keep; simp [h1]
    have H := Lib.hid hres
    clear hres
    go_enter Tryd.func42, Tryd.ntmps42
    go_wp2_with fail
    all_goals
      go_ret
      exact ⟨ret_b (by rw [← H.out]), rfl⟩
  · have d : decide ((r : Int) < 72057594037927936) = false := by simp; omega
    have hres : false = keep r t := by unfold keep; simp [h1]
    have H := Lib.hid hres
    clear hres
    go_enter Tryd.func42, Tryd.ntmps42
    go_wp2_with fail
    all_goals
      go_ret
      exact ⟨ret_b H.out, rfl⟩
/-- What the loop of the document's Holds asks of a span, of an attribute. -/
def loopA (b3 : Bool) (r : Ru) (t : Attr) : Bool := b3 && attrM r t
def loopS (b2 b3 : Bool) (r : Ru) (s : Sp) : Bool := (b2 && s.bad) || s.attrs.any (loopA b3 r)
theorem loop_holds (r : Ru) (l : List Sp) (num : Nat) (h1 : r.kind ≠ 1) (h4 : r.kind ≠ 4) (h5 : r.kind ≠ 5) : holdsM r l num = l.any (loopS (decide (r.kind = 2)) (decide (r.kind = 3)) r) := by
  unfold holdsM
  rw [if_neg h1]
  by_cases h2 : r.kind = 2
  · rw [if_pos h2]
    have : loopS (decide (r.kind = 2)) (decide (r.kind = 3)) r = fun s => s.bad := by
      funext s
      have h3 : ¬ r.kind = 3 := by omega
      simp [loopS, h2, loopA]
    rw [this]
  rw [if_neg h2]
  by_cases h3 : r.kind = 3
  · rw [if_pos h3]
    have : loopS (decide (r.kind = 2)) (decide (r.kind = 3)) r = hasM r := by
      funext s
      have : loopA true r = attrM r := by funext t; simp [loopA]
      simp [loopS, h3, this, hasM]
    rw [this]
  rw [if_neg h3, if_neg h4, if_neg h5]
  have : loopS (decide (r.kind = 2)) (decide (r.kind = 3)) r = fun _ => false := by
    funext s
    have : loopA false r = fun _ => false := by funext t; simp [loopA]
    simp [loopS, h2, h3, this]
  rw [this]
  simp
theorem any_none {α : Type} {p : α → Bool} {l : List α} (d : α) (hb : ∀ j, j < l.length → p (l.getD j d) = false) : l.any p = false := by
  rw [← idx_any, idx_none d hb]
  rfl
theorem any_at {α : Type} {p : α → Bool} {l : List α} {i : Nat} (d : α) (h : i < l.length) (hp : p (l.getD i d) = true) : l.any p = true :=
  List.any_eq_true.2 ⟨l.getD i d, by rw [getD_get h d]; exact List.getElem_mem h, hp⟩

/-- Behind the box of the rule. -/
structure Rb (w W2 : World) (N : Nat) (r : Ru) : Prop where
  size : w.heap.size = N
  cells : ∀ W, Below (N + 1) W2 W → W.cell? ⟨N, 0, none⟩ = some (.int .u8 (r.kind : Int)) ∧ W.cell? ⟨N, 1, none⟩ = some (.int .i64 r.a) ∧ W.cell? ⟨N, 2, none⟩ = some (.string r.key) ∧ W.cell? ⟨N, 3, none⟩ = some (.string r.val)
  below : ∀ W, Below (N + 1) W2 W → Below N w W ∧ N + 1 ≤ W.heap.size
theorem rb_at (w : World) (r : Ru) : Rb w (w.alloc (.cells (ruCells r) 39)) w.heap.size r := by
  have hB := box_below (W := w) (.cells (ruCells r) 39)
  have hK := blk_new w (ruCells r) 39
  have hs : (w.alloc (.cells (ruCells r) 39)).heap.size = w.heap.size + 1 := World.size_alloc _ _
  exact ⟨rfl, fun W hW => by
    have h := hK.same (hW.block _ (by omega))
    exact ⟨h.cell 0 rfl, h.cell 1 rfl, h.cell 2 rfl, h.cell 3 rfl⟩, fun W hW => ⟨hB.trans (hW.mono (by omega)), by have := hW.size; omega⟩⟩

set_option linter.unusedSimpArgs false in
set_option linter.unusedVariables false in
set_option maxRecDepth 100000 in
set_option maxHeartbeats 4000000 in
theorem refLoopB_any (r : Ru) (A : Option Addr) (l : List Sp) (n cap num : Nat) (w : World) (hf : Fits n cap l) (t1 : ((r.kind : Int) == 1) = false) (t2 : ((r.kind : Int) == 2) = true) (t3 : ((r.kind : Int) == 3) = false) (t4 : ((r.kind : Int) == 4) = false) (t5 : ((r.kind : Int) == 5) = false) (hr : HoldsS w.heap.size w A l) :
    Calls Tryd.prog 29 #[.agg (ruCells r), .slice A n cap, .int .u64 (num : Int)] w fun e w' => e = .returned (.bool (l.any (loopS true false r))) ∧ Below w.heap.size w w' := by
  have hrb := rb_at w r
  obtain ⟨N, hN⟩ : ∃ N, w.heap.size = N := ⟨_, rfl⟩
  obtain ⟨W2, hW2⟩ : ∃ W2, w.alloc (.cells (ruCells r) 39) = W2 := ⟨_, rfl⟩
  rw [hW2, hN] at hrb
  rw [hN] at hr
  have HRB := Lib.hid hrb
  have HR := Lib.hid hr
  have HN := Lib.hid hf.len
  have HAT := Lib.hid hf.at_
  have hn2 : n ≤ 9223372036854775807 := Nat.le_trans hf.cap_ hf.cap2
  obtain ⟨k0, k1, k2, k3⟩ := hrb.cells W2 (Below.refl _ _)
  have HB0 := Lib.hid (Below.refl (N + 1) W2)
  obtain ⟨pS, hpS⟩ : ∃ p, loopS true false r = p := ⟨_, rfl⟩
  have HPS : Hid (∀ s, pS s = ((true && s.bad) || s.attrs.any (loopA false r))) := Lib.hid fun s => by rw [← hpS]; rfl
  rw [hpS]
  obtain ⟨x0, x1, x2, x3⟩ := r
  clear hrb hr hf hpS
  unfold ruCells at hW2 ⊢
  dsimp only at hW2 k0 k1 k2 k3 t1 t2 t3 t4 t5 ⊢
  obtain ⟨pA, hpA⟩ : ∃ p, loopA false ⟨x0, x1, x2, x3⟩ = p := ⟨_, rfl⟩
  rw [hpA] at HPS
  have HPA : Hid (∀ t, pA t = (false && (eqT t.1 x2 && eqT t.2 x3))) := Lib.hid fun t => by rw [← hpA]; rfl
  clear hpA
  rw [hN]
  go_enter Tryd.func29, Tryd.ntmps29
  go_wp2_with fail
  go_loopw [7] (fun iv wr => ∃ i : Nat, iv = .int .i64 (i : Int) ∧ i ≤ n ∧ Hid (∀ j, j < i → pS (l.getD j sp0) = false) ∧ Hid (Below (N + 1) W2 wr)) (fun iv _ => n - (intOf iv).toNat)
  case atStart => exact ⟨0, rfl, by omega, Lib.hid fun j hj => absurd hj (by omega), HB0⟩
  case round =>
    obtain ⟨i, rfl, hi, HI, HB⟩ := hrel
    clear HB0 k0 k1 k2 k3
    obtain ⟨k0, k1, k2, k3⟩ := HRB.out.cells wr HB.out
    dsimp only at k0 k1 k2 k3
    by_cases hlt : i < n
    · obtain ⟨b, off, rfl, hb, hc⟩ := HR.out (by rw [HN.out]; omega)
      obtain ⟨B, c, -, -, -, -, -, -, -, h7, h8, -, hA⟩ := hc i (by rw [HN.out]; omega)
      obtain ⟨s, hs⟩ : ∃ s, l.getD i sp0 = s := ⟨_, rfl⟩
      have hna2 := HAT.out i hlt
      rw [hs] at h7 h8 hA hna2
      obtain ⟨bad, hbad⟩ : ∃ z, s.bad = z := ⟨_, rfl⟩
      obtain ⟨na, hna⟩ : ∃ z, s.attrs.length = z := ⟨_, rfl⟩
      rw [hbad] at h7
      rw [hna] at h8 hna2
      have t : ∀ W, Below (N + 1) W2 W → ∀ k, W.cell? ⟨b, k, none⟩ = w.cell? ⟨b, k, none⟩ := fun W hW k => (HRB.out.below W hW).1.cell (p := ⟨b, k, none⟩) hb
      have H8 : Hid (∀ W, Below (N + 1) W2 W → W.cell? ⟨b, off + i * 10 + 8, none⟩ = some (.slice B na c)) := Lib.hid fun W hW => by rw [t W hW]; exact h8
      have h8' := H8.out wr HB.out
      rw [← t wr HB.out] at h7
      have HA : Hid (∀ W, Below (N + 1) W2 W → HoldsA N W B s.attrs) := Lib.hid fun W hW => hA.below (HRB.out.below W hW).1
      have HNA := Lib.hid hna
      have HSS := Lib.hid hs
      have HBAD := Lib.hid hbad
      have ti : decide ((i : Int) < (n : Int)) = true := by simp; omega
      clear hc t hs hna hA h8 hbad
      cases bad with
      | true =>
        go_wp2_with fail
        go_ret
        exact ⟨ret_b (any_at sp0 (by rw [HN.out]; exact hlt) (by rw [HPS.out, HSS.out, HBAD.out]; rfl)).symm, (HRB.out.below _ HB.out).1⟩
      | false =>
        go_wp2_with fail
        go_loopw [8] (fun kv wr => ∃ k : Nat, kv = .int .i64 (k : Int) ∧ k ≤ na ∧ Hid (∀ j, j < k → pA (s.attrs.getD j (none8, none8)) = false) ∧ Hid (Below (N + 1) W2 wr)) (fun kv _ => na - (intOf kv).toNat)
        case atStart => exact ⟨0, rfl, by omega, Lib.hid fun j hj => absurd hj (by omega), HB⟩
        case round =>
          obtain ⟨k, rfl, hk, HKK, HB1⟩ := hrel
          clear k0 k1 k2 k3 h7 h8'
          obtain ⟨k0, k1, k2, k3⟩ := HRB.out.cells wr HB1.out
          dsimp only at k0 k1 k2 k3
          have h8' := H8.out wr HB1.out
          by_cases hkl : k < na
          · obtain ⟨g, o, rfl, hg, hca⟩ := HA.out wr HB1.out (by rw [HNA.out]; omega)
            obtain ⟨a0, a1⟩ := hca k (by rw [HNA.out]; omega)
            obtain ⟨⟨y0, y1⟩, hy⟩ : ∃ y, s.attrs.getD k (none8, none8) = y := ⟨_, rfl⟩
            rw [hy] at a0 a1
            dsimp only at a0 a1
            have HY := Lib.hid hy
            have tk : decide ((k : Int) < (na : Int)) = true := by simp; omega
            have HB2 := Lib.hid (HB1.out.alloc (HRB.out.below _ HB1.out).2 (.cells #[.string y0, .string y1] 65))
            have q0 := (HRB.out.cells _ HB2.out).1
            have q2 := (HRB.out.cells _ HB2.out).2.2.1
            have q3 := (HRB.out.cells _ HB2.out).2.2.2
            dsimp only at q0 q2 q3
            have HP : pA (s.attrs.getD k (none8, none8)) = false := by rw [HPA.out]; rfl
            clear hca hy HY
            go_wp2_with fail
            go_roundw
            case rel => exact ⟨k + 1, by simp, by omega, Lib.hid fun j hj => by
              rcases Nat.lt_or_ge j k with h | h
              · exact HKK.out j h
              · rw [show j = k by omega]; exact HP, HB2⟩
            case measure => simp [intOf]; omega
          · have hke : k = na := by omega
            subst hke
            have tk : decide ((k : Int) < (k : Int)) = false := by simp
            have HP : pS (l.getD i sp0) = false := by
              rw [HPS.out, HSS.out, any_none (none8, none8) (fun j hj => HKK.out j (by rw [← HNA.out]; exact hj))]
              simp [HBAD.out]
            clear hkl
            go_wp2_with fail
            go_roundw
            case rel => exact ⟨i + 1, by simp, by omega, Lib.hid fun j hj => by
              rcases Nat.lt_or_ge j i with h | h
              · exact HI.out j h
              · rw [show j = i by omega]; exact HP, HB1⟩
            case measure => simp [intOf]; omega
    · have hie : i = n := by omega
      subst hie
      have ti : decide ((i : Int) < (i : Int)) = false := by simp
      clear hlt
      go_wp2_with fail
      go_ret
      exact ⟨ret_b (any_none sp0 (fun j hj => HI.out j (by rw [← HN.out]; exact hj))).symm, (HRB.out.below _ HB.out).1⟩

set_option linter.unusedSimpArgs false in
set_option linter.unusedVariables false in
set_option maxRecDepth 100000 in
set_option maxHeartbeats 4000000 in
theorem refLoopH_any (r : Ru) (A : Option Addr) (l : List Sp) (n cap num : Nat) (w : World) (hf : Fits n cap l) (t1 : ((r.kind : Int) == 1) = false) (t2 : ((r.kind : Int) == 2) = false) (t3 : ((r.kind : Int) == 3) = true) (t4 : ((r.kind : Int) == 4) = false) (t5 : ((r.kind : Int) == 5) = false) (hr : HoldsS w.heap.size w A l) :
    Calls Tryd.prog 29 #[.agg (ruCells r), .slice A n cap, .int .u64 (num : Int)] w fun e w' => e = .returned (.bool (l.any (loopS false true r))) ∧ Below w.heap.size w w' := by
  have hrb := rb_at w r
  obtain ⟨N, hN⟩ : ∃ N, w.heap.size = N := ⟨_, rfl⟩
  obtain ⟨W2, hW2⟩ : ∃ W2, w.alloc (.cells (ruCells r) 39) = W2 := ⟨_, rfl⟩
  rw [hW2, hN] at hrb
  rw [hN] at hr
  have HRB := Lib.hid hrb
  have HR := Lib.hid hr
  have HN := Lib.hid hf.len
  have HAT := Lib.hid hf.at_
  have hn2 : n ≤ 9223372036854775807 := Nat.le_trans hf.cap_ hf.cap2
  obtain ⟨k0, k1, k2, k3⟩ := hrb.cells W2 (Below.refl _ _)
  have HB0 := Lib.hid (Below.refl (N + 1) W2)
  obtain ⟨pS, hpS⟩ : ∃ p, loopS false true r = p := ⟨_, rfl⟩
  have HPS : Hid (∀ s, pS s = ((false && s.bad) || s.attrs.any (loopA true r))) := Lib.hid fun s => by rw [← hpS]; rfl
  rw [hpS]
  obtain ⟨x0, x1, x2, x3⟩ := r
  clear hrb hr hf hpS
  unfold ruCells at hW2 ⊢
  dsimp only at hW2 k0 k1 k2 k3 t1 t2 t3 t4 t5 ⊢
  obtain ⟨pA, hpA⟩ : ∃ p, loopA true ⟨x0, x1, x2, x3⟩ = p := ⟨_, rfl⟩
  rw [hpA] at HPS
  have HPA : Hid (∀ t, pA t = (true && (eqT t.1 x2 && eqT t.2 x3))) := Lib.hid fun t => by rw [← hpA]; rfl
  clear hpA
  rw [hN]
  go_enter Tryd.func29, Tryd.ntmps29
  go_wp2_with fail
  go_loopw [7] (fun iv wr => ∃ i : Nat, iv = .int .i64 (i : Int) ∧ i ≤ n ∧ Hid (∀ j, j < i → pS (l.getD j sp0) = false) ∧ Hid (Below (N + 1) W2 wr)) (fun iv _ => n - (intOf iv).toNat)
  case atStart => exact ⟨0, rfl, by omega, Lib.hid fun j hj => absurd hj (by omega), HB0⟩
  case round =>
    obtain ⟨i, rfl, hi, HI, HB⟩ := hrel
    clear HB0 k0 k1 k2 k3
    obtain ⟨k0, k1, k2, k3⟩ := HRB.out.cells wr HB.out
    dsimp only at k0 k1 k2 k3
    by_cases hlt : i < n
    · obtain ⟨b, off, rfl, hb, hc⟩ := HR.out (by rw [HN.out]; omega)
      obtain ⟨B, c, -, -, -, -, -, -, -, h7, h8, -, hA⟩ := hc i (by rw [HN.out]; omega)
      obtain ⟨s, hs⟩ : ∃ s, l.getD i sp0 = s := ⟨_, rfl⟩
      have hna2 := HAT.out i hlt
      rw [hs] at h7 h8 hA hna2
      obtain ⟨bad, hbad⟩ : ∃ z, s.bad = z := ⟨_, rfl⟩
      obtain ⟨na, hna⟩ : ∃ z, s.attrs.length = z := ⟨_, rfl⟩
      rw [hbad] at h7
      rw [hna] at h8 hna2
      have t : ∀ W, Below (N + 1) W2 W → ∀ k, W.cell? ⟨b, k, none⟩ = w.cell? ⟨b, k, none⟩ := fun W hW k => (HRB.out.below W hW).1.cell (p := ⟨b, k, none⟩) hb
      have H8 : Hid (∀ W, Below (N + 1) W2 W → W.cell? ⟨b, off + i * 10 + 8, none⟩ = some (.slice B na c)) := Lib.hid fun W hW => by rw [t W hW]; exact h8
      have h8' := H8.out wr HB.out
      rw [← t wr HB.out] at h7
      have HA : Hid (∀ W, Below (N + 1) W2 W → HoldsA N W B s.attrs) := Lib.hid fun W hW => hA.below (HRB.out.below W hW).1
      have HNA := Lib.hid hna
      have HSS := Lib.hid hs
      have HBAD := Lib.hid hbad
      have ti : decide ((i : Int) < (n : Int)) = true := by simp; omega
      clear hc t hs hna hA h8 hbad
      go_wp2_with fail
      go_loopw [8] (fun kv wr => ∃ k : Nat, kv = .int .i64 (k : Int) ∧ k ≤ na ∧ Hid (∀ j, j < k → pA (s.attrs.getD j (none8, none8)) = false) ∧ Hid (Below (N + 1) W2 wr)) (fun kv _ => na - (intOf kv).toNat)
      case atStart => exact ⟨0, rfl, by omega, Lib.hid fun j hj => absurd hj (by omega), HB⟩
      case round =>
        obtain ⟨k, rfl, hk, HKK, HB1⟩ := hrel
        clear k0 k1 k2 k3 h7 h8'
        obtain ⟨k0, k1, k2, k3⟩ := HRB.out.cells wr HB1.out
        dsimp only at k0 k1 k2 k3
        have h8' := H8.out wr HB1.out
        by_cases hkl : k < na
        · obtain ⟨g, o, rfl, hg, hca⟩ := HA.out wr HB1.out (by rw [HNA.out]; omega)
          obtain ⟨a0, a1⟩ := hca k (by rw [HNA.out]; omega)
          obtain ⟨⟨y0, y1⟩, hy⟩ : ∃ y, s.attrs.getD k (none8, none8) = y := ⟨_, rfl⟩
          rw [hy] at a0 a1
          dsimp only at a0 a1
          have HY := Lib.hid hy
          have tk : decide ((k : Int) < (na : Int)) = true := by simp; omega
          have HB2 := Lib.hid (HB1.out.alloc (HRB.out.below _ HB1.out).2 (.cells #[.string y0, .string y1] 65))
          have q0 := (HRB.out.cells _ HB2.out).1
          have q2 := (HRB.out.cells _ HB2.out).2.2.1
          have q3 := (HRB.out.cells _ HB2.out).2.2.2
          dsimp only at q0 q2 q3
          obtain ⟨e1, he1⟩ : ∃ e, eqT y0 x2 = e := ⟨_, rfl⟩
          obtain ⟨e2, he2⟩ : ∃ e, eqT y1 x3 = e := ⟨_, rfl⟩
          have he1' : (y0.toList == x2.toList) = e1 := he1
          have he2' : (y1.toList == x3.toList) = e2 := he2
          have HP0 : Hid (pA (s.attrs.getD k (none8, none8)) = (e1 && e2)) := Lib.hid (by rw [HPA.out, hy]; dsimp only; rw [he1, he2]; rfl)
          clear hca hy HY he1 he2
          cases e1 with
          | false =>
            have HP : pA (s.attrs.getD k (none8, none8)) = false := HP0.out
            go_wp2_with fail
            go_roundw
            case rel => exact ⟨k + 1, by simp, by omega, Lib.hid fun j hj => by
              rcases Nat.lt_or_ge j k with h | h
              · exact HKK.out j h
              · rw [show j = k by omega]; exact HP, HB2⟩
            case measure => simp [intOf]; omega
          | true =>
            cases e2 with
            | false =>
              have HP : pA (s.attrs.getD k (none8, none8)) = false := HP0.out
              go_wp2_with fail
              go_roundw
              case rel => exact ⟨k + 1, by simp, by omega, Lib.hid fun j hj => by
                rcases Nat.lt_or_ge j k with h | h
                · exact HKK.out j h
                · rw [show j = k by omega]; exact HP, HB2⟩
              case measure => simp [intOf]; omega
            | true =>
              have HP : pA (s.attrs.getD k (none8, none8)) = true := HP0.out
              go_wp2_with fail
              go_ret
              exact ⟨ret_b (any_at sp0 (by rw [HN.out]; exact hlt) (by rw [HPS.out, HSS.out, any_at (none8, none8) (by rw [HNA.out]; exact hkl) HP]; simp)).symm, (HRB.out.below _ HB2.out).1⟩
        · have hke : k = na := by omega
          subst hke
          have tk : decide ((k : Int) < (k : Int)) = false := by simp
          have HP : pS (l.getD i sp0) = false := by
            rw [HPS.out, HSS.out, any_none (none8, none8) (fun j hj => HKK.out j (by rw [← HNA.out]; exact hj))]
            simp
          clear hkl
          go_wp2_with fail
          go_roundw
          case rel => exact ⟨i + 1, by simp, by omega, Lib.hid fun j hj => by
            rcases Nat.lt_or_ge j i with h | h
            · exact HI.out j h
            · rw [show j = i by omega]; exact HP, HB1⟩
          case measure => simp [intOf]; omega
    · have hie : i = n := by omega
      subst hie
      have ti : decide ((i : Int) < (i : Int)) = false := by simp
      clear hlt
      go_wp2_with fail
      go_ret
      exact ⟨ret_b (any_none sp0 (fun j hj => HI.out j (by rw [← HN.out]; exact hj))).symm, (HRB.out.below _ HB.out).1⟩

set_option linter.unusedSimpArgs false in
set_option linter.unusedVariables false in
set_option maxRecDepth 100000 in
set_option maxHeartbeats 4000000 in
theorem refLoopN_any (r : Ru) (A : Option Addr) (l : List Sp) (n cap num : Nat) (w : World) (hf : Fits n cap l) (t1 : ((r.kind : Int) == 1) = false) (t2 : ((r.kind : Int) == 2) = false) (t3 : ((r.kind : Int) == 3) = false) (t4 : ((r.kind : Int) == 4) = false) (t5 : ((r.kind : Int) == 5) = false) (hr : HoldsS w.heap.size w A l) :
    Calls Tryd.prog 29 #[.agg (ruCells r), .slice A n cap, .int .u64 (num : Int)] w fun e w' => e = .returned (.bool (l.any (loopS false false r))) ∧ Below w.heap.size w w' := by
  have hrb := rb_at w r
  obtain ⟨N, hN⟩ : ∃ N, w.heap.size = N := ⟨_, rfl⟩
  obtain ⟨W2, hW2⟩ : ∃ W2, w.alloc (.cells (ruCells r) 39) = W2 := ⟨_, rfl⟩
  rw [hW2, hN] at hrb
  rw [hN] at hr
  have HRB := Lib.hid hrb
  have HR := Lib.hid hr
  have HN := Lib.hid hf.len
  have HAT := Lib.hid hf.at_
  have hn2 : n ≤ 9223372036854775807 := Nat.le_trans hf.cap_ hf.cap2
  obtain ⟨k0, k1, k2, k3⟩ := hrb.cells W2 (Below.refl _ _)
  have HB0 := Lib.hid (Below.refl (N + 1) W2)
  obtain ⟨pS, hpS⟩ : ∃ p, loopS false false r = p := ⟨_, rfl⟩
  have HPS : Hid (∀ s, pS s = ((false && s.bad) || s.attrs.any (loopA false r))) := Lib.hid fun s => by rw [← hpS]; rfl
  rw [hpS]
  obtain ⟨x0, x1, x2, x3⟩ := r
  clear hrb hr hf hpS
  unfold ruCells at hW2 ⊢
  dsimp only at hW2 k0 k1 k2 k3 t1 t2 t3 t4 t5 ⊢
  obtain ⟨pA, hpA⟩ : ∃ p, loopA false ⟨x0, x1, x2, x3⟩ = p := ⟨_, rfl⟩
  rw [hpA] at HPS
  have HPA : Hid (∀ t, pA t = (false && (eqT t.1 x2 && eqT t.2 x3))) := Lib.hid fun t => by rw [← hpA]; rfl
  clear hpA
  rw [hN]
  go_enter Tryd.func29, Tryd.ntmps29
  go_wp2_with fail
  go_loopw [7] (fun iv wr => ∃ i : Nat, iv = .int .i64 (i : Int) ∧ i ≤ n ∧ Hid (∀ j, j < i → pS (l.getD j sp0) = false) ∧ Hid (Below (N + 1) W2 wr)) (fun iv _ => n - (intOf iv).toNat)
  case atStart => exact ⟨0, rfl, by omega, Lib.hid fun j hj => absurd hj (by omega), HB0⟩
  case round =>
    obtain ⟨i, rfl, hi, HI, HB⟩ := hrel
    clear HB0 k0 k1 k2 k3
    obtain ⟨k0, k1, k2, k3⟩ := HRB.out.cells wr HB.out
    dsimp only at k0 k1 k2 k3
    by_cases hlt : i < n
    · obtain ⟨b, off, rfl, hb, hc⟩ := HR.out (by rw [HN.out]; omega)
      obtain ⟨B, c, -, -, -, -, -, -, -, h7, h8, -, hA⟩ := hc i (by rw [HN.out]; omega)
      obtain ⟨s, hs⟩ : ∃ s, l.getD i sp0 = s := ⟨_, rfl⟩
      have hna2 := HAT.out i hlt
      rw [hs] at h7 h8 hA hna2
      obtain ⟨bad, hbad⟩ : ∃ z, s.bad = z := ⟨_, rfl⟩
      obtain ⟨na, hna⟩ : ∃ z, s.attrs.length = z := ⟨_, rfl⟩
      rw [hbad] at h7
      rw [hna] at h8 hna2
      have t : ∀ W, Below (N + 1) W2 W → ∀ k, W.cell? ⟨b, k, none⟩ = w.cell? ⟨b, k, none⟩ := fun W hW k => (HRB.out.below W hW).1.cell (p := ⟨b, k, none⟩) hb
      have H8 : Hid (∀ W, Below (N + 1) W2 W → W.cell? ⟨b, off + i * 10 + 8, none⟩ = some (.slice B na c)) := Lib.hid fun W hW => by rw [t W hW]; exact h8
      have h8' := H8.out wr HB.out
      rw [← t wr HB.out] at h7
      have HA : Hid (∀ W, Below (N + 1) W2 W → HoldsA N W B s.attrs) := Lib.hid fun W hW => hA.below (HRB.out.below W hW).1
      have HNA := Lib.hid hna
      have HSS := Lib.hid hs
      have HBAD := Lib.hid hbad
      have ti : decide ((i : Int) < (n : Int)) = true := by simp; omega
      clear hc t hs hna hA h8 hbad
      go_wp2_with fail
      go_loopw [8] (fun kv wr => ∃ k : Nat, kv = .int .i64 (k : Int) ∧ k ≤ na ∧ Hid (∀ j, j < k → pA (s.attrs.getD j (none8, none8)) = false) ∧ Hid (Below (N + 1) W2 wr)) (fun kv _ => na - (intOf kv).toNat)
      case atStart => exact ⟨0, rfl, by omega, Lib.hid fun j hj => absurd hj (by omega), HB⟩
      case round =>
        obtain ⟨k, rfl, hk, HKK, HB1⟩ := hrel
        clear k0 k1 k2 k3 h7 h8'
        obtain ⟨k0, k1, k2, k3⟩ := HRB.out.cells wr HB1.out
        dsimp only at k0 k1 k2 k3
        have h8' := H8.out wr HB1.out
        by_cases hkl : k < na
        · obtain ⟨g, o, rfl, hg, hca⟩ := HA.out wr HB1.out (by rw [HNA.out]; omega)
          obtain ⟨a0, a1⟩ := hca k (by rw [HNA.out]; omega)
          obtain ⟨⟨y0, y1⟩, hy⟩ : ∃ y, s.attrs.getD k (none8, none8) = y := ⟨_, rfl⟩
          rw [hy] at a0 a1
          dsimp only at a0 a1
          have HY := Lib.hid hy
          have tk : decide ((k : Int) < (na : Int)) = true := by simp; omega
          have HB2 := Lib.hid (HB1.out.alloc (HRB.out.below _ HB1.out).2 (.cells #[.string y0, .string y1] 65))
          have q0 := (HRB.out.cells _ HB2.out).1
          have q2 := (HRB.out.cells _ HB2.out).2.2.1
          have q3 := (HRB.out.cells _ HB2.out).2.2.2
          dsimp only at q0 q2 q3
          have HP : pA (s.attrs.getD k (none8, none8)) = false := by rw [HPA.out]; rfl
          clear hca hy HY
          go_wp2_with fail
          go_roundw
          case rel => exact ⟨k + 1, by simp, by omega, Lib.hid fun j hj => by
            rcases Nat.lt_or_ge j k with h | h
            · exact HKK.out j h
            · rw [show j = k by omega]; exact HP, HB2⟩
          case measure => simp [intOf]; omega
        · have hke : k = na := by omega
          subst hke
          have tk : decide ((k : Int) < (k : Int)) = false := by simp
          have HP : pS (l.getD i sp0) = false := by
            rw [HPS.out, HSS.out, any_none (none8, none8) (fun j hj => HKK.out j (by rw [← HNA.out]; exact hj))]
            simp
          clear hkl
          go_wp2_with fail
          go_roundw
          case rel => exact ⟨i + 1, by simp, by omega, Lib.hid fun j hj => by
            rcases Nat.lt_or_ge j i with h | h
            · exact HI.out j h
            · rw [show j = i by omega]; exact HP, HB1⟩
          case measure => simp [intOf]; omega
    · have hie : i = n := by omega
      subst hie
      have ti : decide ((i : Int) < (i : Int)) = false := by simp
      clear hlt
      go_wp2_with fail
      go_ret
      exact ⟨ret_b (any_none sp0 (fun j hj => HI.out j (by rw [← HN.out]; exact hj))).symm, (HRB.out.below _ HB.out).1⟩

set_option linter.unusedSimpArgs false in
set_option linter.unusedVariables false in
set_option maxRecDepth 100000 in
set_option maxHeartbeats 4000000 in
theorem refSlow_any (r : Ru) (A : Option Addr) (l : List Sp) (n cap num : Nat) (w : World) (hf : Fits n cap l) (t1 : ((r.kind : Int) == 1) = true) (hr : HoldsS w.heap.size w A l) :
    Calls Tryd.prog 29 #[.agg (ruCells r), .slice A n cap, .int .u64 (num : Int)] w fun e w' => e = .returned (.bool (decide (0 < n) && decide (r.a ≤ lenM l))) ∧ Below w.heap.size w w' := by
  have hrb := rb_at w r
  obtain ⟨v, hv⟩ : ∃ v, lenM l = v := ⟨_, rfl⟩
  obtain ⟨N, hN⟩ : ∃ N, w.heap.size = N := ⟨_, rfl⟩
  obtain ⟨W2, hW2⟩ : ∃ W2, w.alloc (.cells (ruCells r) 39) = W2 := ⟨_, rfl⟩
  rw [hW2, hN] at hrb
  rw [hv]
  have hn2 : n ≤ 9223372036854775807 := Nat.le_trans hf.cap_ hf.cap2
  have HL : Hid (∀ W, Below (N + 1) W2 W → Calls Tryd.prog 32 #[.slice A n cap] W fun e w' => e = .returned (.int .i64 v) ∧ Below (N + 1) W2 w') := Lib.hid fun W hW => by
    obtain ⟨h1, h2⟩ := hrb.below W hW
    rw [← hv]
    rw [← hN] at h1
    exact (refLen_any A l n cap W hf.len hn2 ((hr.below h1).mono h1.size)).mono fun e w' ⟨he, hb⟩ => ⟨he, hW.trans (hb.mono h2)⟩
  have HRB := Lib.hid hrb
  obtain ⟨k0, k1, k2, k3⟩ := hrb.cells W2 (Below.refl _ _)
  have hBd : Below (N + 1) W2 W2.drew := (Below.refl _ _).drew
  clear hrb hr hf hv
  obtain ⟨x0, x1, x2, x3⟩ := r
  unfold ruCells at hW2 ⊢
  dsimp only at hW2 k0 k1 k2 k3 t1 ⊢
  rw [hN]
  by_cases h0 : 0 < n
  · have t0 : decide ((0 : Int) < (n : Int)) = true := by simp; omega
    have t0n : decide (0 < n) = true := by simp; omega
    obtain ⟨b, hb⟩ : ∃ b, decide (x1 ≤ v) = b := ⟨_, rfl⟩
    rw [t0n, hb, Bool.true_and]
    clear h0
    go_enter Tryd.func29, Tryd.ntmps29
    go_wp2_with fail
    refine wp_region_held_drew (S := fun W => Below (N + 1) W2 W) (by kernel_rfl) ?_ (fun hHeld => ?_)
    · exact hBd
    refine wpAnyH_take (i := 0) (v := ?_) rfl (by kernel_rfl) (by kernel_rfl) (by kernel_rfl) (fun _ _ _ h => h) (Or.inl ⟨by rfl, ?_⟩) (by assumption) ?_
    rotate_left
    · intro wq hSw; (try dsimp only at hSw); go_simp; (try with_reducible rfl)
    simp only [Act.put, List.getElem_toArray, List.getElem_cons_succ, List.getElem_cons_zero, List.setIfInBounds_toArray, List.set_cons_zero, List.set_cons_succ]
    refine wpAnyH_take (i := 1) (v := ?_) rfl (by kernel_rfl) (by kernel_rfl) (by kernel_rfl) (fun _ _ _ h => h) (Or.inl ⟨by rfl, ?_⟩) (by assumption) ?_
    rotate_left
    · intro wq hSw; (try dsimp only at hSw); go_simp; (try with_reducible rfl)
    simp only [Act.put, List.getElem_toArray, List.getElem_cons_succ, List.getElem_cons_zero, List.setIfInBounds_toArray, List.set_cons_zero, List.set_cons_succ]
    refine wpAnyH_take (i := 2) (v := ?_) rfl (by kernel_rfl) (by kernel_rfl) (by kernel_rfl) (fun _ _ _ h => h) (Or.inl ⟨by rfl, ?_⟩) (by assumption) ?_
    rotate_left
    · intro wq hSw; (try dsimp only at hSw); go_simp; (try with_reducible rfl)
    simp only [Act.put, List.getElem_toArray, List.getElem_cons_succ, List.getElem_cons_zero, List.setIfInBounds_toArray, List.set_cons_zero, List.set_cons_succ]
    refine wpAnyH_take (i := 3) (v := ?_) rfl (by kernel_rfl) (by kernel_rfl) (by kernel_rfl) (fun _ _ _ h => h) (Or.inl ⟨by rfl, ?_⟩) (by assumption) ?_
    rotate_left
    · intro wq hSw; (try dsimp only at hSw); go_simp; (try with_reducible rfl)
    simp only [Act.put, List.getElem_toArray, List.getElem_cons_succ, List.getElem_cons_zero, List.setIfInBounds_toArray, List.set_cons_zero, List.set_cons_succ]
    refine wpAnyH_take (i := 4) (v := ?_) rfl (by kernel_rfl) (by kernel_rfl) (by kernel_rfl) (fun _ _ _ h => h) (Or.inl ⟨by rfl, ?_⟩) (by assumption) ?_
    rotate_left
    · intro wq hSw; (try dsimp only at hSw); go_simp; (try with_reducible rfl)
    simp only [Act.put, List.getElem_toArray, List.getElem_cons_succ, List.getElem_cons_zero, List.setIfInBounds_toArray, List.set_cons_zero, List.set_cons_succ]
    refine wpAnyH_take (i := 6) (v := ?_) rfl (by kernel_rfl) (by kernel_rfl) (by kernel_rfl) (fun _ _ _ h => h) (Or.inl ⟨by rfl, ?_⟩) (by assumption) ?_
    rotate_left
    · intro wq hSw; (try dsimp only at hSw); go_simp; (try with_reducible rfl)
    simp only [Act.put, List.getElem_toArray, List.getElem_cons_succ, List.getElem_cons_zero, List.setIfInBounds_toArray, List.set_cons_zero, List.set_cons_succ]
    refine wpAnyH_take (i := 7) (v := ?_) rfl (by kernel_rfl) (by kernel_rfl) (by kernel_rfl) (fun _ _ _ h => h) (Or.inl ⟨by rfl, ?_⟩) (by assumption) ?_
    rotate_left
    · intro wq hSw; (try dsimp only at hSw); obtain ⟨u0, u1, u2, u3⟩ := HRB.out.cells _ hSw; go_simp; (try with_reducible rfl)
    simp only [Act.put, List.getElem_toArray, List.getElem_cons_succ, List.getElem_cons_zero, List.setIfInBounds_toArray, List.set_cons_zero, List.set_cons_succ]
    refine wpAnyH_ready (rs := [5]) (by kernel_rfl) (by simp) ?_
    refine AllReadyH.cons rfl (fun K hK => ?_) AllReadyH.nil
    go_simp
    refine (HL.out _ hHeld).mono ?_
    rintro e w2 ⟨rfl, hb2⟩
    (try go_wp2_with fail)
    refine hK.out _ _ ?_ (fun hHeld => ?_)
    · exact hb2
    clear hK K
    try simp only [Act.put, List.getElem_toArray, List.getElem_cons_succ, List.getElem_cons_zero, List.setIfInBounds_toArray, List.set_cons_zero, List.set_cons_succ]
    refine wpAnyH_take (i := 8) (v := ?_) rfl (by kernel_rfl) (by kernel_rfl) (by kernel_rfl) (fun _ _ _ h => h) (Or.inl ⟨by rfl, ?_⟩) (by assumption) ?_
    rotate_left
    · intro wq hSw; (try dsimp only at hSw); go_simp; (try with_reducible rfl)
    simp only [Act.put, List.getElem_toArray, List.getElem_cons_succ, List.getElem_cons_zero, List.setIfInBounds_toArray, List.set_cons_zero, List.set_cons_succ]
    refine wpAnyH_take (i := 9) (v := ?_) rfl (by kernel_rfl) (by kernel_rfl) (by kernel_rfl) (fun _ _ _ h => h) (Or.inl ⟨by rfl, ?_⟩) (by assumption) ?_
    rotate_left
    · intro wq hSw; (try dsimp only at hSw); go_simp; (try with_reducible rfl)
    simp only [Act.put, List.getElem_toArray, List.getElem_cons_succ, List.getElem_cons_zero, List.setIfInBounds_toArray, List.set_cons_zero, List.set_cons_succ]
    refine wpAnyH_take (i := 10) (v := ?_) rfl (by kernel_rfl) (by kernel_rfl) (by kernel_rfl) (fun _ _ _ h => h) (Or.inl ⟨by rfl, ?_⟩) (by assumption) ?_
    rotate_left
    · intro wq hSw; (try dsimp only at hSw); go_simp; (try with_reducible rfl)
    simp only [Act.put, List.getElem_toArray, List.getElem_cons_succ, List.getElem_cons_zero, List.setIfInBounds_toArray, List.set_cons_zero, List.set_cons_succ]
    refine wpAnyH_done (by kernel_rfl) ?_ _
    clear hHeld
    go_wp2_with fail
    go_ret
    exact ⟨rfl, (HRB.out.below _ hb2).1⟩
  · have t0 : decide ((0 : Int) < (n : Int)) = false := by simp; omega
    have t0n : decide (0 < n) = false := by simp; omega
    rw [t0n, Bool.false_and]
    clear h0
    go_enter Tryd.func29, Tryd.ntmps29
    go_wp2_with fail
    go_quiet (fail)
    go_wp2_with fail
    go_ret
    exact ⟨rfl, (HRB.out.below _ (draws (Below.refl _ _) _)).1⟩
set_option linter.unusedVariables false in
set_option maxRecDepth 100000 in
set_option maxHeartbeats 4000000 in
theorem refMany_any (r : Ru) (A : Option Addr) (n cap num : Nat) (w : World) (t1 : ((r.kind : Int) == 1) = false) (t4 : ((r.kind : Int) == 4) = true) :
    Calls Tryd.prog 29 #[.agg (ruCells r), .slice A n cap, .int .u64 (num : Int)] w fun e w' => e = .returned (.bool (decide (r.a ≤ (n : Int)))) ∧ Below w.heap.size w w' := by
  have HB := Lib.hid (box_below (W := w) (.cells (ruCells r) 39))
  obtain ⟨x0, x1, x2, x3⟩ := r
  unfold ruCells at HB ⊢
  dsimp only at HB t1 t4 ⊢
  obtain ⟨b, hb⟩ : ∃ b, decide (x1 ≤ (n : Int)) = b := ⟨_, rfl⟩
  rw [hb]
  go_enter Tryd.func29, Tryd.ntmps29
  go_wp2_with fail
  go_ret
  exact ⟨rfl, HB.out⟩
set_option linter.unusedVariables false in
set_option maxRecDepth 100000 in
set_option maxHeartbeats 4000000 in
theorem refShare_any (r : Ru) (A : Option Addr) (n cap num : Nat) (w : World) (ha : In64 r.a) (t1 : ((r.kind : Int) == 1) = false) (t4 : ((r.kind : Int) == 4) = false) (t5 : ((r.kind : Int) == 5) = true) :
    Calls Tryd.prog 29 #[.agg (ruCells r), .slice A n cap, .int .u64 (num : Int)] w fun e w' => e = .returned (.bool (decide (0 ≤ r.a) && keep num r.a.toNat)) ∧ Below w.heap.size w w' := by
  have HB := Lib.hid (box_below (W := w) (.cells (ruCells r) 39))
  obtain ⟨x0, x1, x2, x3⟩ := r
  obtain ⟨hlo, hhi⟩ := ha
  unfold ruCells at HB ⊢
  dsimp only at HB t1 t4 t5 hlo hhi ⊢
  by_cases h0 : 0 ≤ x1
  · obtain ⟨t, rfl⟩ : ∃ t : Nat, x1 = (t : Int) := ⟨x1.toNat, by omega⟩
    obtain ⟨b, hb⟩ : ∃ b, keep num t = b := ⟨_, rfl⟩
    have HK := Lib.hid fun W => refKeep_any num t W
    rw [hb] at HK
    have hd : decide ((0 : Int) ≤ (t : Int)) = true := by simp
    have hw : IntKind.u64.wrap (t : Int) = (t : Int) := IntWalk.u64_in _ (by omega)
    rw [hd, Int.toNat_natCast, hb, Bool.true_and]
    clear hb h0
    go_enter Tryd.func29, Tryd.ntmps29
    go_wp2_with fail
    refine (HK.out _).mono ?_
    rintro e w2 ⟨rfl, rfl⟩
    go_wp2_with fail
    go_ret
    exact ⟨rfl, HB.out⟩
  · have hd : decide ((0 : Int) ≤ x1) = false := by simp; omega
    rw [hd, Bool.false_and]
    clear h0
    go_enter Tryd.func29, Tryd.ntmps29
    go_wp2_with fail
    go_ret
    exact ⟨rfl, HB.out⟩
theorem refHolds_any (r : Ru) (A : Option Addr) (l : List Sp) (n cap num : Nat) (w : World) (hf : Fits n cap l) (ha : In64 r.a) (hr : HoldsS w.heap.size w A l) :
    Calls Tryd.prog 29 #[.agg (ruCells r), .slice A n cap, .int .u64 (num : Int)] w fun e w' => e = .returned (.bool (holdsM r l num)) ∧ Below w.heap.size w w' := by
  have hl := hf.len
  have tk : ∀ k : Nat, r.kind ≠ k → ((r.kind : Int) == (k : Int)) = false := fun k h => by simp; omega
  have tt : ∀ k : Nat, r.kind = k → ((r.kind : Int) == (k : Int)) = true := fun k h => by simp [h]
  by_cases h1 : r.kind = 1
  · have e : holdsM r l num = (decide (0 < n) && decide (r.a ≤ lenM l)) := by unfold holdsM; rw [if_pos h1, hl]
    rw [e]
    exact refSlow_any r A l n cap num w hf (tt 1 h1) hr
  by_cases h4 : r.kind = 4
  · have e : holdsM r l num = decide (r.a ≤ (n : Int)) := by unfold holdsM; rw [if_neg (by omega), if_neg (by omega), if_neg (by omega), if_pos h4, hl]
    rw [e]
    exact refMany_any r A n cap num w (tk 1 h1) (tt 4 h4)
  by_cases h5 : r.kind = 5
  · have e : holdsM r l num = (decide (0 ≤ r.a) && keep num r.a.toNat) := by unfold holdsM; rw [if_neg (by omega), if_neg (by omega), if_neg (by omega), if_neg (by omega), if_pos h5]
    rw [e]
    exact refShare_any r A n cap num w ha (tk 1 h1) (tk 4 h4) (tt 5 h5)
  rw [loop_holds r l num h1 h4 h5]
  by_cases h2 : r.kind = 2
  · rw [decide_eq_true h2, decide_eq_false (show ¬ r.kind = 3 by omega)]
    exact refLoopB_any r A l n cap num w hf (tk 1 h1) (tt 2 h2) (tk 3 (by omega)) (tk 4 h4) (tk 5 h5) hr
  by_cases h3 : r.kind = 3
  · rw [decide_eq_false h2, decide_eq_true h3]
    exact refLoopH_any r A l n cap num w hf (tk 1 h1) (tk 2 h2) (tt 3 h3) (tk 4 h4) (tk 5 h5) hr
  rw [decide_eq_false h2, decide_eq_false h3]
  exact refLoopN_any r A l n cap num w hf (tk 1 h1) (tk 2 h2) (tk 3 h3) (tk 4 h4) (tk 5 h5) hr

set_option linter.unusedSimpArgs false in
set_option maxRecDepth 100000 in
set_option maxHeartbeats 2000000 in
theorem refAll_any (B : Option Addr) (row : List Ru) (m c : Nat) (A : Option Addr) (l : List Sp) (n cap num : Nat) (w : World) (hm : row.length = m) (hm2 : m ≤ 9223372036854775807) (ha : ∀ i, i < m → In64 (row.getD i ru0).a) (hR : HoldsR w.heap.size w B row) (hf : Fits n cap l) (hr : HoldsS w.heap.size w A l) :
    Calls Tryd.prog 30 #[.slice B m c, .slice A n cap, .int .u64 (num : Int)] w fun e w' => e = .returned (.bool (allM row l num)) ∧ Below w.heap.size w w' := by
  have HR := Lib.hid hR
  have HM := Lib.hid hm
  have HF : Hid (∀ W, Below w.heap.size w W → ∀ i, i < m → Calls Tryd.prog 29 #[.agg (ruCells (row.getD i ru0)), .slice A n cap, .int .u64 (num : Int)] W fun e w' => e = .returned (.bool (holdsM (row.getD i ru0) l num)) ∧ Below W.heap.size W w') := Lib.hid fun W hW i hi =>
    refHolds_any (row.getD i ru0) A l n cap num W hf (ha i hi) ((hr.below hW).mono hW.size)
  have HALL : Hid (∀ q : Bool, (∀ i, i < m → holdsM (row.getD i ru0) l num = true) → allM row l num = true) := Lib.hid fun _ h => by
    unfold allM
    rw [List.all_eq_true]
    intro x hx
    obtain ⟨i, hi, rfl⟩ := List.mem_iff_getElem.1 hx
    rw [← getD_get hi ru0]
    exact h i (by omega)
  have HNOT : Hid (∀ i, i < m → holdsM (row.getD i ru0) l num = false → allM row l num = false) := Lib.hid fun i hi h => by
    unfold allM
    rw [List.all_eq_false]
    exact ⟨row.getD i ru0, by rw [getD_get (by omega) ru0]; exact List.getElem_mem (by omega), by rw [h]; simp⟩
  clear hR hm ha hf hr
  go_enter Tryd.func30, Tryd.ntmps30
  go_wp2_with fail
  go_loopw [7] (fun iv wr => ∃ i : Nat, iv = .int .i64 (i : Int) ∧ i ≤ m ∧ Hid (∀ j, j < i → holdsM (row.getD j ru0) l num = true) ∧ Hid (Below w.heap.size w wr)) (fun iv _ => m - (intOf iv).toNat)
  case atStart => exact ⟨0, rfl, by omega, Lib.hid fun j hj => absurd hj (by omega), Lib.hid (Below.refl _ _)⟩
  case round =>
    obtain ⟨i, rfl, hi, HI, HB⟩ := hrel
    by_cases hlt : i < m
    · obtain ⟨b, off, rfl, hb, hc⟩ := HR.out (by rw [HM.out]; omega)
      obtain ⟨h0, h1, h2, h3⟩ := hc i (by rw [HM.out]; omega)
      have hcall := HF.out wr HB.out i hlt
      have t : ∀ k, wr.cell? ⟨b, k, none⟩ = w.cell? ⟨b, k, none⟩ := fun k => HB.out.cell (p := ⟨b, k, none⟩) hb
      rw [← t] at h0 h1 h2 h3
      obtain ⟨q, hpr⟩ : ∃ r, holdsM (row.getD i ru0) l num = r := ⟨_, rfl⟩
      rw [hpr] at hcall
      obtain ⟨⟨x0, x1, x2, x3⟩, hx⟩ : ∃ s, row.getD i ru0 = s := ⟨_, rfl⟩
      rw [hx] at h0 h1 h2 h3 hcall
      unfold ruCells at hcall
      dsimp only at h0 h1 h2 h3 hcall
      have HCALL := Lib.hid hcall
      have HP := Lib.hid hpr
      have ti : decide ((i : Int) < (m : Int)) = true := by simp; omega
      clear t hc hcall hpr hx
      go_wp2_with fail
      refine HCALL.out.mono ?_
      rintro e w2 ⟨rfl, hb2⟩
      have HB2 := Lib.hid (HB.out.trans (hb2.mono HB.out.size))
      clear hb2 h0 h1 h2 h3
      cases q with
      | false =>
        go_wp2_with fail
        go_ret
        exact ⟨ret_b (HNOT.out i hlt HP.out).symm, HB2.out⟩
      | true =>
        go_wp2_with fail
        go_roundw
        case rel => exact ⟨i + 1, by simp, by omega, Lib.hid fun j hj => by
          rcases Nat.lt_or_ge j i with h | h
          · exact HI.out j h
          · rw [show j = i by omega]; exact HP.out, HB2⟩
        case measure => simp [intOf]; omega
    · have hie : i = m := by omega
      subst hie
      have ti : decide ((i : Int) < (i : Int)) = false := by simp
      clear hlt
      go_wp2_with fail
      go_ret
      exact ⟨ret_b (HALL.out true HI.out).symm, HB.out⟩
set_option linter.unusedSimpArgs false in
set_option maxRecDepth 100000 in
set_option maxHeartbeats 2000000 in
theorem refWhich_any (B : Option Addr) (ls : List (List Ru)) (m c : Nat) (A : Option Addr) (l : List Sp) (n cap num : Nat) (w : World) (hm : ls.length = m) (hok : OkRows ls) (hR : HoldsRR w.heap.size w B ls) (hf : Fits n cap l) (hr : HoldsS w.heap.size w A l) :
    Calls Tryd.prog 31 #[.slice B m c, .slice A n cap, .int .u64 (num : Int)] w fun e w' => e = .returned (.int .i64 (whichM ls l num)) ∧ Below w.heap.size w w' := by
  have HR := Lib.hid hR
  have HM := Lib.hid hm
  have hm2 : m ≤ 9223372036854775807 := hm ▸ hok.1
  have HF : Hid (∀ W, Below w.heap.size w W → ∀ i, i < m → ∀ B c, HoldsR w.heap.size w B (ls.getD i []) → Calls Tryd.prog 30 #[.slice B (ls.getD i []).length c, .slice A n cap, .int .u64 (num : Int)] W fun e w' => e = .returned (.bool (allM (ls.getD i []) l num)) ∧ Below W.heap.size W w') := Lib.hid fun W hW i hi B c hB => by
    obtain ⟨h1, h2⟩ := hok.2 i (by omega)
    exact refAll_any B (ls.getD i []) _ c A l n cap num W rfl h1 h2 ((hB.below hW).mono hW.size) hf ((hr.below hW).mono hW.size)
  clear hR hm hok hf hr
  go_enter Tryd.func31, Tryd.ntmps31
  go_wp2_with fail
  go_loopw [7] (fun iv wr => ∃ i : Nat, iv = .int .i64 (i : Int) ∧ i ≤ m ∧ Hid (∀ j, j < i → allM (ls.getD j []) l num = false) ∧ Hid (Below w.heap.size w wr)) (fun iv _ => m - (intOf iv).toNat)
  case atStart => exact ⟨0, rfl, by omega, Lib.hid fun j hj => absurd hj (by omega), Lib.hid (Below.refl _ _)⟩
  case round =>
    obtain ⟨i, rfl, hi, HI, HB⟩ := hrel
    by_cases hlt : i < m
    · obtain ⟨b, off, rfl, hb, hc⟩ := HR.out (by rw [HM.out]; omega)
      obtain ⟨B2, c2, h0, hB2⟩ := hc i (by rw [HM.out]; omega)
      have hcall := HF.out wr HB.out i hlt B2 c2 hB2
      have t : ∀ k, wr.cell? ⟨b, k, none⟩ = w.cell? ⟨b, k, none⟩ := fun k => HB.out.cell (p := ⟨b, k, none⟩) hb
      rw [← t] at h0
      obtain ⟨q, hpr⟩ : ∃ r, allM (ls.getD i []) l num = r := ⟨_, rfl⟩
      rw [hpr] at hcall
      obtain ⟨na, hna⟩ : ∃ z, (ls.getD i []).length = z := ⟨_, rfl⟩
      rw [hna] at h0 hcall
      have HCALL := Lib.hid hcall
      have HP := Lib.hid hpr
      have ti : decide ((i : Int) < (m : Int)) = true := by simp; omega
      clear t hc hcall hpr hB2 hna
      go_wp2_with fail
      refine HCALL.out.mono ?_
      rintro e w2 ⟨rfl, hb2⟩
      have HB2 := Lib.hid (HB.out.trans (hb2.mono HB.out.size))
      clear hb2 h0
      cases q with
      | true =>
        go_wp2_with fail
        go_ret
        exact ⟨by unfold whichM; rw [idx_at [] (by rw [HM.out]; exact hlt) HI.out HP.out]; rfl, HB2.out⟩
      | false =>
        go_wp2_with fail
        go_roundw
        case rel => exact ⟨i + 1, by simp, by omega, Lib.hid fun j hj => by
          rcases Nat.lt_or_ge j i with h | h
          · exact HI.out j h
          · rw [show j = i by omega]; exact HP.out, HB2⟩
        case measure => simp [intOf]; omega
    · have hie : i = m := by omega
      subst hie
      have ti : decide ((i : Int) < (i : Int)) = false := by simp
      clear hlt
      go_wp2_with fail
      go_ret
      exact ⟨by unfold whichM; rw [idx_none [] (fun j hj => HI.out j (by rw [← HM.out]; exact hj))]; rfl, HB.out⟩
end Go.Proofs.YtmjbdjcpjaeemaaDoor
