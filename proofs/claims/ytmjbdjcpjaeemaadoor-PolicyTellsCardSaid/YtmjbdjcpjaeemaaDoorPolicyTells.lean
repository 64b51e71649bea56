/-
  Proved: PolicyTells returns true for every rule, all spans, all choices of rows of rules and of spans, and every number: Holds, All, Which and Length tell what the document's own tell. No condition but the card's own: policy's table of bounds, tied to the program's text, holds at the start what that text says.
-/
import Derived.Test.YtmjbdjcpjaeemaaDoorPoTells
namespace Go.Proofs.YtmjbdjcpjaeemaaDoor
open Go.ChangeShapes Go.WideShapes Go.ChangeAt Go.RowKit

/-- One row of one rule. -/
def oneRow (W : World) (r : Ru) (n : Nat) : World := (W.alloc (.cells (ruCells r) 39)).alloc (.cells #[.slice (some ⟨n, 0, none⟩) 1 1] 30)
theorem one_row (W : World) (r : Ru) (n : Nat) (hn : W.heap.size = n) : HoldsRR (oneRow W r n).heap.size (oneRow W r n) (some ⟨n + 1, 0, none⟩) [[r]] ∧ Below n W (oneRow W r n) ∧ n ≤ (oneRow W r n).heap.size := by
  subst hn
  have hb1 := box_below (W := W) (.cells (ruCells r) 39)
  have hk1 := blk_new W (ruCells r) 39
  have hs : (W.alloc (.cells (ruCells r) 39)).heap.size = W.heap.size + 1 := World.size_alloc _ _
  have hb2 := box_below (W := W.alloc (.cells (ruCells r) 39)) (.cells #[.slice (some ⟨W.heap.size, 0, none⟩) 1 1] 30)
  have hk2 := blk_new (W.alloc (.cells (ruCells r) 39)) #[.slice (some ⟨W.heap.size, 0, none⟩) 1 1] 30
  rw [hs] at hk2
  have hB : Below W.heap.size W (oneRow W r W.heap.size) := hb1.trans (hb2.mono (by omega))
  have hsz := hB.size
  refine ⟨fun _ => ⟨W.heap.size + 1, 0, rfl, hk2.lt, fun j hj => ?_⟩, hB, hsz⟩
  match j, hj with
  | 0, _ =>
    refine ⟨some ⟨W.heap.size, 0, none⟩, 1, hk2.cell 0 rfl, fun _ => ⟨W.heap.size, 0, rfl, by have := hk2.lt; exact Nat.lt_trans (Nat.lt_succ_self _) this, fun i hi => ?_⟩⟩
    match i, hi with
    | 0, _ =>
      have h := hk1.later hb2
      exact ⟨h.cell 0 rfl, h.cell 1 rfl, h.cell 2 rfl, h.cell 3 rfl⟩

set_option linter.unusedSimpArgs false in
set_option linter.unusedVariables false in
set_option maxRecDepth 100000 in
set_option maxHeartbeats 4000000 in
theorem policyTells_walk (r : Ru) (A1 : Option Addr) (ls : List Sp) (cap1 : Nat) (A2 : Option Addr) (cs : List UInt8) (cap2 : Nat) (A3 : Option Addr) (m : List (List UInt8)) (cap3 : Nat) (num : Nat) (w : World) (hM : Most w) (hro : RuOk r) (h1 : HoldsS w.heap.size w A1 ls) (hso : SsOk ls) (h2 : Holds8 w.heap.size w A2 cs) (h3 : HoldsRows w.heap.size w A3 m) (hl1 : ls.length ≤ cap1) (hc1 : cap1 ≤ 9223372036854775807) (hl2 : cs.length ≤ 9223372036854775807) (hl3 : m.length ≤ 9223372036854775807) :
    Calls Tryd.prog 6 #[.agg (ruCells r), .slice A1 ls.length cap1, .slice A2 cs.length cap2, .slice A3 m.length cap3, .int .u64 (num : Int)] w fun e w' => e = .returned (.bool true) ∧ Below w.heap.size w w' := by
  have hrb := rb_at w r
  obtain ⟨N, hN⟩ : ∃ N, w.heap.size = N := ⟨_, rfl⟩
  rw [hN] at hrb h1 h2 h3
  obtain ⟨n1, hn1⟩ : ∃ x, ls.length = x := ⟨_, rfl⟩
  obtain ⟨n2, hn2⟩ : ∃ x, cs.length = x := ⟨_, rfl⟩
  obtain ⟨n3, hn3⟩ : ∃ x, m.length = x := ⟨_, rfl⟩
  have hfl : Fits n1 cap1 ls := ⟨hn1, by omega, hc1, fun i hi => hso i (by omega)⟩
  obtain ⟨nm, hnm, hnm56⟩ : ∃ x, num % 72057594037927936 = x ∧ x < 72057594037927936 := ⟨_, rfl, by omega⟩
  have tr : (num : Int).tmod 72057594037927936 = (nm : Int) := by rw [Int.tmod_eq_emod_of_nonneg (by omega)]; omega
  generalize hw1 : w.alloc (.cells (ruCells r) 39) = w1 at hrb
  have HEND : Hid (∀ W, Below (N + 1) w1 W → Below w.heap.size w W) := Lib.hid fun W hW => by rw [hN]; exact (hrb.below W hW).1
  have HSZ : Hid (∀ W, Below (N + 1) w1 W → N + 1 ≤ W.heap.size) := Lib.hid fun W hW => (hrb.below W hW).2
  have HSTEP : Hid (∀ W W', Below (N + 1) w1 W → Below W.heap.size W W' → Below (N + 1) w1 W') := Lib.hid fun W W' h h' => h.trans (h'.mono (hrb.below W h).2)
  have HK : Hid (∀ W, Below (N + 1) w1 W → Calls Tryd.prog 10 #[] W fun e w' => e = .returned (.bool true) ∧ Below (N + 1) w1 w') := Lib.hid fun W hW => (known_any W (hM.later (HEND.out W hW))).mono fun e w' ⟨he, hb⟩ => ⟨he, HSTEP.out _ _ hW hb⟩
  have HSP : Hid (∀ W, Below (N + 1) w1 W → HoldsS W.heap.size W A1 ls) := Lib.hid fun W hW => (h1.below (hrb.below W hW).1).mono (by have := (hrb.below W hW).2; omega)
  have HR2 : Hid (∀ W, Below (N + 1) w1 W → Calls Tryd.prog 9 #[.slice A2 n2 cap2] W fun e w' => ∃ A n cap, e = .returned (.slice A n cap) ∧ Hid (HoldsRR w'.heap.size w' A (rulesOf cs) ∧ (rulesOf cs).length = n ∧ Below (N + 1) w1 w' ∧ Below W.heap.size W w')) := Lib.hid fun W hW => by
    have hb := hrb.below W hW
    refine (rules_any A2 cs n2 cap2 W hn2 (by omega) ((h2.below hb.1).mono (by omega))).mono ?_
    rintro e w' ⟨A, n, cap, zs, rfl, hn, H⟩
    have h := H.out.2.2.1.holds H.out.1
    rw [H.out.2.1] at h
    exact ⟨A, n, cap, rfl, Lib.hid ⟨h, by rw [← H.out.2.1, List.length_map, H.out.1], HSTEP.out _ _ hW H.out.2.2.2, H.out.2.2.2⟩⟩
  have HS3 : Hid (∀ W, Below (N + 1) w1 W → Calls Tryd.prog 11 #[.slice A3 n3 cap3] W fun e w' => ∃ A n cap, e = .returned (.slice A n cap) ∧ Hid (HoldsS w'.heap.size w' A (spansOf m) ∧ Fits n cap (spansOf m) ∧ Below (N + 1) w1 w')) := Lib.hid fun W hW => by
    have hb := hrb.below W hW
    refine (spans_any A3 m n3 cap3 W hn3 (by omega) ((h3.below hb.1).mono (by omega))).mono ?_
    rintro e w' ⟨A, n, cap, zs, rfl, hn, H⟩
    have h := H.out.2.2.1.holds H.out.1
    rw [H.out.2.1] at h
    have hc := H.out.2.2.1.caps H.out.1
    exact ⟨A, n, cap, rfl, Lib.hid ⟨h, fits_few (by rw [← H.out.2.1, List.length_map, H.out.1]) hc.1 hc.2 (few_of m), HSTEP.out _ _ hW H.out.2.2.2⟩⟩
  have HT : Hid (∀ (B : Option Addr) (k c q : Nat) (xs : List Sp), Fits k c xs → ∀ W n, Below (N + 1) w1 W → W.heap.size = n → HoldsS W.heap.size W B xs → Calls Tryd.prog 17 #[.slice (some ⟨n + 1, 0, none⟩) 1 1, .slice B k c, .int .u64 (q : Int)] (oneRow W r n) fun e w' => e = .returned (.bool true) ∧ Below W.heap.size W w') := Lib.hid fun B k c q xs hf W n hW hn hx => by
    obtain ⟨k1, k2, k3⟩ := one_row W r n hn
    subst hn
    refine (tells_any _ [[r]] 1 1 B xs k c q _ rfl ⟨by simp, fun i hi => ?_⟩ k1 hf (hx.later k2)).mono fun e w' ⟨he, hb⟩ => ⟨he, k2.trans (hb.mono k3)⟩
    match i, hi with
    | 0, _ => exact ⟨by simp, fun j hj => by
        match j, hj with
        | 0, _ => exact hro.2.1⟩
  have HTR : Hid (∀ (A : Option Addr) (n cap : Nat) (B : Option Addr) (k c q : Nat) (xs : List Sp), (rulesOf cs).length = n → Fits k c xs → ∀ W, HoldsRR W.heap.size W A (rulesOf cs) → HoldsS W.heap.size W B xs → Calls Tryd.prog 17 #[.slice A n cap, .slice B k c, .int .u64 (q : Int)] W fun e w' => e = .returned (.bool true) ∧ Below W.heap.size W w') := Lib.hid fun A n cap B k c q xs hn hf W hR hx => tells_any A (rulesOf cs) n cap B xs k c q W hn (ok_rules cs).1 hR hf hx
  have HCELL : Hid (∀ W, Below (N + 1) w1 W → W.cell? ⟨N, 0, none⟩ = some (.int .u8 (r.kind : Int)) ∧ W.cell? ⟨N, 1, none⟩ = some (.int .i64 r.a) ∧ W.cell? ⟨N, 2, none⟩ = some (.string r.key) ∧ W.cell? ⟨N, 3, none⟩ = some (.string r.val)) := Lib.hid hrb.cells
  have HATT : Hid (∀ i, i < n1 → ∃ b off B c k, A1 = some ⟨b, off, none⟩ ∧ k ≤ 9223372036854775807 ∧ ∀ W, Below (N + 1) w1 W → W.cell? ⟨b, off + i * 10 + 8, none⟩ = some (.slice B k c)) := Lib.hid fun i hi => by
    obtain ⟨b, off, e, hb, hc⟩ := h1 (by omega)
    obtain ⟨B, c, _, _, _, _, _, _, _, _, h8, _⟩ := hc i (by omega)
    exact ⟨b, off, B, c, _, e, hso i (by omega), fun W hW => (((hrb.below W hW).1).cell (p := ⟨b, off + i * 10 + 8, none⟩) hb).trans h8⟩
  have HFL := Lib.hid hfl
  have HB1 : Hid (Below (N + 1) w1 w1) := Lib.hid (Below.refl _ _)
  have hn1b : n1 ≤ 9223372036854775807 := by omega
  rw [hn1, hn2, hn3]
  obtain ⟨y0, y1, y2, y3⟩ := r
  unfold ruCells at hw1 ⊢
  dsimp only at hw1 HCELL ⊢
  clear hrb hM h1 h2 h3 hso hfl hn1 hn2 hn3 hl1 hl2 hro
  by_cases hbad : 10 < n1 ∨ 10 < n3
  · rcases Nat.lt_or_ge 10 n1 with e1 | e1
    · have t1 : decide ((10 : Int) < (n1 : Int)) = true := by simp; omega
      have t1n : decide (10 < n1) = true := by simp; omega
      clear hbad
      go_enter Tryd.func6, Tryd.ntmps6
      go_wp2_with fail
      (try rw [hw1])
      refine (HK.out _ HB1.out).mono ?_
      rintro e w3 ⟨rfl, hb3⟩
      have HE := Lib.hid (HEND.out _ hb3)
      clear hb3
      go_wp2_with fail
      go_ret
      exact ⟨rfl, HE.out⟩
    · have t1 : decide ((10 : Int) < (n1 : Int)) = false := by simp; omega
      have t1n : decide (10 < n1) = false := by simp; omega
      have t2 : decide ((10 : Int) < (n3 : Int)) = true := by simp; omega
      have t2n : decide (10 < n3) = true := by simp; omega
      clear hbad e1
      go_enter Tryd.func6, Tryd.ntmps6
      go_wp2_with fail
      (try rw [hw1])
      refine (HK.out _ HB1.out).mono ?_
      rintro e w3 ⟨rfl, hb3⟩
      have HE := Lib.hid (HEND.out _ hb3)
      clear hb3
      go_wp2_with fail
      go_ret
      exact ⟨rfl, HE.out⟩
  have t1 : decide ((10 : Int) < (n1 : Int)) = false := by simp; omega
  have t1n : decide (10 < n1) = false := by simp; omega
  have t2 : decide ((10 : Int) < (n3 : Int)) = false := by simp; omega
  have t2n : decide (10 < n3) = false := by simp; omega
  clear hbad
  go_enter Tryd.func6, Tryd.ntmps6
  go_wp2_with fail
  (try rw [hw1])
  refine (HK.out _ HB1.out).mono ?_
  rintro e w3 ⟨rfl, hb3⟩
  have HB3 := Lib.hid hb3
  clear hb3
  go_wp2_with fail
  go_loopw [11] (fun iv wr => ∃ i : Nat, iv = .int .i64 (i : Int) ∧ i ≤ n1 ∧ Hid (Below (N + 1) w1 wr)) (fun iv _ => n1 - (intOf iv).toNat)
  case atStart => exact ⟨0, rfl, by omega, HB3⟩
  case round =>
    obtain ⟨i, rfl, hi, HB⟩ := hrel
    clear HB3 HB1
    by_cases hlt : i < n1
    · have ti : decide ((i : Int) < (n1 : Int)) = true := by simp; omega
      obtain ⟨b, off, B, c, k, rfl, hk, hc⟩ := HATT.out i hlt
      have u0 := hc wr HB.out
      obtain ⟨q, hq⟩ : ∃ q, decide ((10 : Int) < (k : Int)) = q := ⟨_, rfl⟩
      have hqn : decide (10 < k) = q := by rw [← hq]; simp; omega
      clear hc
      cases q with
      | true =>
        go_wp2_with fail
        go_ret
        exact ⟨rfl, HEND.out _ HB.out⟩
      | false =>
        go_wp2_with fail
        go_roundw
        case rel => exact ⟨i + 1, by simp, by omega, HB⟩
        case measure => simp [intOf]; omega
    · have hie : i = n1 := by omega
      subst hie
      have ti : decide ((i : Int) < (i : Int)) = false := by simp
      clear hlt
      go_wp2_with fail
      refine (HS3.out _ HB.out).mono ?_
      rintro e w4 ⟨Ax, nx, cx, rfl, HX⟩
      obtain ⟨n4, hn4⟩ : ∃ x, w4.heap.size = x := ⟨_, rfl⟩
      obtain ⟨k0, k1, k2, k3⟩ := HCELL.out w4 HX.out.2.2
      have HL4 := Lib.hid (HSP.out w4 HX.out.2.2)
      have HT1 := Lib.hid (HT.out A1 i cap1 num ls HFL.out w4 n4 HX.out.2.2 hn4 HL4.out)
      unfold oneRow ruCells at HT1
      dsimp only at HT1
      clear HB HS3 HL4
      go_wp2_with fail
      refine HT1.out.mono ?_
      rintro e w5 ⟨rfl, hb5⟩
      have HB5 : Hid (Below (N + 1) w1 w5) := Lib.hid (HSTEP.out _ _ HX.out.2.2 hb5)
      have HX5 : Hid (HoldsS w5.heap.size w5 Ax (spansOf m)) := Lib.hid (HX.out.1.later hb5)
      obtain ⟨n5, hn5⟩ : ∃ x, w5.heap.size = x := ⟨_, rfl⟩
      clear k0 k1 k2 k3 hn4 HT1 hb5
      obtain ⟨k0, k1, k2, k3⟩ := HCELL.out w5 HB5.out
      have HT2 := Lib.hid (HT.out Ax nx cx num (spansOf m) HX.out.2.1 w5 n5 HB5.out hn5 HX5.out)
      unfold oneRow ruCells at HT2
      dsimp only at HT2
      go_wp2_with fail
      refine HT2.out.mono ?_
      rintro e w6 ⟨rfl, hb6⟩
      have HB6 : Hid (Below (N + 1) w1 w6) := Lib.hid (HSTEP.out _ _ HB5.out hb6)
      have HX6 : Hid (HoldsS w6.heap.size w6 Ax (spansOf m)) := Lib.hid (HX5.out.later hb6)
      have HFX := Lib.hid HX.out.2.1
      clear k0 k1 k2 k3 hn5 HT2 hb6 HB5 HX5 HX HT HCELL
      go_wp2_with fail
      refine (HR2.out _ HB6.out).mono ?_
      rintro e w7 ⟨Aa, na, ca, rfl, H7⟩
      have HX7 : Hid (HoldsS w7.heap.size w7 Ax (spansOf m)) := Lib.hid (HX6.out.later H7.out.2.2.2)
      go_wp2_with fail
      refine (HTR.out Aa na ca Ax nx cx num (spansOf m) H7.out.2.1 HFX.out _ H7.out.1 HX7.out).mono ?_
      rintro e w8 ⟨rfl, hb8⟩
      have HB8 : Hid (Below (N + 1) w1 w8) := Lib.hid (HSTEP.out _ _ H7.out.2.2.1 hb8)
      have HX8 : Hid (HoldsS w8.heap.size w8 Ax (spansOf m)) := Lib.hid (HX7.out.later hb8)
      clear hb8 H7 HX7 HX6 HB6
      go_wp2_with fail
      refine (HR2.out _ HB8.out).mono ?_
      rintro e w9 ⟨Ab, nb, cb, rfl, H9⟩
      have HX9 : Hid (HoldsS w9.heap.size w9 Ax (spansOf m)) := Lib.hid (HX8.out.later H9.out.2.2.2)
      go_wp2_with fail
      refine (HTR.out Ab nb cb Ax nx cx nm (spansOf m) H9.out.2.1 HFX.out _ H9.out.1 HX9.out).mono ?_
      rintro e w10 ⟨rfl, hb10⟩
      have HB10 : Hid (Below (N + 1) w1 w10) := Lib.hid (HSTEP.out _ _ H9.out.2.2.1 hb10)
      clear hb10 H9 HX9 HX8 HB8
      go_wp2_with fail
      refine (HR2.out _ HB10.out).mono ?_
      rintro e w11 ⟨Ac, nc, cc, rfl, H11⟩
      have HL11 := Lib.hid (HSP.out w11 H11.out.2.2.1)
      go_wp2_with fail
      refine (HTR.out Ac nc cc A1 i cap1 num ls H11.out.2.1 HFL.out _ H11.out.1 HL11.out).mono ?_
      rintro e w12 ⟨rfl, hb12⟩
      have HB12 : Hid (Below (N + 1) w1 w12) := Lib.hid (HSTEP.out _ _ H11.out.2.2.1 hb12)
      clear hb12 H11 HL11
      go_wp2_with fail
      go_ret
      exact ⟨rfl, HEND.out _ HB12.out⟩
namespace PolicyTells
set_option linter.unusedSimpArgs false in
set_option maxRecDepth 100000 in
theorem lifted (os : Os) (started : os.Started) (H : Type) (enc : TypeId × Value → H) :
    ReturnsInHanded {} Tryd.checked os 6 .any (fun w args => (Rows.policyTellsSpec.pre enc Tryd.prog Tryd.f6 [] false w args ∧ laidMetH Tryd.prog laidL w) ∧ sizedMet enc Tryd.prog Tryd.f6 (OpenSpec.ofChange Rows.policyTellsSpec) false w args)
      (Rows.policyTellsSpec.post enc Tryd.prog Tryd.f6 false true false false) := by
  refine returnsInHanded_of_change_and (C := Tryd.checked) (X := fun w _ => laidMetH Tryd.prog laidL w) (fun _ _ _ hh h => h.of_heap hh) own started (by kernel_rfl) Tryd.func6
    (ChangeSpec.witness_shaped (enc := enc) (C := Tryd.checked) (os := os) (X := fun w _ => laidMetH Tryd.prog laidL w) false (World.doorLaid Tryd.prog 400 os) #[.agg #[.int .u8 0, .int .i64 0, .string ⟨#[]⟩, .string ⟨#[]⟩], .slice none 0 0, .slice none 0 0, .slice none 0 0, .int .u64 0] 8 rfl (World.shaped_of_RefB (by kernel_rfl) (by kernel_rfl)) (by kernel_rfl) (by kernel_rfl) (by kernel_rfl) (door_met os _)) ?_
  intro W base args ds gs before hval0 hW _ _ hL _
  have hS := of_laid hL
  have hval : ∀ (j : Nat) t v, Tryd.f6.params[j]? = some t → args[j]? = some v → Value.okWide Tryd.prog W .any base t v := hval0
  have hW' := hW
  obtain ⟨p, q, hA0, hV, rfl, _, _⟩ := hW
  have hA : DataW.TrodAll enc Tryd.prog W 0 (fun _ => true) true Tryd.f6.params.toList args.toList ds p := hA0
  rw [Tryd.params6] at hA hval
  obtain ⟨v0, vs0, d0, ds0, p0, q0, hargs, rfl, rfl, h0, r0⟩ := trodAll_cons hA
  obtain ⟨v1, vs1, d1, ds1, p1, q1, rfl, rfl, rfl, h1, r1⟩ := trodAll_cons r0
  obtain ⟨v2, vs2, d2, ds2, p2, q2, rfl, rfl, rfl, h2, r2⟩ := trodAll_cons r1
  obtain ⟨v3, vs3, d3, ds3, p3, q3, rfl, rfl, rfl, h3, r3⟩ := trodAll_cons r2
  obtain ⟨v4, vs4, d4, ds4, p4, q4, rfl, rfl, rfl, h4, r4⟩ := trodAll_cons r3
  obtain ⟨rfl, rfl, rfl⟩ := trodAll_nil r4
  obtain rfl : args = #[v0, v1, v2, v3, v4] := by cases args; simp_all
  obtain ⟨rfl, rfl⟩ := trodVars_none hV
  obtain ⟨ru0, rfl, o0⟩ := arg_rule (hval 0 39 v0 rfl rfl) h0
  obtain ⟨A1, sl1, cap1, rfl, l1, m1, b1, o1⟩ := arg_spans (hval 1 28 v1 rfl rfl) h1
  obtain ⟨A2, cs2, cap2, rfl, l2, m2, b2, again2⟩ := arg_bytes (hval 2 22 v2 rfl rfl) h2
  have x2 := arg_extra h2
  obtain ⟨A3, css3, cap3, rfl, l3, m3, e3, b3⟩ := arg_rows (hval 3 23 v3 rfl rfl) h3
  obtain ⟨a4, rfl, rfl, rfl, w4⟩ := open_int Tryd.underlying24 (hval 4 24 v4 rfl rfl) h4
  have k4 := wf_u64 w4
  obtain ⟨n4, rfl⟩ : ∃ n : Nat, a4 = n := ⟨a4.toNat, by omega⟩
  clear hA0 hval0
  simp only [List.append_nil] at hW'
  refine (policyTells_walk ru0 A1 sl1 cap1 A2 cs2 cap2 A3 css3 cap3 n4 W hS o0 b1 o1 b2 b3 l1 m1 (by omega) (by omega)).mono fun e W' ⟨he, hg⟩ => ?_
  subst he
  exact ⟨_, rfl, true_last hW' rfl (by kernel_rfl) Tryd.underlying4 rfl rfl rfl (of_decide_eq_true (by kernel_rfl)) hg⟩

/-- The row. -/
theorem said : Rows.PolicyTellsSaid :=
  OpenClaim.holds_of_wide 6 Tryd.f6 rfl rfl rfl rfl rfl rfl rfl ⟨rfl, rfl, rfl, rfl, rfl⟩ rfl rfl rfl rfl rfl (by kernel_rfl) Tryd.func6 (by kernel_rfl)
    (of_decide_eq_true (by kernel_rfl)) (by unfold Func.isWrapper; first | (rw [if_pos (by decide +kernel)]; kernel_rfl) | (rw [if_neg (by decide +kernel)]; exact ⟨rfl, rfl⟩))
    (fun os started H enc _ => lifted os started H enc)
/-- **PolicyTells, at every input: the card, its listed variables tied to the program's text.** -/
theorem proved : Rows.PolicyTellsCardSaid :=
  Claim7.holds_tied_plain_at .later [] [.data] true Rows.policyTellsCard.stood.harness false
    said (fun _ h => by cases h) (by kernel_rfl) (fun _ h => by cases h) policyTells_row_tie rfl ⟨rfl, rfl⟩ (by kernel_rfl) rfl
    (fun f fn hf hfn => by
      obtain rfl : f = 6 := Option.some.inj ((show Tryd.prog.funcNamed "telemeter/telemeterlaw12.PolicyTells" = some 6 by kernel_rfl).symm.trans hf) |>.symm
      obtain rfl : fn = Tryd.f6 := (Option.some.inj (Tryd.func6.symm.trans hfn)).symm
      exact ⟨by kernel_rfl, fun j t ht => by
        rw [Tryd.params6] at ht
        have hm : t ∈ [39, 28, 22, 23, 24] := by simpa using Array.mem_of_getElem? ht
        have hall : ([39, 28, 22, 23, 24].all fun u => !Tryd.prog.wantsStandIn u) = true := by kernel_rfl
        exact (show Tryd.prog.wantsStandIn t = false by simpa using List.all_eq_true.1 hall t hm)⟩)
    (by kernel_rfl)
end PolicyTells

end Go.Proofs.YtmjbdjcpjaeemaaDoor
