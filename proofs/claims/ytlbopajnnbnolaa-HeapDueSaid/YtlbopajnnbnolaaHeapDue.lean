/-
  Proved: HeapDue returns true for every bytes and time: what is due is not there then, and what is not due is. No condition.
-/
import Derived.Test.YtlbopajnnbnolaaBytes0
import Derived.Test.YtlbopajnnbnolaaHpLaw
namespace Go.Proofs.Ytlbopajnnbnolaa
open Go.ChangeShapes Go.WideShapes Go.ChangeAt Go.RowKit Go.Maps Go.Proofs.HeapMath

set_option maxRecDepth 100000 in
set_option maxHeartbeats 2000000 in
theorem heapDue_walk (A0 : Option Addr) (cs : List UInt8) (cap : Nat) (c : UInt8) (w : World) (hH : Holds8 w.heap.size w A0 cs) (hcap : cs.length ≤ cap) :
    Calls Try.prog 7 #[.slice A0 cs.length cap, .int .u8 (c.toNat : Int)] w fun e w' => e = .returned (.bool true) ∧ Below w.heap.size w w' := by
  obtain ⟨N, hN⟩ : ∃ N, cs.length = N := ⟨_, rfl⟩
  rw [hN] at hcap ⊢
  have hc3 := c.toNat_lt
  obtain ⟨now, hnow⟩ : ∃ now, c.toNat = now := ⟨_, rfl⟩
  rw [hnow] at hc3 ⊢
  have HH := Lib.hid hH
  have HN := Lib.hid hN
  clear hH hN hnow
  by_cases hbig : 100 < N
  · have d1 : decide ((100 : Int) < (N : Int)) = true := by simp; omega
    go_enter Try.func7, Try.ntmps7
    go_wp2_with fail
    refine (known_any _).mono ?_
    rintro e w1 ⟨rfl, hb⟩
    have HB := Lib.hid hb
    clear hb
    go_wp2_with fail
    go_ret
    exact ⟨rfl, HB.out⟩
  have d1 : decide ((100 : Int) < (N : Int)) = false := by simp; omega
  have hNew : ∀ W, Below w.heap.size w W → _ := fun W hb => own_new (w₀ := w) (W := W) 100 hb (by omega) (by omega)
  have hPush : ∀ S bs W k, k < N → Ow w W S 100 (pushed (fB cs) k) bs → Calls Try.prog 10 #[.pointer (some ⟨S, 0, none⟩), .agg #[.int .i64 (fB cs k), .int .i64 (k : Int)]] W fun e w' => e = .returned (.int .u16 0) ∧ ∃ bs', Hid (Ow w w' S 100 (pushed (fB cs) (k + 1)) bs') := fun S bs W k hk h =>
    (own_push (fB cs k, (k : Int)) h ⟨by have := fB_range cs k; simp only; omega, by simp only; omega⟩ (pushed_not _ _) (by rw [pushed_len]; omega)).mono fun e w' ⟨x1, bs', x2⟩ => ⟨x1, bs', Lib.hid x2.out.1⟩
  obtain ⟨q, hq⟩ : ∃ q, cd (fB cs) (now : Int) N = q := ⟨_, rfl⟩
  have hqN : q ≤ N := hq ▸ cd_le _ _ _
  obtain ⟨L, hL⟩ : ∃ L, lateOf (now : Int) (pushed (fB cs) N) = L := ⟨_, rfl⟩
  have hdl : (dueOf (now : Int) (pushed (fB cs) N)).length = q := by rw [so_due (pushed_so _ _).1, cd_count, hq]
  have hll : L.length + q = N := by
    have := due_late (now : Int) (pushed (fB cs) N)
    rw [hdl, hL, pushed_len] at this
    omega
  have hlf : ∀ t r, L = t :: r → (now : Int) < t.1 := fun t r e => late_first (hL.trans e)
  have hDue : ∀ S bs W, Ow w W S 100 (pushed (fB cs) N) bs → Calls Try.prog 21 #[.pointer (some ⟨S, 0, none⟩), .int .i64 (now : Int)] W fun e w' => ∃ A bs', e = .returned (.slice A q q) ∧ Hid (Ow w w' S 100 L bs') := fun S bs W h =>
    (own_due (now : Int) h).mono fun e w' ⟨A, bs', x1, x2⟩ => ⟨A, bs', by rw [x1, hdl], Lib.hid (hL ▸ x2.out.2.1)⟩
  have hFirst : ∀ S bs W, Ow w W S 100 L bs → _ := fun S bs W h => own_first (w₀ := w) (W := W) (S := S) (most := 100) (s := L) (bs := bs) h
  have hLen : ∀ S bs W, Ow w W S 100 L bs → Calls Try.prog 12 #[.pointer (some ⟨S, 0, none⟩)] W fun e w' => e = .returned (.int .i64 (L.length : Int)) ∧ W = w' := fun S bs W h => own_len h
  obtain ⟨x, hx⟩ : ∃ x, L.length = x := ⟨_, rfl⟩
  rw [hx] at hll hLen
  obtain ⟨ne, hne⟩ : ∃ ne, (!L.isEmpty) = ne := ⟨_, rfl⟩
  rw [hne] at hFirst
  have hne2 : ne = decide (q < N) := by
    rw [← hne]
    cases L with
    | nil => simp at hx; simp; omega
    | cons t r => simp at hx; simp; omega
  have hne3 : ne = true → ∃ t r, L = t :: r := fun h => by
    rw [← hne] at h
    cases L with
    | nil => simp at h
    | cons t r => exact ⟨t, r, rfl⟩
  have HNEW := Lib.hid hNew
  have HPUSH := Lib.hid hPush
  have HDUE := Lib.hid hDue
  have HFIRST := Lib.hid hFirst
  have HLEN := Lib.hid hLen
  have HQ := Lib.hid hq
  have HL := Lib.hid (show (∀ t r, L = t :: r → (now : Int) < t.1) ∧ (ne = true → ∃ t r, L = t :: r) from ⟨hlf, hne3⟩)
  have HX := Lib.hid (show ne = decide (q < N) ∧ x + q = N from ⟨hne2, hll⟩)
  clear hNew hPush hDue hFirst hLen hq hlf hne3 hne2 hll hne hx hdl hL
  go_enter Try.func7, Try.ntmps7
  go_wp2_with fail
  refine (known_any _).mono ?_
  rintro e w1 ⟨rfl, hb⟩
  have HB := Lib.hid hb
  clear hb
  go_wp2_with fail
  refine (HNEW.out _ HB.out).mono ?_
  rintro e w2 ⟨S, bs, rfl, HO⟩
  go_wp2_with fail
  go_loopw [6, 7] (fun mv kv wr => ∃ k y : Nat, k ≤ N ∧ kv = .int .i64 (k : Int) ∧ mv = .int .i64 (y : Int) ∧ y ≤ k ∧ Hid (y = cd (fB cs) (now : Int) k) ∧ Hid (∃ bs, Ow w wr S 100 (pushed (fB cs) k) bs)) (fun _ kv _ => N - (intOf kv).toNat)
  case atStart => exact ⟨0, 0, by omega, rfl, rfl, by omega, rfl, Lib.hid ⟨bs, HO.out.1⟩⟩
  case round =>
    clear HO HB HNEW
    obtain ⟨k, y, hk, rfl, rfl, hyk, HY, HR⟩ := hrel
    obtain ⟨bs, hO⟩ := HR.out
    by_cases hlt : k < N
    · have dl : decide ((k : Int) < (N : Int)) = true := by simp; omega
      have hP := HPUSH.out S bs wr k hlt hO
      obtain ⟨b0, o0, rfl, hb0, hc0⟩ := HH.out (by rw [HN.out]; omega)
      have hc1 := hc0 k (by rw [HN.out]; exact hlt)
      have hcell := (hO.2.1.cell (p := ⟨b0, o0 + k, none⟩) hb0).trans hc1
      have hval : fB cs k = ((cs.getD k 0).toNat : Int) := rfl
      have hcd : cd (fB cs) (now : Int) (k + 1) = if fB cs k ≤ (now : Int) then cd (fB cs) (now : Int) k + 1 else cd (fB cs) (now : Int) k := rfl
      obtain ⟨x, hx⟩ : ∃ x : UInt8, cs.getD k 0 = x := ⟨_, rfl⟩
      rw [hval, hx] at hP
      rw [hval, hx, ← HY.out] at hcd
      rw [hx] at hcell hc1
      have hx1 := x.toNat_lt
      obtain ⟨z, hz⟩ : ∃ z, x.toNat = z := ⟨_, rfl⟩
      rw [hz] at hP hcd hx1
      have hc1' : w.cell? ⟨b0, o0 + k, none⟩ = some (.int .u8 (z : Int)) := by rw [← hz]; exact hc1
      have hcell' : wr.cell? ⟨b0, o0 + k, none⟩ = some (.int .u8 (z : Int)) := by rw [← hz]; exact hcell
      have HP := Lib.hid hP
      have HC := Lib.hid hcd
      have HC1 := Lib.hid (show w.cell? ⟨b0, o0 + k, none⟩ = some (.int .u8 (z : Int)) ∧ b0 < w.heap.size from ⟨hc1', hb0⟩)
      clear hP hcell hval hx hc0 hc1 hc1' hO HR hz hcd
      go_wp2_with fail
      refine HP.out.mono ?_
      rintro e w3 ⟨rfl, bs2, H2⟩
      have hcell2 : w3.cell? ⟨b0, o0 + k, none⟩ = some (.int .u8 (z : Int)) := (H2.out.2.1.cell (p := ⟨b0, o0 + k, none⟩) HC1.out.2).trans HC1.out.1
      by_cases hzn : z ≤ now
      · have dz : decide ((z : Int) ≤ (now : Int)) = true := by simp; omega
        have dz2 : decide (z ≤ now) = true := by simp; omega
        go_wp2_with fail
        go_roundw
        case rel => exact ⟨k + 1, y + 1, by omega, by go_num, by go_num, by omega, Lib.hid (by rw [HC.out, if_pos (by omega)]), Lib.hid ⟨bs2, H2.out⟩⟩
        case measure => simp [intOf]; omega
      · have dz : decide ((z : Int) ≤ (now : Int)) = false := by simp; omega
        have dz2 : decide (z ≤ now) = false := by simp; omega
        go_wp2_with fail
        go_roundw
        case rel => exact ⟨k + 1, y, by omega, by go_num, rfl, by omega, Lib.hid (by rw [HC.out, if_neg (by omega)]), Lib.hid ⟨bs2, H2.out⟩⟩
        case measure => simp [intOf]; omega
    · obtain rfl : k = N := by omega
      have dl : decide ((k : Int) < (k : Int)) = false := by simp
      obtain rfl : y = q := HY.out.trans HQ.out
      have HO := Lib.hid hO
      clear hO HR HY HQ HPUSH
      go_wp2_with fail
      refine (HDUE.out _ _ _ HO.out).mono ?_
      rintro e w3 ⟨A, bs3, rfl, H3⟩
      go_wp2_with fail
      refine (HFIRST.out _ _ _ H3.out).mono ?_
      rintro e w4 ⟨a, b, rfl, H4⟩
      have h4 := H3.out.later H4.out.1
      have h5 := h4.later (box_below (.cells #[.int .i64 a, .int .i64 b] 31))
      have hk4 := blk_new w4 #[.int .i64 a, .int .i64 b] 31
      have hL5 := HLEN.out _ _ _ h5
      obtain ⟨n4, hn4⟩ : ∃ n4, w4.heap.size = n4 := ⟨_, rfl⟩
      rw [hn4] at hk4
      have k0 := hk4.cell 0 rfl
      have H5 := Lib.hid h5
      have HL5 := Lib.hid hL5
      have hx2 : (k : Int) - (y : Int) = (x : Int) := by have := HX.out.2; omega
      have hafter : ne = true → (now : Int) < a := fun h => by
        obtain ⟨t, r, e⟩ := HL.out.2 h
        have h1 := HL.out.1 t r e
        rw [H4.out.2 t r e] at h1
        exact h1
      have hne := HX.out.1
      clear h4 h5 hk4 hL5 HO H3
      cases ne with
      | true =>
        have hyk2 : y < k := by simpa using hne.symm
        have dy : decide ((y : Int) < (k : Int)) = true := by simp; omega
        have dy2 : decide (y < k) = true := by simp; omega
        have han := hafter rfl
        have da : decide ((now : Int) < a) = true := by simp; omega
        clear hne hafter
        go_wp2_with fail
        refine HL5.out.mono ?_
        rintro e w' ⟨rfl, rfl⟩
        go_wp2_with fail
        go_ret
        exact ⟨rfl, H5.out.2.1⟩
      | false =>
        have hyk2 : ¬ y < k := by simpa using hne.symm
        have dy : decide ((y : Int) < (k : Int)) = false := by simp; omega
        have dy2 : decide (y < k) = false := by simp; omega
        clear hne hafter
        go_wp2_with fail
        refine HL5.out.mono ?_
        rintro e w' ⟨rfl, rfl⟩
        go_wp2_with fail
        go_ret
        exact ⟨rfl, H5.out.2.1⟩
namespace HeapDue
set_option linter.unusedSimpArgs false in
set_option maxRecDepth 100000 in
theorem lifted (os : Os) (started : os.Started) (H : Type) (enc : TypeId × Value → H) :
    ReturnsInHanded {} Try.checked os 7 .any (Rows.heapDueSpec.pre6 enc Try.prog Try.f7 Rows.heapDueRow.domain false) (Rows.heapDueSpec.post enc Try.prog Try.f7 false true false false) := by
  refine returnsInHanded_of_change (C := Try.checked) own started (by kernel_rfl) Try.func7
    (ChangeSpec.witness6 (enc := enc) (C := Try.checked) false ⟨#[], #[.slice none 0 0, .int .u8 0], []⟩ 8 (by kernel_rfl) (by kernel_rfl) (by kernel_rfl) (by kernel_rfl)) ?_
  intro W base args ds gs before hval0 hW _ _
  have hval : ∀ (j : Nat) t v, Try.f7.params[j]? = some t → args[j]? = some v → Value.okWide Try.prog W .any base t v := hval0
  have hW' := hW
  obtain ⟨p, q, hA0, hV, rfl, _, _⟩ := hW
  have hA : DataW.TrodAll enc Try.prog W 0 (fun _ => true) true Try.f7.params.toList args.toList ds p := hA0
  rw [Try.params7] at hA hval
  obtain ⟨v0, vs0, d0, ds0, p0, q0, hargs, rfl, rfl, h0, r0⟩ := trodAll_cons hA
  obtain ⟨v1, vs1, d1, ds1, p1, q1, rfl, rfl, rfl, h1, r1⟩ := trodAll_cons r0
  obtain ⟨rfl, rfl, rfl⟩ := trodAll_nil r1
  obtain rfl : args = #[v0, v1] := by cases args; simp_all
  obtain ⟨rfl, rfl⟩ := trodVars_none hV
  obtain ⟨A0, cs0, cap0, rfl, l0, m0, b0, again0⟩ := arg_bytes (hval 0 22 v0 rfl rfl) h0
  have x0 := arg_extra h0
  obtain ⟨a1, rfl, rfl, rfl, w1⟩ := open_int Try.underlying5 (hval 1 5 v1 rfl rfl) h1
  have k1 := wf_u8 w1
  obtain ⟨n1, rfl⟩ : ∃ u : UInt8, a1 = (u.toNat : Int) := ⟨UInt8.ofNat a1.toNat, by simp; omega⟩
  clear hA0 hval0
  simp only [List.append_nil] at hW'
  refine (heapDue_walk A0 cs0 cap0 n1 W b0 l0).mono fun e W' ⟨he, hg⟩ => ?_
  subst he
  exact ⟨_, rfl, true_last hW' rfl (by kernel_rfl) Try.underlying4 rfl rfl rfl (of_decide_eq_true (by kernel_rfl)) hg⟩

/-- **HeapDue, at every input.** -/
theorem proved : Rows.HeapDueSaid :=
  OpenClaim.holds_of_wide 7 Try.f7 rfl rfl rfl rfl rfl rfl rfl ⟨rfl, rfl, rfl, rfl, rfl⟩ rfl rfl rfl rfl rfl (by kernel_rfl) Try.func7 (by kernel_rfl)
    (of_decide_eq_true (by kernel_rfl)) (by unfold Func.isWrapper; first | (rw [if_pos (by decide +kernel)]; kernel_rfl) | (rw [if_neg (by decide +kernel)]; exact ⟨rfl, rfl⟩))
    (fun os started H enc _ => lifted os started H enc)
end HeapDue

end Go.Proofs.Ytlbopajnnbnolaa
