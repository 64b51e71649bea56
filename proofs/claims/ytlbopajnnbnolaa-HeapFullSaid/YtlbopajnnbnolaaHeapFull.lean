/-
  Proved: HeapFull returns true for every number and bytes: as many timers as may be are there, and no more; what was taken out makes room. No condition.
-/
import Derived.Test.YtlbopajnnbnolaaHpLaw
namespace Go.Proofs.Ytlbopajnnbnolaa
open Go.ChangeShapes Go.WideShapes Go.ChangeAt Go.RowKit Go.Maps Go.Proofs.HeapMath

set_option maxRecDepth 100000 in
set_option maxHeartbeats 2000000 in
theorem heapFull_walk (c : UInt8) (A0 : Option Addr) (cs : List UInt8) (cap : Nat) (w : World) (hH : Holds8 w.heap.size w A0 cs) (hcap : cs.length ≤ cap) (hc2 : cap ≤ 9223372036854775807) :
    Calls Try.prog 6 #[.int .u8 (c.toNat : Int), .slice A0 cs.length cap] w fun e w' => e = .returned (.bool true) ∧ Below w.heap.size w w' := by
  obtain ⟨N, hN⟩ : ∃ N, cs.length = N := ⟨_, rfl⟩
  rw [hN] at hcap ⊢
  obtain ⟨m, hm, hm1, hm2⟩ : ∃ m : Nat, (1 : Int) + (c.toNat : Int) % 30 = (m : Int) ∧ 1 ≤ m ∧ m ≤ 30 := ⟨1 + c.toNat % 30, by omega, by omega, by omega⟩
  obtain ⟨hf, hhf, hh2⟩ : ∃ hf : Nat, (m : Int) / 2 = (hf : Int) ∧ hf < m := ⟨m / 2, by omega, by omega⟩
  have hNew := own_new (w₀ := w) (W := w) m (Below.refl _ _) hm1 (by omega)
  have hI : ∀ i, In64 (fB cs i, (i : Int)) ∨ 30 < i := fun i => by
    have := fB_range cs i
    by_cases h : 30 < i
    · exact .inr h
    · exact .inl ⟨by simp only; omega, by simp only; omega⟩
  have hPush : ∀ S bs W k, k < m → Ow w W S m (pushed (fB cs) k) bs → Calls Try.prog 10 #[.pointer (some ⟨S, 0, none⟩), .agg #[.int .i64 (fB cs k), .int .i64 (k : Int)]] W fun e w' => e = .returned (.int .u16 0) ∧ ∃ bs', Hid (Ow w w' S m (pushed (fB cs) (k + 1)) bs') := fun S bs W k hk h =>
    (own_push (fB cs k, (k : Int)) h ((hI k).resolve_right (by omega)) (pushed_not _ _) (by rw [pushed_len]; exact hk)).mono fun e w' ⟨x1, bs', x2⟩ => ⟨x1, bs', Lib.hid x2.out.1⟩
  have hIm : In64 (-1, (m : Int)) := ⟨by simp only; omega, by simp only; omega⟩
  have hFull : ∀ S bs W, Ow w W S m (pushed (fB cs) m) bs → Calls Try.prog 10 #[.pointer (some ⟨S, 0, none⟩), .agg #[.int .i64 (-1), .int .i64 (m : Int)]] W fun e w' => e = .returned (.int .u16 70) ∧ Hid (Ow w w' S m (pushed (fB cs) m) bs) := fun S bs W h =>
    (hpush_full (-1, (m : Int)) W h.1 hIm (pushed_not _ _) (pushed_len _ _)).mono fun e w' ⟨x1, x2⟩ => ⟨x1, Lib.hid (h.later x2)⟩
  have hth := th_all (fB cs) m (th := fun _ => true) (fun _ _ => rfl)
  obtain ⟨s1, hs1⟩ : ∃ s1, del (hf : Int) (pushed (fB cs) m) = s1 := ⟨_, rfl⟩
  have hDrop : ∀ S bs W, Ow w W S m (pushed (fB cs) m) bs → Calls Try.prog 11 #[.pointer (some ⟨S, 0, none⟩), .int .i64 (hf : Int)] W fun e w' => e = .returned (.bool true) ∧ ∃ bs', Hid (Ow w w' S m s1 bs') := fun S bs W h =>
    (own_drop (hf : Int) h (by omega) (by omega)).mono fun e w' ⟨x1, bs', x2⟩ => ⟨by rw [x1, hth.isin hh2], bs', Lib.hid (hs1 ▸ x2.out.1)⟩
  have hth1 := hth.del (k := hf) (th' := fun i => decide (i ≠ hf)) (by simp) (fun i hi => by simp [hi])
  rw [hs1] at hth1
  have hn1 : isin (m : Int) s1 = false := isin_false.2 fun a ha hh => by
    obtain ⟨i, hi, _, rfl⟩ := (hth1 a).1 ha
    simp only at hh
    omega
  have hl1 : s1.length + 1 = m := by
    have h1 := del_len (pushed_so (fB cs) m).2 (hth.isin hh2)
    rwa [hs1, pushed_len] at h1
  have hlt1 : ∀ a ∈ s1, lt a (-1, (m : Int)) = false := fun a ha => by
    obtain ⟨i, hi, _, rfl⟩ := (hth1 a).1 ha
    have := fB_range cs i
    rw [lt_false]
    simp only
    omega
  have hPush2 : ∀ S bs W, Ow w W S m s1 bs → Calls Try.prog 10 #[.pointer (some ⟨S, 0, none⟩), .agg #[.int .i64 (-1), .int .i64 (m : Int)]] W fun e w' => e = .returned (.int .u16 0) ∧ ∃ bs', Hid (Ow w w' S m ((-1, (m : Int)) :: s1) bs') := fun S bs W h =>
    (own_push (-1, (m : Int)) h hIm hn1 (by omega)).mono fun e w' ⟨x1, bs', x2⟩ => ⟨x1, bs', Lib.hid (by rw [← ins_first hlt1]; exact x2.out.1)⟩
  have hFirst : ∀ S bs W, Ow w W S m ((-1, (m : Int)) :: s1) bs → Calls Try.prog 17 #[.pointer (some ⟨S, 0, none⟩)] W fun e w' => e = .returned (.tuple #[.agg #[.int .i64 (-1), .int .i64 (m : Int)], .bool true]) ∧ Below W.heap.size W w' := fun S bs W h => hfirst_any W h.1
  have hLen : ∀ S bs W, Ow w W S m ((-1, (m : Int)) :: s1) bs → Calls Try.prog 12 #[.pointer (some ⟨S, 0, none⟩)] W fun e w' => e = .returned (.int .i64 (m : Int)) ∧ W = w' := fun S bs W h => by
    have := own_len h
    rwa [List.length_cons, hl1] at this
  have hn2 : isin (hf : Int) ((-1, (m : Int)) :: s1) = false := isin_false.2 fun a ha hh => by
    rcases List.mem_cons.1 ha with rfl | ha
    · simp only at hh; omega
    · obtain ⟨i, hi, h1, rfl⟩ := (hth1 a).1 ha
      simp at h1 hh
      omega
  have hDrop2 : ∀ S bs W, Ow w W S m ((-1, (m : Int)) :: s1) bs → Calls Try.prog 11 #[.pointer (some ⟨S, 0, none⟩), .int .i64 (hf : Int)] W fun e w' => e = .returned (.bool false) ∧ W = w' := fun S bs W h => hdrop_no (hf : Int) W h.1 (by omega) (by omega) hn2
  have HNEW := Lib.hid hNew
  have HPUSH := Lib.hid hPush
  have HFULL := Lib.hid hFull
  have HDROP := Lib.hid hDrop
  have HPUSH2 := Lib.hid hPush2
  have HFIRST := Lib.hid hFirst
  have HLEN := Lib.hid hLen
  have HDROP2 := Lib.hid hDrop2
  have HH := Lib.hid hH
  have HN := Lib.hid hN
  clear hNew hPush hFull hDrop hPush2 hFirst hLen hDrop2 hH hN hI hth hth1 hn1 hn2 hl1 hlt1 hs1 hIm
  go_enter Try.func6, Try.ntmps6
  go_wp2_with fail
  refine HNEW.out.mono ?_
  rintro e w1 ⟨S, bs, rfl, HO⟩
  go_wp2_with fail
  go_loopw [7] (fun kv wr => ∃ k : Nat, k ≤ m ∧ kv = .int .i64 (k : Int) ∧ Hid (∃ bs, Ow w wr S m (pushed (fB cs) k) bs)) (fun kv _ => m - (intOf kv).toNat)
  case atStart => exact ⟨0, by omega, rfl, Lib.hid ⟨bs, HO.out.1⟩⟩
  case round =>
    clear HO
    obtain ⟨k, hk, rfl, HR⟩ := hrel
    obtain ⟨bs, hO⟩ := HR.out
    by_cases hlt : k < m
    · have dl : decide ((k : Int) < (m : Int)) = true := by simp; omega
      have hP := HPUSH.out S bs wr k hlt hO
      by_cases hin : k < N
      · have d2 : decide ((k : Int) < (N : Int)) = true := by simp; omega
        obtain ⟨b0, o0, rfl, hb0, hc0⟩ := HH.out (by rw [HN.out]; omega)
        have hcell := (hO.2.1.cell (p := ⟨b0, o0 + k, none⟩) hb0).trans (hc0 k (by rw [HN.out]; exact hin))
        have hval : fB cs k = ((cs.getD k 0).toNat : Int) := rfl
        obtain ⟨x, hx⟩ : ∃ x : UInt8, cs.getD k 0 = x := ⟨_, rfl⟩
        rw [hval, hx] at hP
        rw [hx] at hcell
        have hcell' : wr.cell? ⟨b0, o0 + k, none⟩ = some (.int .u8 (x.toNat : Int)) := hcell
        have hx1 := x.toNat_lt
        have HP := Lib.hid hP
        clear hP hcell hval hx hc0 hO HR
        go_wp2_with fail
        refine HP.out.mono ?_
        rintro e w2 ⟨rfl, bs2, H2⟩
        go_wp2_with fail
        go_roundw
        case rel => exact ⟨k + 1, by omega, by go_num, Lib.hid ⟨bs2, H2.out⟩⟩
        case measure => simp [intOf]; omega
      · have d2 : decide ((k : Int) < (N : Int)) = false := by simp; omega
        have hval : fB cs k = 0 := by
          unfold fB
          have : cs.getD k 0 = 0 := by
            have := HN.out
            simp [List.getD, Nat.le_of_not_lt (by omega : ¬ k < cs.length)]
          rw [this]; rfl
        rw [hval] at hP
        have HP := Lib.hid hP
        clear hP hval hO HR
        go_wp2_with fail
        refine HP.out.mono ?_
        rintro e w2 ⟨rfl, bs2, H2⟩
        go_wp2_with fail
        go_roundw
        case rel => exact ⟨k + 1, by omega, by go_num, Lib.hid ⟨bs2, H2.out⟩⟩
        case measure => simp [intOf]; omega
    · obtain rfl : k = m := by omega
      have dl : decide ((k : Int) < (k : Int)) = false := by simp
      have HO := Lib.hid hO
      clear hO HR
      go_wp2_with fail
      refine (HFULL.out _ _ _ HO.out).mono ?_
      rintro e w2 ⟨rfl, H2⟩
      go_wp2_with fail
      refine (HDROP.out _ _ _ H2.out).mono ?_
      rintro e w3 ⟨rfl, bs3, H3⟩
      go_wp2_with fail
      refine (HPUSH2.out _ _ _ H3.out).mono ?_
      rintro e w4 ⟨rfl, bs4, H4⟩
      go_wp2_with fail
      refine (HFIRST.out _ _ _ H4.out).mono ?_
      rintro e w5 ⟨rfl, hb5⟩
      have H5 := Lib.hid (H4.out.later hb5)
      clear hb5 H4 H3 H2 HO
      obtain ⟨n5, hn5⟩ : ∃ n5, w5.heap.size = n5 := ⟨_, rfl⟩
      have hk5 := blk_new w5 #[.int .i64 (-1), .int .i64 (k : Int)] 31
      have h5a := H5.out.later (box_below (.cells #[.int .i64 (-1), .int .i64 (k : Int)] 31))
      rw [hn5] at hk5
      have HK5 := Lib.hid hk5
      have H5A := Lib.hid h5a
      clear hk5 h5a H5
      go_wp2_with fail
      refine (known_any _).mono ?_
      rintro e w6 ⟨rfl, hb6⟩
      have hk6 := HK5.out.later hb6
      have h6 := H5A.out.later hb6
      have k0 := hk6.cell 0 rfl
      have k1 := hk6.cell 1 rfl
      have H6 := Lib.hid h6
      clear hk6 h6 HK5 H5A hb6
      go_wp2_with fail
      refine (HLEN.out _ _ _ H6.out).mono ?_
      rintro e w7 ⟨rfl, rfl⟩
      go_wp2_with fail
      refine (HDROP2.out _ _ _ H6.out).mono ?_
      rintro e w7 ⟨rfl, rfl⟩
      go_wp2_with fail
      go_ret
      exact ⟨rfl, H6.out.2.1⟩
namespace HeapFull
set_option linter.unusedSimpArgs false in
set_option maxRecDepth 100000 in
theorem lifted (os : Os) (started : os.Started) (H : Type) (enc : TypeId × Value → H) :
    ReturnsInHanded {} Try.checked os 6 .any (Rows.heapFullSpec.pre6 enc Try.prog Try.f6 Rows.heapFullRow.domain false) (Rows.heapFullSpec.post enc Try.prog Try.f6 false true false false) := by
  refine returnsInHanded_of_change (C := Try.checked) own started (by kernel_rfl) Try.func6
    (ChangeSpec.witness6 (enc := enc) (C := Try.checked) false ⟨#[], #[.int .u8 0, .slice none 0 0], []⟩ 8 (by kernel_rfl) (by kernel_rfl) (by kernel_rfl) (by kernel_rfl)) ?_
  intro W base args ds gs before hval0 hW _ _
  have hval : ∀ (j : Nat) t v, Try.f6.params[j]? = some t → args[j]? = some v → Value.okWide Try.prog W .any base t v := hval0
  have hW' := hW
  obtain ⟨p, q, hA0, hV, rfl, _, _⟩ := hW
  have hA : DataW.TrodAll enc Try.prog W 0 (fun _ => true) true Try.f6.params.toList args.toList ds p := hA0
  rw [Try.params6] at hA hval
  obtain ⟨v0, vs0, d0, ds0, p0, q0, hargs, rfl, rfl, h0, r0⟩ := trodAll_cons hA
  obtain ⟨v1, vs1, d1, ds1, p1, q1, rfl, rfl, rfl, h1, r1⟩ := trodAll_cons r0
  obtain ⟨rfl, rfl, rfl⟩ := trodAll_nil r1
  obtain rfl : args = #[v0, v1] := by cases args; simp_all
  obtain ⟨rfl, rfl⟩ := trodVars_none hV
  obtain ⟨a0, rfl, rfl, rfl, w0⟩ := open_int Try.underlying5 (hval 0 5 v0 rfl rfl) h0
  have k0 := wf_u8 w0
  obtain ⟨n0, rfl⟩ : ∃ u : UInt8, a0 = (u.toNat : Int) := ⟨UInt8.ofNat a0.toNat, by simp; omega⟩
  obtain ⟨A1, cs1, cap1, rfl, l1, m1, b1, again1⟩ := arg_bytes (hval 1 22 v1 rfl rfl) h1
  have x1 := arg_extra h1
  clear hA0 hval0
  simp only [List.append_nil] at hW'
  refine (heapFull_walk n0 A1 cs1 cap1 W b1 l1 m1).mono fun e W' ⟨he, hg⟩ => ?_
  subst he
  exact ⟨_, rfl, true_last hW' rfl (by kernel_rfl) Try.underlying4 rfl rfl rfl (of_decide_eq_true (by kernel_rfl)) hg⟩

/-- **HeapFull, at every input.** -/
theorem proved : Rows.HeapFullSaid :=
  OpenClaim.holds_of_wide 6 Try.f6 rfl rfl rfl rfl rfl rfl rfl ⟨rfl, rfl, rfl, rfl, rfl⟩ rfl rfl rfl rfl rfl (by kernel_rfl) Try.func6 (by kernel_rfl)
    (of_decide_eq_true (by kernel_rfl)) (by unfold Func.isWrapper; first | (rw [if_pos (by decide +kernel)]; kernel_rfl) | (rw [if_neg (by decide +kernel)]; exact ⟨rfl, rfl⟩))
    (fun os started H enc _ => lifted os started H enc)
end HeapFull

end Go.Proofs.Ytlbopajnnbnolaa
