/-
  DiskApart: whatever two files hold, what is sure of one is not of the other, and a crash by a draw of 0 leaves nothing more: no condition.
-/
import Derived.Test.YtbfcjfeckonklaaDkKnown
namespace Go.Proofs.Ytbfcjfeckonklaa
open Go.ChangeShapes Go.WideShapes Go.ChangeAt Go.RowKit Go.Maps Go.Proofs.DiskMath

theorem ap_seek (x : Nat) (a b : List UInt8) (p q : Nat) : seek (x : Int) [⟨x, a, p⟩, ⟨x + 1, b, q⟩] = some ⟨x, a, p⟩ ∧ seek ((x + 1 : Nat) : Int) [⟨x, a, p⟩, ⟨x + 1, b, q⟩] = some ⟨x + 1, b, q⟩ ∧ seek ((x + 1 : Nat) : Int) [⟨x, a, p⟩] = none ∧ seek (x : Int) [⟨x, a, p⟩] = some ⟨x, a, p⟩ := by
  refine ⟨?_, ?_, ?_, ?_⟩
  · rw [seek_cons, if_pos rfl]
  · rw [seek_cons, if_neg (by simp; omega), seek_cons, if_pos rfl]
  · rw [seek_cons, if_neg (by simp; omega), seek_nil]
  · rw [seek_cons, if_pos rfl]
theorem ap_write (x : Nat) (a b : List UInt8) : write [] x a = [⟨x, a, 0⟩] ∧ write [⟨x, a, 0⟩] (x + 1) b = [⟨x, a, 0⟩, ⟨x + 1, b, 0⟩] ∧ sync [⟨x, a, 0⟩, ⟨x + 1, b, 0⟩] (x : Int) = [⟨x, a, a.length⟩, ⟨x + 1, b, 0⟩] := by
  refine ⟨rfl, ?_, ?_⟩
  · have e1 := (ap_seek x a b 0 0).2.2.1
    rw [write_new e1]
    simp [ins]
  · have e := (ap_seek x a b 0 0).1
    unfold sync
    rw [e]
    simp [ins]
theorem ap_crash (x : Nat) (a b : List UInt8) : crash 0 [⟨x, a, a.length⟩, ⟨x + 1, b, 0⟩] = if a.length = 0 then [] else [⟨x, a, a.length⟩] := by
  simp [crash, crash1, left1, kept1]

set_option linter.unusedSimpArgs false in
set_option maxRecDepth 100000 in
set_option maxHeartbeats 2000000 in
theorem diskApart_walk (A0 A1 : Option Addr) (cs0 cs1 : List UInt8) (cap0 cap1 : Nat) (u : UInt8) (w : World) (b0 : Holds8 w.heap.size w A0 cs0) (b1 : Holds8 w.heap.size w A1 cs1) (x0 : A0 = none → cap0 = 0) (x1 : A1 = none → cap1 = 0) (z0 : cs0.length ≤ 140737488351232) (z1 : cs1.length ≤ 140737488351232) :
    Calls Try.prog 3 #[.slice A0 cs0.length cap0, .slice A1 cs1.length cap1, .int .u8 (u.toNat : Int)] w fun e w' => e = .returned (.bool true) ∧ Below w.heap.size w w' := by
  obtain ⟨n, hn⟩ : ∃ n, cs0.length = n := ⟨_, rfl⟩
  obtain ⟨m, hm⟩ : ∃ m, cs1.length = m := ⟨_, rfl⟩
  obtain ⟨x, hx⟩ : ∃ x, u.toNat = x := ⟨_, rfl⟩
  have hx2 : x ≤ 255 := by have := u.toNat_lt; omega
  rw [hn] at z0 ⊢
  rw [hm] at z1 ⊢
  rw [hx]
  obtain ⟨t, ht⟩ : ∃ t : Nat, (n : Int) + (m : Int) = (t : Int) := ⟨n + m, by omega⟩
  have ht2 : t ≤ 281474976702464 := by omega
  obtain ⟨x2, hx3⟩ : ∃ y : Nat, (x : Int) + 1 = (y : Int) := ⟨x + 1, by omega⟩
  have hx4 : x2 ≤ 256 := by omega
  have HL := Lib.hid (show cs0.length = n ∧ cs1.length = m ∧ x2 = x + 1 from ⟨hn, hm, by omega⟩)
  have HB := Lib.hid (show Holds8 w.heap.size w A0 cs0 ∧ Holds8 w.heap.size w A1 cs1 ∧ (A0 = none → cap0 = 0) ∧ (A1 = none → cap1 = 0) from ⟨b0, b1, x0, x1⟩)
  have HN := Lib.hid (Db.new (Below.refl w.heap.size w))
  have HK := Lib.hid known_any
  clear b0 b1 x0 x1 z0 z1 hn hm hx
  by_cases hbig : 200 < t
  · have t1 : decide ((200 : Int) < (t : Int)) = true := by simp; omega
    have t1n : decide (200 < t) = true := by simp; omega
    clear hbig
    go_enter Try.func3, Try.ntmps3
    go_wp2_with fail
    refine HN.out.mono ?_
    rintro e w1 ⟨S, bs1, rfl, HD1, _⟩
    go_wp2_with fail
    refine (HK.out w1).mono ?_
    rintro e w2 ⟨rfl, HB2⟩
    have HE := Lib.hid ((HD1.out.later HB2.out).2.1)
    clear HN HK HD1 HB2
    go_wp2_with fail
    go_ret
    exact ⟨rfl, HE.out⟩
  · have t1 : decide ((200 : Int) < (t : Int)) = false := by simp; omega
    have t1n : decide (200 < t) = false := by simp; omega
    have hn2 : n ≤ 200 ∧ m ≤ 200 := by omega
    clear hbig
    have HS := Lib.hid (ap_write x cs0 cs1)
    have HS4 := Lib.hid (ap_crash x cs0 cs1)
    obtain ⟨q1, hq1⟩ : ∃ q, q = ([⟨x, cs0, 0⟩] : List Fi) := ⟨_, rfl⟩
    obtain ⟨q2, hq2⟩ : ∃ q, q = ([⟨x, cs0, 0⟩, ⟨x2, cs1, 0⟩] : List Fi) := ⟨_, rfl⟩
    obtain ⟨q3, hq3⟩ : ∃ q, q = ([⟨x, cs0, n⟩, ⟨x2, cs1, 0⟩] : List Fi) := ⟨_, rfl⟩
    have H1 := Lib.hid (show write [] x cs0 = q1 ∧ Bd 200 q1 from ⟨by rw [hq1]; exact HS.out.1, by rw [hq1]; simp [Bd, HL.out.1]; omega⟩)
    have H2 := Lib.hid (show write q1 x2 cs1 = q2 from by rw [hq1, hq2, HL.out.2.2]; exact HS.out.2.1)
    have H3 := Lib.hid (show sync q2 (x : Int) = q3 ∧ (if (seek (x : Int) q2).isSome then 0 else 71) = 0 ∧ Bd 200 q3 from by
      refine ⟨?_, ?_, ?_⟩
      · rw [hq2, hq3, HL.out.2.2, ← HL.out.1]; exact HS.out.2.2
      · rw [hq2, HL.out.2.2, (ap_seek x cs0 cs1 0 0).1]; rfl
      · rw [hq3]; simp [Bd, HL.out.1, HL.out.2.1]; omega)
    have H4 := Lib.hid (show ((seek (x : Int) q3).map (·.sure)).getD 0 = n ∧ ((seek (x2 : Int) q3).map (·.sure)).getD 0 = 0 from by
      rw [hq3, HL.out.2.2]
      rw [(ap_seek x cs0 cs1 n 0).1, (ap_seek x cs0 cs1 n 0).2.1]
      exact ⟨rfl, rfl⟩)
    have H5 := Lib.hid (show crash 0 q3 = if n = 0 then [] else [⟨x, cs0, n⟩] from by rw [hq3, HL.out.2.2, ← HL.out.1]; exact HS4.out)
    clear HS HS4 hq1 hq2 hq3
    have hw1 : IntKind.i64.wrap (x : Int) = (x : Int) := by rw [IntKind.wrap_i64]; omega
    go_enter Try.func3, Try.ntmps3
    go_wp2_with fail
    refine HN.out.mono ?_
    rintro e w1 ⟨S, bs1, rfl, HD1, _⟩
    have HC1 := Lib.hid (HD1.out.write x A0 n cap0 cs0 (HD1.out.src HB.out.1 HB.out.2.2.1) HL.out.1 (by omega) 0 (Bd.nil 0) (by omega) q1 H1.out.1)
    clear HN HD1
    go_wp2_with fail
    refine HC1.out.mono ?_
    rintro e w2 ⟨rfl, bs2, HD2, _⟩
    have HC2 := Lib.hid (HD2.out.write x2 A1 m cap1 cs1 (HD2.out.src HB.out.2.1 HB.out.2.2.2) HL.out.2.1 (by omega) 200 H1.out.2 (by omega) q2 H2.out)
    clear HC1 HD2
    go_wp2_with fail
    refine HC2.out.mono ?_
    rintro e w3 ⟨rfl, bs3, HD3, _⟩
    have HC3 := Lib.hid (HD3.out.sync x (by omega) (by omega) q3 H3.out.1 0 H3.out.2.1)
    clear HC2 HD3
    go_wp2_with fail
    refine HC3.out.mono ?_
    rintro e w4 ⟨rfl, bs4, HD4, _⟩
    have HC4 := Lib.hid (HD4.out.sure x (by omega) (by omega) n H4.out.1)
    have HC5 := Lib.hid (HD4.out.sure x2 (by omega) (by omega) 0 H4.out.2)
    clear HC3
    go_wp2_with fail
    refine HC4.out.mono ?_
    rintro e w' ⟨rfl, rfl⟩
    go_wp2_with fail
    refine HC5.out.mono ?_
    rintro e w' ⟨rfl, rfl⟩
    obtain ⟨q4, hq4⟩ : ∃ q, crash 0 q3 = q := ⟨_, rfl⟩
    have HC6 := Lib.hid (HD4.out.crash 0 (by omega) 200 H3.out.2.2 (by omega) q4 hq4)
    have H6 := Lib.hid (hq4.symm.trans H5.out)
    clear HC4 HC5 HD4 hq4
    go_wp2_with fail
    refine HC6.out.mono ?_
    rintro e w5 ⟨rfl, bs5, HD5, _⟩
    have HC7 := Lib.hid (HD5.out.readNo (x2 : Int) (by omega) (by omega) (by
      rw [H6.out, HL.out.2.2]
      split
      · rfl
      · exact (ap_seek x cs0 cs1 n 0).2.2.1))
    clear HC6
    go_wp2_with fail
    refine HC7.out.mono ?_
    rintro e w' ⟨rfl, rfl⟩
    by_cases h0 : n = 0
    · subst h0
      have HC8 := Lib.hid (HD5.out.readNo (x : Int) (by omega) (by omega) (by rw [H6.out]; rfl))
      clear HC7
      go_wp2_with fail
      refine HC8.out.mono ?_
      rintro e w' ⟨rfl, rfl⟩
      go_wp2_with fail
      refine (HK.out w5).mono ?_
      rintro e w6 ⟨rfl, HB6⟩
      have HE := Lib.hid ((HD5.out.later HB6.out).2.1)
      clear HC8 HD5 HB6 HK
      go_wp2_with fail
      go_ret
      exact ⟨rfl, HE.out⟩
    · have t2 : ((n : Int) == 0) = false := by simp; omega
      have t2n : (n == 0) = false := by simp; omega
      have HC8 := Lib.hid (HD5.out.read (x : Int) (by omega) (by omega) ⟨x, cs0, n⟩ (by rw [H6.out, if_neg h0]; exact (ap_seek x cs0 cs1 n 0).2.2.2) n HL.out.1 (by omega) cs0 rfl)
      have h00 : ¬ (n : Int) = 0 := by omega
      clear HC7 h0
      go_wp2_with fail
      refine HC8.out.mono ?_
      rintro e w6 ⟨g, rfl, HG, HB6, HD6⟩
      go_wp2_with fail
      refine (HK.out w6).mono ?_
      rintro e w7 ⟨rfl, HB7⟩
      have HE := Lib.hid ((HD6.out.later HB7.out).2.1)
      have hc1 := HG.out.text w7 HB7.out
      have hc2 := text_run A0 cs0 n cap0 w7 _ HL.out.1 (HB.out.1.below HE.out)
      clear HC8 HD5 HD6 HB7 HB6 HK HG
      go_wp2_with fail
      go_ret
      exact ⟨rfl, HE.out⟩
namespace DiskApart
set_option linter.unusedSimpArgs false in
set_option maxRecDepth 100000 in
theorem lifted (os : Os) (started : os.Started) (H : Type) (enc : TypeId × Value → H) :
    ReturnsInHanded {} Try.checked os 3 .any (Rows.diskApartSpec.pre6 enc Try.prog Try.f3 Rows.diskApartRow.domain false) (Rows.diskApartSpec.post enc Try.prog Try.f3 false true false false) := by
  refine returnsInHanded_of_change_sized (C := Try.checked) own started (by kernel_rfl) Try.func3
    (ChangeSpec.witness6 (enc := enc) (C := Try.checked) false ⟨#[], #[.slice none 0 0, .slice none 0 0, .int .u8 0], []⟩ 8 (by kernel_rfl) (by kernel_rfl) (by kernel_rfl) (by kernel_rfl)) ?_
  intro W base args ds gs before hval0 hW _ hsz _
  have hval : ∀ (j : Nat) t v, Try.f3.params[j]? = some t → args[j]? = some v → Value.okWide Try.prog W .any base t v := hval0
  have hW' := hW
  obtain ⟨p, q, hA0, hV, rfl, _, _⟩ := hW
  have hA : DataW.TrodAll enc Try.prog W 0 (fun _ => true) true Try.f3.params.toList args.toList ds p := hA0
  rw [Try.params3] at hA hval
  obtain ⟨v0, vs0, d0, ds0, p0, q0, hargs, rfl, rfl, h0, r0⟩ := trodAll_cons hA
  obtain ⟨v1, vs1, d1, ds1, p1, q1, rfl, rfl, rfl, h1, r1⟩ := trodAll_cons r0
  obtain ⟨v2, vs2, d2, ds2, p2, q2, rfl, rfl, rfl, h2, r2⟩ := trodAll_cons r1
  obtain ⟨rfl, rfl, rfl⟩ := trodAll_nil r2
  obtain rfl : args = #[v0, v1, v2] := by cases args; simp_all
  obtain ⟨rfl, rfl⟩ := trodVars_none hV
  obtain ⟨A0, cs0, cap0, rfl, l0, m0, b0, again0⟩ := arg_bytes (hval 0 22 v0 rfl rfl) h0
  have x0 := arg_extra h0
  have z0 := arg_reach hsz x0.2 (j := 0) rfl rfl
  obtain ⟨A1, cs1, cap1, rfl, l1, m1, b1, again1⟩ := arg_bytes (hval 1 22 v1 rfl rfl) h1
  have x1 := arg_extra h1
  have z1 := arg_reach hsz x1.2 (j := 1) rfl rfl
  obtain ⟨a2, rfl, rfl, rfl, w2⟩ := open_int Try.underlying5 (hval 2 5 v2 rfl rfl) h2
  have k2 := wf_u8 w2
  obtain ⟨n2, rfl⟩ : ∃ u : UInt8, a2 = (u.toNat : Int) := ⟨UInt8.ofNat a2.toNat, by simp; omega⟩
  clear hA0 hval0
  simp only [List.append_nil] at hW'
  refine (diskApart_walk A0 A1 cs0 cs1 cap0 cap1 n2 W b0 b1 x0.1 x1.1 z0 z1).mono fun e W' ⟨he, hg⟩ => ?_
  subst he
  exact ⟨_, rfl, true_last hW' rfl (by kernel_rfl) Try.underlying4 rfl rfl rfl (of_decide_eq_true (by kernel_rfl)) hg⟩

/-- **DiskApart, at every input.** -/
theorem proved : Rows.DiskApartSaid :=
  OpenClaim.holds_of_wide 3 Try.f3 rfl rfl rfl rfl rfl rfl rfl ⟨rfl, rfl, rfl, rfl, rfl⟩ rfl rfl rfl rfl rfl (by kernel_rfl) Try.func3 (by kernel_rfl)
    (of_decide_eq_true (by kernel_rfl)) (by unfold Func.isWrapper; first | (rw [if_pos (by decide +kernel)]; kernel_rfl) | (rw [if_neg (by decide +kernel)]; exact ⟨rfl, rfl⟩))
    (fun os started H enc _ => lifted os started H enc)
end DiskApart

end Go.Proofs.Ytbfcjfeckonklaa
