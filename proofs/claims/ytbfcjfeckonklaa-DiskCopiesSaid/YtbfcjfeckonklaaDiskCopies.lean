/-
  DiskCopies: what is done to a copy the first one does not know, and what is read is new memory: whatever the bytes; no condition.
-/
import Derived.Test.YtbfcjfeckonklaaDkTwo
namespace Go.Proofs.Ytbfcjfeckonklaa
open Go.ChangeShapes Go.WideShapes Go.ChangeAt Go.RowKit Go.Maps Go.Proofs.DiskMath

theorem co_math (a b : List UInt8) : write [] 1 a = [⟨1, a, 0⟩] ∧ write [⟨1, a, 0⟩] 1 b = [⟨1, a ++ b, 0⟩] ∧ sync [⟨1, a ++ b, 0⟩] 1 = [⟨1, a ++ b, (a ++ b).length⟩] ∧ seek 1 [⟨1, a, 0⟩] = some ⟨1, a, 0⟩ := ⟨rfl, rfl, rfl, rfl⟩

set_option linter.unusedSimpArgs false in
set_option maxRecDepth 100000 in
set_option maxHeartbeats 2000000 in
theorem diskCopies_walk (A0 A1 : Option Addr) (cs0 cs1 : List UInt8) (cap0 cap1 : Nat) (w : World) (b0 : Holds8 w.heap.size w A0 cs0) (b1 : Holds8 w.heap.size w A1 cs1) (x0 : A0 = none → cap0 = 0) (x1 : A1 = none → cap1 = 0) (z0 : cs0.length ≤ 140737488351232) (z1 : cs1.length ≤ 140737488351232) :
    Calls Try.prog 7 #[.slice A0 cs0.length cap0, .slice A1 cs1.length cap1] w fun e w' => e = .returned (.bool true) ∧ Below w.heap.size w w' := by
  obtain ⟨n, hn⟩ : ∃ n, cs0.length = n := ⟨_, rfl⟩
  obtain ⟨m, hm⟩ : ∃ m, cs1.length = m := ⟨_, rfl⟩
  rw [hn] at z0 ⊢
  rw [hm] at z1 ⊢
  obtain ⟨t, ht⟩ : ∃ t : Nat, (n : Int) + (m : Int) = (t : Int) := ⟨n + m, by omega⟩
  have ht2 : t ≤ 281474976702464 := by omega
  have HL := Lib.hid (show cs0.length = n ∧ cs1.length = m from ⟨hn, hm⟩)
  have HB := Lib.hid (show Holds8 w.heap.size w A0 cs0 ∧ Holds8 w.heap.size w A1 cs1 ∧ (A0 = none → cap0 = 0) ∧ (A1 = none → cap1 = 0) from ⟨b0, b1, x0, x1⟩)
  have HN := Lib.hid (Db.new (Below.refl w.heap.size w))
  have HK := Lib.hid known_any
  clear b0 b1 x0 x1 z0 z1 hn hm
  obtain ⟨c1, hc1⟩ : ∃ c, ((n : Int) == 0) = c := ⟨_, rfl⟩
  have hc1n : (n == 0) = c1 := by
    rw [← hc1]
    by_cases h : n = 0
    · subst h; rfl
    · rw [beq_eq_false_iff_ne.2 h, beq_eq_false_iff_ne.2 (by omega)]
  obtain ⟨c2, hc2⟩ : ∃ c, decide ((300 : Int) < (t : Int)) = c := ⟨_, rfl⟩
  have hc2n : decide (300 < t) = c2 := by rw [← hc2]; exact decide_eq_decide.2 (by omega)
  by_cases hbig : c1 = true ∨ c2 = true
  · have HBG := Lib.hid hbig
    clear hbig
    go_enter Try.func7, Try.ntmps7
    go_wp2_with fail
    refine HN.out.mono ?_
    rintro e w1 ⟨S, bs1, rfl, HD1, _⟩
    have hor : (c1 || c2) = true := by
      rcases HBG.out with h | h <;> simp [h]
    cases c1 with
    | true =>
      go_wp2_with fail
      refine (HK.out w1).mono ?_
      rintro e w2 ⟨rfl, HB2⟩
      have HE := Lib.hid ((HD1.out.later HB2.out).2.1)
      clear HN HK HD1 HB2
      go_wp2_with fail
      go_ret
      exact ⟨rfl, HE.out⟩
    | false =>
      cases c2 with
      | false => cases hor
      | true =>
        go_wp2_with fail
        refine (HK.out w1).mono ?_
        rintro e w2 ⟨rfl, HB2⟩
        have HE := Lib.hid ((HD1.out.later HB2.out).2.1)
        clear HN HK HD1 HB2
        go_wp2_with fail
        go_ret
        exact ⟨rfl, HE.out⟩
  · obtain rfl : c1 = false := by cases c1 <;> simp_all
    obtain rfl : c2 = false := by cases c2 <;> simp_all
    have hnp : 0 < n := by
      have : ¬ n = 0 := by simpa using hc1n
      omega
    have ht3 : n + m ≤ 300 := by have : ¬ 300 < t := (by simpa using hc2n); omega
    have h00 : ¬ (n : Int) = 0 := by omega
    clear hbig
    have HS := Lib.hid (co_math cs0 cs1)
    obtain ⟨q1, hq1⟩ : ∃ q, q = ([⟨1, cs0, 0⟩] : List Fi) := ⟨_, rfl⟩
    obtain ⟨q2, hq2⟩ : ∃ q, q = ([⟨1, cs0 ++ cs1, 0⟩] : List Fi) := ⟨_, rfl⟩
    obtain ⟨q3, hq3⟩ : ∃ q, q = ([⟨1, cs0 ++ cs1, (cs0 ++ cs1).length⟩] : List Fi) := ⟨_, rfl⟩
    have H1 := Lib.hid (show write [] 1 cs0 = q1 ∧ Bd 300 q1 ∧ seek 1 q1 = some ⟨1, cs0, 0⟩ ∧ q1.length = 1 from ⟨by rw [hq1]; rfl, by rw [hq1]; simp [Bd, HL.out.1]; omega, by rw [hq1]; rfl, by rw [hq1]; rfl⟩)
    have H2 := Lib.hid (show write q1 1 cs1 = q2 from by rw [hq1, hq2]; rfl)
    have H3 := Lib.hid (show sync q2 1 = q3 ∧ (if (seek 1 q2).isSome then 0 else 71) = 0 ∧ Bd 300 q3 from by
      refine ⟨by rw [hq2, hq3]; rfl, by rw [hq2]; rfl, ?_⟩
      rw [hq3]; simp [Bd, HL.out.1, HL.out.2]; omega)
    obtain ⟨q4, hq4⟩ : ∃ q, write q3 2 cs1 = q := ⟨_, rfl⟩
    have H4 := Lib.hid hq4
    clear HS hq1 hq2 hq3 hq4
    go_enter Try.func7, Try.ntmps7
    go_wp2_with fail
    refine HN.out.mono ?_
    rintro e w1 ⟨S, bs1, rfl, HD1, _⟩
    have HC1 := Lib.hid (HD1.out.write 1 A0 n cap0 cs0 (HD1.out.src HB.out.1 HB.out.2.2.1) HL.out.1 (by omega) 0 (Bd.nil 0) (by omega) q1 H1.out.1)
    clear HN HD1
    go_wp2_with fail
    refine HC1.out.mono ?_
    rintro e w2 ⟨rfl, bs2, HD2, _⟩
    have HC2 := Lib.hid (HD2.out.two 300 H1.out.2.1 (by omega))
    clear HC1 HD2
    go_wp2_with fail
    refine HC2.out.mono ?_
    rintro e w3 ⟨S2, rfl, HT3⟩
    have HC3 := Lib.hid (HT3.out.write 1 A1 m cap1 cs1 HB.out.2.1 HB.out.2.2.2 HL.out.2 (by omega) 300 H1.out.2.1 (by omega) q2 H2.out)
    clear HC2 HT3
    go_wp2_with fail
    refine HC3.out.mono ?_
    rintro e w4 ⟨rfl, HT4⟩
    have HC4 := Lib.hid (HT4.out.sync 1 (by omega) (by omega) q3 H3.out.1 0 H3.out.2.1)
    clear HC3 HT4
    go_wp2_with fail
    refine HC4.out.mono ?_
    rintro e w5 ⟨rfl, HT5⟩
    have HC5 := Lib.hid (HT5.out.write 2 A1 m cap1 cs1 HB.out.2.1 HB.out.2.2.2 HL.out.2 (by omega) 300 H3.out.2.2 (by omega) q4 H4.out)
    clear HC4 HT5
    go_wp2_with fail
    refine HC5.out.mono ?_
    rintro e w6 ⟨rfl, HT6⟩
    obtain ⟨bs6, _, hd6, _, _⟩ := HT6.out
    have HD6 := Lib.hid hd6
    have HC6 := Lib.hid (hd6.read 1 (by omega) (by omega) ⟨1, cs0, 0⟩ H1.out.2.2.1 n HL.out.1 (by omega) cs0 rfl)
    clear HC5 HT6 hd6
    go_wp2_with fail
    refine HC6.out.mono ?_
    rintro e w7 ⟨g, rfl, HG, HB7, HD7⟩
    obtain ⟨v, hv⟩ : ∃ v, (cs0.getD 0 0).toNat = v := ⟨_, rfl⟩
    have k0 : w7.cell? ⟨g, 0, none⟩ = some (.int .u8 (v : Int)) := by
      have h1 := HG.out.2.2.cellAt 0 (by omega)
      rw [h1]
      have h2 : 0 < cs0.length := by rw [HL.out.1]; exact hnp
      simp [h2, b8, ← hv]
    have f0 : w7.frozen? ⟨g, 0, none⟩ = false := HG.out.2.2.frozenAt 0
    obtain ⟨v1, hv1⟩ : ∃ v1 : Nat, IntKind.u8.wrap ((v : Int) + 1) = (v1 : Int) := ⟨(v + 1) % 256, by rw [IntKind.wrap_u8']; omega⟩
    have HD8 := Lib.hid (show Db w (w7.setCell ⟨g, 0, none⟩ (.int .u8 (v1 : Int))) S q1 bs6 from HD7.out.beside (cs := [g]) ((Mut.refl [g] w7).setCell (by simp) _) (fun k hk => by
      obtain rfl : k = g := by simpa using hk
      have h1 := HG.out.1
      refine ⟨fun hm => ?_, ?_⟩
      · have := HD6.out.1.lt k hm; omega
      · have := HD6.out.2.1.size; omega))
    have HC8 := Lib.hid (HD8.out.read 1 (by omega) (by omega) ⟨1, cs0, 0⟩ H1.out.2.2.1 n HL.out.1 (by omega) cs0 rfl)
    clear HC6 HD7 HB7 HG hv
    go_wp2_with fail
    refine HC8.out.mono ?_
    rintro e w9 ⟨g9, rfl, HG9, HB9, HD9⟩
    clear HC8 HD8 k0 f0
    go_wp2_with fail
    refine (HK.out w9).mono ?_
    rintro e w10 ⟨rfl, HB10⟩
    have HD10 := Lib.hid (HD9.out.later HB10.out)
    have ht1 := HG9.out.text w10 HB10.out
    have ht2 := text_run A0 cs0 n cap0 w10 _ HL.out.1 (HB.out.1.below HD10.out.2.1)
    have HC10 := Lib.hid (HD10.out.sure 1 (by omega) (by omega) 0 (by rw [H1.out.2.2.1]; rfl))
    have HC11 := Lib.hid (HD10.out.files 1 H1.out.2.2.2 (by omega))
    clear HB10 HD9 HG9 HB9
    go_wp2_with fail
    refine HC10.out.mono ?_
    rintro e w' ⟨rfl, rfl⟩
    go_wp2_with fail
    refine HC11.out.mono ?_
    rintro e w11 ⟨A11, rfl, _, _, HD11⟩
    have HE := Lib.hid HD11.out.2.1
    clear HC10 HC11 HD11 HD10 ht1 ht2
    go_wp2_with fail
    go_ret
    exact ⟨rfl, HE.out⟩
namespace DiskCopies
set_option linter.unusedSimpArgs false in
set_option maxRecDepth 100000 in
theorem lifted (os : Os) (started : os.Started) (H : Type) (enc : TypeId × Value → H) :
    ReturnsInHanded {} Try.checked os 7 .any (Rows.diskCopiesSpec.pre6 enc Try.prog Try.f7 Rows.diskCopiesRow.domain false) (Rows.diskCopiesSpec.post enc Try.prog Try.f7 false true false false) := by
  refine returnsInHanded_of_change_sized (C := Try.checked) own started (by kernel_rfl) Try.func7
    (ChangeSpec.witness6 (enc := enc) (C := Try.checked) false ⟨#[], #[.slice none 0 0, .slice none 0 0], []⟩ 8 (by kernel_rfl) (by kernel_rfl) (by kernel_rfl) (by kernel_rfl)) ?_
  intro W base args ds gs before hval0 hW _ hsz _
  have hval : ∀ (j : Nat) t v, Try.f7.params[j]? = some t → args[j]? = some v → Value.okWide Try.prog W .any base t v := hval0
  have hW' := hW
  obtain ⟨p, q, hA0, hV, rfl, _, _⟩ := hW
  have hA : DataW.TrodAll enc Try.prog W 0 (fun _ => true) true Try.f7.params.toList args.toList ds p := hA0
  rw [Try.params7] at hA hval
  obtain ⟨v0, vs0, d0, ds0, p0, q0, hargs, rfl, rfl, h0, r0⟩ := trodAll_cons hA
  obtain ⟨v1, vs1, d1, ds1, p1, q1, rfl, rfl, rfl, h1, r1⟩ := trodAll_cons r0
  obtain ⟨rfl, rfl, rfl⟩ := trodAll_nil r1
  obtain rfl : args = #[v0, v1] := by cases args; simp_all
  obtain ⟨rfl, rfl⟩ := trodVars_none hV
  obtain ⟨A0, cs0, cap0, rfl, l0, m0, b0, again0⟩ := arg_bytes (hval 0 22 v0 rfl rfl) h0
  have x0 := arg_extra h0
  have z0 := arg_reach hsz x0.2 (j := 0) rfl rfl
  obtain ⟨A1, cs1, cap1, rfl, l1, m1, b1, again1⟩ := arg_bytes (hval 1 22 v1 rfl rfl) h1
  have x1 := arg_extra h1
  have z1 := arg_reach hsz x1.2 (j := 1) rfl rfl
  clear hA0 hval0
  simp only [List.append_nil] at hW'
  refine (diskCopies_walk A0 A1 cs0 cs1 cap0 cap1 W b0 b1 x0.1 x1.1 z0 z1).mono fun e W' ⟨he, hg⟩ => ?_
  subst he
  exact ⟨_, rfl, true_last hW' rfl (by kernel_rfl) Try.underlying4 rfl rfl rfl (of_decide_eq_true (by kernel_rfl)) hg⟩

/-- **DiskCopies, at every input.** -/
theorem proved : Rows.DiskCopiesSaid :=
  OpenClaim.holds_of_wide 7 Try.f7 rfl rfl rfl rfl rfl rfl rfl ⟨rfl, rfl, rfl, rfl, rfl⟩ rfl rfl rfl rfl rfl (by kernel_rfl) Try.func7 (by kernel_rfl)
    (of_decide_eq_true (by kernel_rfl)) (by unfold Func.isWrapper; first | (rw [if_pos (by decide +kernel)]; kernel_rfl) | (rw [if_neg (by decide +kernel)]; exact ⟨rfl, rfl⟩))
    (fun os started H enc _ => lifted os started H enc)
end DiskCopies

end Go.Proofs.Ytbfcjfeckonklaa
