/-
  DiskSure: what was sure stays through any crash, of the rest a beginning, and then all is sure: whatever the bytes and the draw; no condition.
-/
import Derived.Test.YtbfcjfeckonklaaDkKnown
namespace Go.Proofs.Ytbfcjfeckonklaa
open Go.ChangeShapes Go.WideShapes Go.ChangeAt Go.RowKit Go.Maps Go.Proofs.DiskMath

theorem data_two (a b : List UInt8) : ((⟨a.toArray⟩ : ByteArray) ++ ⟨b.toArray⟩) = ⟨(a ++ b).toArray⟩ := by
  apply ByteArray.ext
  simp
theorem extract_to (a : List UInt8) (k : Nat) : (⟨a.toArray⟩ : ByteArray).extract 0 k = ⟨(a.take k).toArray⟩ := by
  apply ByteArray.ext
  apply Array.ext'
  simp

set_option linter.unusedSimpArgs false in
set_option maxRecDepth 100000 in
set_option maxHeartbeats 2000000 in
theorem diskSure_walk (A0 A1 : Option Addr) (cs0 cs1 : List UInt8) (cap0 cap1 : Nat) (draw : Nat) (w : World) (b0 : Holds8 w.heap.size w A0 cs0) (b1 : Holds8 w.heap.size w A1 cs1) (x0 : A0 = none → cap0 = 0) (x1 : A1 = none → cap1 = 0) (z0 : cs0.length ≤ 140737488351232) (z1 : cs1.length ≤ 140737488351232) (hd : draw < 18446744073709551616) :
    Calls Try.prog 5 #[.slice A0 cs0.length cap0, .slice A1 cs1.length cap1, .int .u64 (draw : Int)] w fun e w' => e = .returned (.bool true) ∧ Below w.heap.size w w' := by
  obtain ⟨n, hn⟩ : ∃ n, cs0.length = n := ⟨_, rfl⟩
  obtain ⟨m, hm⟩ : ∃ m, cs1.length = m := ⟨_, rfl⟩
  rw [hn] at z0 ⊢
  rw [hm] at z1 ⊢
  obtain ⟨t, ht⟩ : ∃ t : Nat, (n : Int) + (m : Int) = (t : Int) := ⟨n + m, by omega⟩
  have ht2 : t ≤ 281474976702464 := by omega
  have HL := Lib.hid (show cs0.length = n ∧ cs1.length = m from ⟨hn, hm⟩)
  have HB := Lib.hid (show Holds8 w.heap.size w A0 cs0 ∧ Holds8 w.heap.size w A1 cs1 ∧ (A0 = none → cap0 = 0) ∧ (A1 = none → cap1 = 0) from ⟨b0, b1, x0, x1⟩)
  have HN := Lib.hid (Db.new (Below.refl w.heap.size w))
  have HK := Lib.hid known_any
  clear b0 b1 x0 x1 z0 z1 hn hm
  by_cases hbig : 300 < t
  · have t1 : decide ((300 : Int) < (t : Int)) = true := by simp; omega
    have t1n : decide (300 < t) = true := by simp; omega
    clear hbig
    go_enter Try.func5, Try.ntmps5
    go_wp2_with fail
    refine HN.out.mono ?_
    rintro e w1 ⟨S, bs1, rfl, HD1, _⟩
    go_wp2_with fail
    refine (HK.out w1).mono ?_
    rintro e w2 ⟨rfl, HB2⟩
    have HE := Lib.hid ((HD1.out.later HB2.out).2.1)
    clear HN HK HD1 HB2
    go_wp2_with fail
    go_ret
    exact ⟨rfl, HE.out⟩
  · have t1 : decide ((300 : Int) < (t : Int)) = false := by simp; omega
    have t1n : decide (300 < t) = false := by simp; omega
    have hnm : n + m ≤ 300 := by omega
    clear hbig
    obtain ⟨en, hen⟩ : ∃ en : Nat, (m : Int) + 1 = (en : Int) := ⟨m + 1, by omega⟩
    have hen0 : ¬ en = 0 := by omega
    obtain ⟨r, hr⟩ : ∃ r, draw % en = r := ⟨_, rfl⟩
    have hrl : r < en := hr ▸ Nat.mod_lt _ (by omega)
    have hr1 : (draw : Int) % (en : Int) = (r : Int) := by rw [← hr]; simp
    have hr2 : (draw : Int).tmod (en : Int) = (r : Int) := by rw [Int.tmod_eq_emod_of_nonneg (by omega)]; exact hr1
    obtain ⟨k, hk⟩ : ∃ k : Nat, (n : Int) + (r : Int) = (k : Int) := ⟨n + r, by omega⟩
    have hkb : n ≤ k ∧ k ≤ t ∧ k ≤ 300 := by omega
    have hw1 : IntKind.u64.wrap (en : Int) = (en : Int) := by rw [IntKind.wrap_u64]; omega
    have hw2 : IntKind.i64.wrap (r : Int) = (r : Int) := by rw [IntKind.wrap_i64]; omega
    have hw3 : IntKind.i64.wrap (en : Int) = (en : Int) := by rw [IntKind.wrap_i64]; omega
    have hw4 : IntKind.i64.wrap (k : Int) = (k : Int) := by rw [IntKind.wrap_i64]; omega
    have hle1 : decide ((n : Int) ≤ (k : Int)) = true := by simp; omega
    have hle2 : decide ((k : Int) ≤ (t : Int)) = true := by simp; omega
    have hle1n : decide (n ≤ k) = true := by simp; omega
    have hle2n : decide (k ≤ t) = true := by simp; omega
    obtain ⟨q1, hq1⟩ : ∃ q, q = ([⟨3, cs0, 0⟩] : List Fi) := ⟨_, rfl⟩
    obtain ⟨q2, hq2⟩ : ∃ q, q = ([⟨3, cs0, n⟩] : List Fi) := ⟨_, rfl⟩
    obtain ⟨q3, hq3⟩ : ∃ q, q = ([⟨3, cs0 ++ cs1, n⟩] : List Fi) := ⟨_, rfl⟩
    obtain ⟨q4, hq4⟩ : ∃ q, crash draw q3 = q := ⟨_, rfl⟩
    have H1 := Lib.hid (show write [] 3 cs0 = q1 from by rw [hq1]; rfl)
    have H2 := Lib.hid (show sync q1 3 = q2 ∧ (if (seek 3 q1).isSome then 0 else 71) = 0 ∧ Bd 300 q2 from by
      refine ⟨by rw [hq1, hq2, ← HL.out.1]; rfl, by rw [hq1]; rfl, ?_⟩
      rw [hq2]; simp [Bd, HL.out.1]; omega)
    have H3 := Lib.hid (show write q2 3 cs1 = q3 ∧ Bd 300 q3 from by
      refine ⟨by rw [hq2, hq3]; rfl, ?_⟩
      rw [hq3]; simp [Bd, HL.out.1, HL.out.2]; omega)
    have H4 := Lib.hid (show q4 = if k = 0 then [] else [⟨3, (cs0 ++ cs1).take k, k⟩] from by
      rw [← hq4, hq3]
      have e1 : (cs0 ++ cs1).length - n + 1 = en := by simp [HL.out.1, HL.out.2]; omega
      have e2 : crash1 draw ⟨3, cs0 ++ cs1, n⟩ = k := by unfold crash1; dsimp only; rw [e1, hr]; omega
      simp only [crash, e2, kept1, List.append_nil])
    have H5 := Lib.hid hq4
    have HKL := Lib.hid (show ((cs0 ++ cs1).take k).length = k from by simp [HL.out.1, HL.out.2]; omega)
    obtain ⟨T, hT⟩ : ∃ T : ByteArray, (⟨(cs0 ++ cs1).toArray⟩ : ByteArray) = T := ⟨_, rfl⟩
    have hTadd : (⟨cs0.toArray⟩ : ByteArray) ++ ⟨cs1.toArray⟩ = T := by rw [data_two, hT]
    have hTs : T.size = t := by rw [← hT]; simp [ByteArray.size, HL.out.1, HL.out.2]; omega
    obtain ⟨X, hX⟩ : ∃ X : ByteArray, (⟨((cs0 ++ cs1).take k).toArray⟩ : ByteArray) = X := ⟨_, rfl⟩
    have hXe : T.extract 0 k = X := by rw [← hT, extract_to, hX]
    have HX := Lib.hid hX
    have hss : ¬ (9223372036854775807 : Nat) < (⟨cs0.toArray⟩ : ByteArray).size + (⟨cs1.toArray⟩ : ByteArray).size := by simp [ByteArray.size, HL.out.1, HL.out.2]; omega
    have hcut : ∀ W, (Instr.slice 9 (.string T) none (some (.int .i64 (k : Int))) none).run Try.prog W = .ok (.string X) W := fun W => by
      rw [run_slice_string_h W 9 T Try.underlying9 .i64 (k : Int) (by omega) (by omega), show (k : Int).toNat = k by simp, hXe]
    clear hq1 hq2 hq3 hq4 hr hrl hT hX hXe
    go_enter Try.func5, Try.ntmps5
    go_wp2_with fail
    refine HN.out.mono ?_
    rintro e w1 ⟨S, bs1, rfl, HD1, _⟩
    go_wp2_with fail
    refine (HK.out w1).mono ?_
    rintro e wk ⟨rfl, HBk⟩
    have HDk := Lib.hid (HD1.out.later HBk.out)
    have HC1 := Lib.hid (HDk.out.write 3 A0 n cap0 cs0 (HDk.out.src HB.out.1 HB.out.2.2.1) HL.out.1 (by omega) 0 (Bd.nil 0) (by omega) q1 H1.out)
    clear HN HK HD1 HBk HDk
    go_wp2_with fail
    refine HC1.out.mono ?_
    rintro e w2 ⟨rfl, bs2, HD2, _⟩
    have HC2 := Lib.hid (HD2.out.sync 3 (by omega) (by omega) q2 H2.out.1 0 H2.out.2.1)
    clear HC1 HD2
    go_wp2_with fail
    refine HC2.out.mono ?_
    rintro e w3 ⟨rfl, bs3, HD3, _⟩
    have HC3 := Lib.hid (HD3.out.write 3 A1 m cap1 cs1 (HD3.out.src HB.out.2.1 HB.out.2.2.2) HL.out.2 (by omega) 300 H2.out.2.2 (by omega) q3 H3.out.1)
    clear HC2 HD3
    go_wp2_with fail
    refine HC3.out.mono ?_
    rintro e w4 ⟨rfl, bs4, HD4, _⟩
    have HC4 := Lib.hid (HD4.out.crash draw hd 300 H3.out.2 (by omega) q4 H5.out)
    clear HC3 HD4
    go_wp2_with fail
    refine HC4.out.mono ?_
    rintro e w5 ⟨rfl, bs5, HD5, _⟩
    clear HC4
    by_cases h0 : k = 0
    · have HC5 := Lib.hid (HD5.out.readNo 3 (by omega) (by omega) (by rw [H4.out, if_pos h0]; rfl))
      have hn0 : n = 0 := by omega
      have HC6 := Lib.hid (HD5.out.files 0 (by rw [H4.out, if_pos h0]; rfl) (by omega))
      have hc1 := text_run A0 cs0 n cap0 w5 _ HL.out.1 (HB.out.1.below HD5.out.2.1)
      have hc2 := text_run A1 cs1 m cap1 w5 _ HL.out.2 (HB.out.2.1.below HD5.out.2.1)
      have hn1 : ((n : Int) == 0) = true := by rw [hn0]; rfl
      have hn1n : (n == 0) = true := by rw [hn0]; rfl
      clear h0 hn0 hkb hk hle1 hle2 hle1n hle2n hcut hw4
      go_wp2_with fail
      refine HC5.out.mono ?_
      rintro e w' ⟨rfl, rfl⟩
      go_wp2_with fail
      refine HC6.out.mono ?_
      rintro e w6 ⟨A6, rfl, _, _, HD6⟩
      have HE := Lib.hid HD6.out.2.1
      clear HC5 HC6 HD5 HD6 hc1 hc2
      go_wp2_with fail
      go_ret
      exact ⟨rfl, HE.out⟩
    · have HC5 := Lib.hid (HD5.out.read 3 (by omega) (by omega) ⟨3, (cs0 ++ cs1).take k, k⟩ (by rw [H4.out, if_neg h0]; rfl) k HKL.out (by omega) ((cs0 ++ cs1).take k) rfl)
      have HSK := Lib.hid (show ((seek 3 q4).map (·.sure)).getD 0 = k from by rw [H4.out, if_neg h0]; rfl)
      clear h0
      go_wp2_with fail
      refine HC5.out.mono ?_
      rintro e w6 ⟨g, rfl, HG, HB6, HD6⟩
      have hc1 := text_run A0 cs0 n cap0 w6 _ HL.out.1 (HB.out.1.below HD6.out.2.1)
      have hc2 := text_run A1 cs1 m cap1 w6 _ HL.out.2 (HB.out.2.1.below HD6.out.2.1)
      have HC6 := Lib.hid (fun q => (HD6.out.drewN q).sure 3 (by omega) (by omega) k HSK.out)
      have ht1 : ∀ q, (convert 22 9 (.slice (some ⟨g, 0, none⟩) k k)).run Try.prog (w6.drewN q) = .ok (.string X) (w6.drewN q) := fun q => by
        rw [← HX.out]
        exact HG.out.text (w6.drewN q) (Below.drewN' (Below.refl _ _) q)
      have HE := Lib.hid HD6.out.2.1
      clear HC5 HD5 HG HB6
      go_wp2_with fail
      clear hc1 hc2
      go_quiet ((go_at_call 13; exact quiet_left (HC6.out _)))
      go_wp2_with fail
      go_ret
      exact ⟨rfl, Below.drewN' HE.out _⟩
namespace DiskSure
set_option linter.unusedSimpArgs false in
set_option maxRecDepth 100000 in
theorem lifted (os : Os) (started : os.Started) (H : Type) (enc : TypeId × Value → H) :
    ReturnsInHanded {} Try.checked os 5 .any (Rows.diskSureSpec.pre6 enc Try.prog Try.f5 Rows.diskSureRow.domain false) (Rows.diskSureSpec.post enc Try.prog Try.f5 false true false false) := by
  refine returnsInHanded_of_change_sized (C := Try.checked) own started (by kernel_rfl) Try.func5
    (ChangeSpec.witness6 (enc := enc) (C := Try.checked) false ⟨#[], #[.slice none 0 0, .slice none 0 0, .int .u64 0], []⟩ 8 (by kernel_rfl) (by kernel_rfl) (by kernel_rfl) (by kernel_rfl)) ?_
  intro W base args ds gs before hval0 hW _ hsz _
  have hval : ∀ (j : Nat) t v, Try.f5.params[j]? = some t → args[j]? = some v → Value.okWide Try.prog W .any base t v := hval0
  have hW' := hW
  obtain ⟨p, q, hA0, hV, rfl, _, _⟩ := hW
  have hA : DataW.TrodAll enc Try.prog W 0 (fun _ => true) true Try.f5.params.toList args.toList ds p := hA0
  rw [Try.params5] at hA hval
  obtain ⟨v0, vs0, d0, ds0, p0, q0, hargs, rfl, rfl, h0, r0⟩ := trodAll_cons hA
  obtain ⟨v1, vs1, d1, ds1, p1, q1, rfl, rfl, rfl, h1, r1⟩ := trodAll_cons r0
  obtain ⟨v2, vs2, d2, ds2, p2, q2, rfl, rfl, rfl, h2, r2⟩ := trodAll_cons r1
  obtain ⟨rfl, rfl, rfl⟩ := trodAll_nil r2
  obtain rfl : args = #[v0, v1, v2] := by cases args; simp_all
  obtain ⟨rfl, rfl⟩ := trodVars_none hV
  obtain ⟨A0, cs0, cap0, rfl, l0, m0, b0, again0⟩ := arg_bytes (hval 0 22 v0 rfl rfl) h0
  have x0 := arg_extra h0
  have z0 := arg_reach hsz x0.2 (j := 0) rfl rfl
  obtain ⟨A1, cs1, cap1, rfl, l1, m1, b1, again1⟩ := arg_bytes (hval 1 22 v1 rfl rfl) h1
  have x1 := arg_extra h1
  have z1 := arg_reach hsz x1.2 (j := 1) rfl rfl
  obtain ⟨a2, rfl, rfl, rfl, w2⟩ := open_int Try.underlying32 (hval 2 32 v2 rfl rfl) h2
  have k2 := wf_u64 w2
  obtain ⟨n2, rfl⟩ : ∃ n : Nat, a2 = n := ⟨a2.toNat, by omega⟩
  clear hA0 hval0
  simp only [List.append_nil] at hW'
  refine (diskSure_walk A0 A1 cs0 cs1 cap0 cap1 n2 W b0 b1 x0.1 x1.1 z0 z1 (by omega)).mono fun e W' ⟨he, hg⟩ => ?_
  subst he
  exact ⟨_, rfl, true_last hW' rfl (by kernel_rfl) Try.underlying4 rfl rfl rfl (of_decide_eq_true (by kernel_rfl)) hg⟩

/-- **DiskSure, at every input.** -/
theorem proved : Rows.DiskSureSaid :=
  OpenClaim.holds_of_wide 5 Try.f5 rfl rfl rfl rfl rfl rfl rfl ⟨rfl, rfl, rfl, rfl, rfl⟩ rfl rfl rfl rfl rfl (by kernel_rfl) Try.func5 (by kernel_rfl)
    (of_decide_eq_true (by kernel_rfl)) (by unfold Func.isWrapper; first | (rw [if_pos (by decide +kernel)]; kernel_rfl) | (rw [if_neg (by decide +kernel)]; exact ⟨rfl, rfl⟩))
    (fun os started H enc _ => lifted os started H enc)
end DiskSure

end Go.Proofs.Ytbfcjfeckonklaa
