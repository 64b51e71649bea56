/-
  Proved: RateKeeps returns true for every target and count: by the threshold of both no more than the target of the count are kept, on average, and by one less it would be more. No condition but the card's own: hash's table of steps, tied to the program's text, holds at the start what that text lays.
-/
import Derived.Test.YtkhbodlffhfmnaaDoorRtKnown
namespace Go.Proofs.YtkhbodlffhfmnaaDoor
open Go.ChangeShapes Go.WideShapes Go.ChangeAt Go.RowKit Go.Proofs.HashMath Go.Proofs.SkMath Go.Proofs.ProbMath Go.Proofs.RtMath

theorem keeps_math (t c : Nat) (hc : 1 ≤ c) : ∃ n p : Nat, kept (byN t c) = n ∧ n ≤ 72057594037927936 ∧ n / 1048576 = p ∧ p ≤ 68719476736 ∧ p * c ≤ t * 68719476736 ∧ (c ≤ t → n = 72057594037927936) ∧ (t < c → n < 72057594037927936 ∧ t * 68719476736 < (p + 1) * c) := by
  refine ⟨_, _, rfl, kept_le _, rfl, ?_, ?_, ?_, ?_⟩
  · have := kept_le (byN t c); omega
  · by_cases h : c ≤ t
    · rw [byN_0 h]
      have : kept 0 / 1048576 = 68719476736 := by decide
      rw [this, Nat.mul_comm]
      exact Nat.mul_le_mul_right _ h
    · have e : byN t c = 72057594037927936 - share t c := if_neg h
      have hs : share t c ≤ 72057594037927936 := share_le (by omega)
      have hk : kept (byN t c) = share t c := by rw [e]; unfold kept; omega
      rw [hk]
      have h1 : share t c * c ≤ 72057594037927936 * t := Nat.div_mul_le_self _ _
      have h2 : share t c / 1048576 * 1048576 ≤ share t c := Nat.div_mul_le_self _ _
      have h3 := Nat.mul_le_mul_right c h2
      rw [Nat.mul_right_comm] at h3
      omega
  · intro h
    rw [byN_0 h]; rfl
  · intro h
    have e : byN t c = 72057594037927936 - share t c := if_neg (by omega)
    have hs : share t c ≤ 72057594037927936 := share_le (by omega)
    have hk : kept (byN t c) = share t c := by rw [e]; unfold kept; omega
    rw [hk]
    have h0 : 72057594037927936 * t < (share t c + 1) * c := by
      have := Nat.lt_mul_div_succ (72057594037927936 * t) (show 0 < c by omega)
      rw [Nat.mul_comm c] at this
      exact this
    have h1 : share t c * c ≤ 72057594037927936 * t := Nat.div_mul_le_self _ _
    refine ⟨?_, ?_⟩
    · refine Nat.lt_of_mul_lt_mul_right (a := c) ?_
      have := Nat.mul_lt_mul_of_pos_left h (show 0 < 72057594037927936 by omega)
      omega
    · have h2 : share t c + 1 ≤ (share t c / 1048576 + 1) * 1048576 := by omega
      have h3 := Nat.mul_le_mul_right c h2
      rw [Nat.mul_right_comm] at h3
      omega

set_option maxRecDepth 100000 in
set_option maxHeartbeats 2000000 in
theorem rateKeeps_walk (a b : Nat) (ha : a ≤ 65535) (hb : b ≤ 65535) (w : World) (hS : Steps w) :
    Calls Tryd.prog 5 #[.int .u16 (a : Int), .int .u16 (b : Int)] w fun e w' => e = .returned (.bool true) ∧ Below w.heap.size w w' := by
  have HKN := Lib.hid (fun W (h : Below w.heap.size w W) => known9_any W (hS.later h))
  have haw : IntKind.u64.wrap (a : Int) = (a : Int) := by rw [IntKind.wrap_u64]; omega
  have hbw : IntKind.u64.wrap (b : Int) = (b : Int) := by rw [IntKind.wrap_u64]; omega
  obtain ⟨t, ht, ht1, ht2⟩ : ∃ t : Nat, (a : Int) + 1 = (t : Int) ∧ 1 ≤ t ∧ t ≤ 65536 := ⟨a + 1, by omega, by omega, by omega⟩
  obtain ⟨c, hc, hc1, hc2⟩ : ∃ c : Nat, (b : Int) + 1 = (c : Int) ∧ 1 ≤ c ∧ c ≤ 65536 := ⟨b + 1, by omega, by omega, by omega⟩
  have htw : IntKind.u64.wrap (t : Int) = (t : Int) := by rw [IntKind.wrap_u64]; omega
  have hcw : IntKind.u64.wrap (c : Int) = (c : Int) := by rw [IntKind.wrap_u64]; omega
  have hB := fun W => rateBy_any t c W (by omega)
  obtain ⟨n, p, hn, hnl, hp, hpl, hm1, hm2, hm3⟩ := keeps_math t c hc1
  obtain ⟨y, hy⟩ : ∃ y, byN t c = y := ⟨_, rfl⟩
  rw [hy] at hB hn
  have hK := fun W => refKept_any y W
  rw [hn] at hK
  have e1 : (n : Int) / 1048576 = (p : Int) := by omega
  obtain ⟨m, em, em'⟩ : ∃ m : Nat, (p : Int) * (c : Int) = (m : Int) ∧ p * c = m := ⟨p * c, by simp, rfl⟩
  obtain ⟨s, es, es'⟩ : ∃ s : Nat, (t : Int) * 68719476736 = (s : Int) ∧ t * 68719476736 = s := ⟨t * 68719476736, by omega, rfl⟩
  obtain ⟨p1, ep, ep'⟩ : ∃ p1 : Nat, (p : Int) + 1 = (p1 : Int) ∧ p + 1 = p1 := ⟨p + 1, by omega, rfl⟩
  obtain ⟨m1, ex, ex'⟩ : ∃ m1 : Nat, (p1 : Int) * (c : Int) = (m1 : Int) ∧ p1 * c = m1 := ⟨p1 * c, by simp, rfl⟩
  rw [em', es'] at hm1
  rw [es', ep', ex'] at hm3
  have hsl : s ≤ 4503599627370496 := by omega
  have hml : m1 ≤ 68719476737 * 65536 := by rw [← ex']; exact Nat.mul_le_mul (by omega) hc2
  have hmw : IntKind.u64.wrap (m : Int) = (m : Int) := by rw [IntKind.wrap_u64]; omega
  have hsw : IntKind.u64.wrap (s : Int) = (s : Int) := by rw [IntKind.wrap_u64]; omega
  have hpw : IntKind.u64.wrap (p1 : Int) = (p1 : Int) := by rw [IntKind.wrap_u64]; omega
  have hxw : IntKind.u64.wrap (m1 : Int) = (m1 : Int) := by rw [IntKind.wrap_u64]; omega
  have d1 : decide ((m : Int) ≤ (s : Int)) = true := by simp; omega
  have d1' : decide (m ≤ s) = true := by simp; omega
  have HBY := Lib.hid hB
  have HK := Lib.hid hK
  by_cases h : c ≤ t
  · have hn0 := hm2 h
    have d2 : decide ((c : Int) ≤ (t : Int)) = true := by simp; omega
    have d2' : decide (c ≤ t) = true := by simp; omega
    have d3 : ((n : Int) == 72057594037927936) = true := by simp; omega
    clear hS h hn0 hm1 hm2 hm3 hB hK hy hn hp em' es' ep' ex'
    go_enter Tryd.func5, Tryd.ntmps5
    go_wp2_with fail
    refine (HBY.out _).mono ?_
    rintro e w1 ⟨rfl, hb1⟩
    have HB1 := Lib.hid hb1
    clear hb1
    go_wp2_with fail
    refine (HK.out _).mono ?_
    rintro e w2 ⟨rfl, rfl⟩
    go_wp2_with fail
    refine (HKN.out _ HB1.out).mono ?_
    rintro e w3 ⟨rfl, hb3⟩
    have HB3 := Lib.hid (HB1.out.trans (hb3.mono HB1.out.size))
    clear hb3
    go_wp2_with fail
    go_ret
    exact ⟨rfl, HB3.out⟩
  · obtain ⟨hn0, hmm⟩ := hm3 (by omega)
    have d2 : decide ((c : Int) ≤ (t : Int)) = false := by simp; omega
    have d2' : decide (c ≤ t) = false := by simp; omega
    have d3 : ((n : Int) == 72057594037927936) = false := by simp; omega
    have d4 : decide ((s : Int) < (m1 : Int)) = true := by simp; omega
    have d4' : decide (s < m1) = true := by simp; omega
    clear hS h hn0 hm1 hm2 hm3 hB hK hy hn hp em' es' ep' ex' hmm
    go_enter Tryd.func5, Tryd.ntmps5
    go_wp2_with fail
    refine (HBY.out _).mono ?_
    rintro e w1 ⟨rfl, hb1⟩
    have HB1 := Lib.hid hb1
    clear hb1
    go_wp2_with fail
    refine (HK.out _).mono ?_
    rintro e w2 ⟨rfl, rfl⟩
    go_wp2_with fail
    refine (HKN.out _ HB1.out).mono ?_
    rintro e w3 ⟨rfl, hb3⟩
    have HB3 := Lib.hid (HB1.out.trans (hb3.mono HB1.out.size))
    clear hb3
    go_wp2_with fail
    go_ret
    exact ⟨rfl, HB3.out⟩
namespace RateKeeps
set_option linter.unusedSimpArgs false in
set_option maxRecDepth 100000 in
theorem lifted (os : Os) (started : os.Started) (H : Type) (enc : TypeId × Value → H) :
    ReturnsInHanded {} Tryd.checked os 5 .any (fun w args => (Rows.rateKeepsSpec.pre enc Tryd.prog Tryd.f5 [] false w args ∧ laidMetH Tryd.prog laidL w) ∧ sizedMet enc Tryd.prog Tryd.f5 (OpenSpec.ofChange Rows.rateKeepsSpec) false w args)
      (Rows.rateKeepsSpec.post enc Tryd.prog Tryd.f5 false true false false) := by
  refine returnsInHanded_of_change_and (C := Tryd.checked) (X := fun w _ => laidMetH Tryd.prog laidL w) (fun _ _ _ hh h => h.of_heap hh) own started (by kernel_rfl) Tryd.func5
    (ChangeSpec.witness_shaped (enc := enc) (C := Tryd.checked) (os := os) (X := fun w _ => laidMetH Tryd.prog laidL w) false (World.doorLaid Tryd.prog 400 os) #[.int .u16 0, .int .u16 0] 8 rfl (World.shaped_of_RefB (by kernel_rfl) (by kernel_rfl)) (by kernel_rfl) (by kernel_rfl) (by kernel_rfl) (door_met os _)) ?_
  intro W base args ds gs before hval0 hW _ _ hL _
  have hS := of_laid hL
  have hval : ∀ (j : Nat) t v, Tryd.f5.params[j]? = some t → args[j]? = some v → Value.okWide Tryd.prog W .any base t v := hval0
  have hW' := hW
  obtain ⟨p, q, hA0, hV, rfl, _, _⟩ := hW
  have hA : DataW.TrodAll enc Tryd.prog W 0 (fun _ => true) true Tryd.f5.params.toList args.toList ds p := hA0
  rw [Tryd.params5] at hA hval
  obtain ⟨v0, vs0, d0, ds0, p0, q0, hargs, rfl, rfl, h0, r0⟩ := trodAll_cons hA
  obtain ⟨v1, vs1, d1, ds1, p1, q1, rfl, rfl, rfl, h1, r1⟩ := trodAll_cons r0
  obtain ⟨rfl, rfl, rfl⟩ := trodAll_nil r1
  obtain rfl : args = #[v0, v1] := by cases args; simp_all
  obtain ⟨rfl, rfl⟩ := trodVars_none hV
  obtain ⟨a0, rfl, rfl, rfl, w0⟩ := open_int Tryd.underlying23 (hval 0 23 v0 rfl rfl) h0
  have k0 := wf_u16 w0
  obtain ⟨n0, rfl⟩ : ∃ n : Nat, a0 = n := ⟨a0.toNat, by omega⟩
  obtain ⟨a1, rfl, rfl, rfl, w1⟩ := open_int Tryd.underlying23 (hval 1 23 v1 rfl rfl) h1
  have k1 := wf_u16 w1
  obtain ⟨n1, rfl⟩ : ∃ n : Nat, a1 = n := ⟨a1.toNat, by omega⟩
  clear hA0 hval0
  simp only [List.append_nil] at hW'
  refine (rateKeeps_walk n0 n1 (by omega) (by omega) W hS).mono fun e W' ⟨he, hg⟩ => ?_
  subst he
  exact ⟨_, rfl, true_last hW' rfl (by kernel_rfl) Tryd.underlying4 rfl rfl rfl (of_decide_eq_true (by kernel_rfl)) hg⟩

/-- The row. -/
theorem said : Rows.RateKeepsSaid :=
  OpenClaim.holds_of_wide 5 Tryd.f5 rfl rfl rfl rfl rfl rfl rfl ⟨rfl, rfl, rfl, rfl, rfl⟩ rfl rfl rfl rfl rfl (by kernel_rfl) Tryd.func5 (by kernel_rfl)
    (of_decide_eq_true (by kernel_rfl)) (by unfold Func.isWrapper; first | (rw [if_pos (by decide +kernel)]; kernel_rfl) | (rw [if_neg (by decide +kernel)]; exact ⟨rfl, rfl⟩))
    (fun os started H enc _ => lifted os started H enc)
/-- **RateKeeps, at every input: the card, its listed variables tied to the program's text.** -/
theorem proved : Rows.RateKeepsCardSaid :=
  Claim7.holds_tied_plain_at .later [] [.wider] true Rows.rateKeepsCard.stood.harness false
    said (fun _ h => by cases h) (by kernel_rfl) (fun _ h => by cases h) rateKeeps_row_tie rfl ⟨rfl, rfl⟩ (by kernel_rfl) rfl
    (fun f fn hf hfn => by
      obtain rfl : f = 5 := Option.some.inj ((show Tryd.prog.funcNamed "telemeter/telemeterlaw09.RateKeeps" = some 5 by kernel_rfl).symm.trans hf) |>.symm
      obtain rfl : fn = Tryd.f5 := (Option.some.inj (Tryd.func5.symm.trans hfn)).symm
      exact ⟨by kernel_rfl, fun j t ht => by
        rw [Tryd.params5] at ht
        have hm : t ∈ [23, 23] := by simpa using Array.mem_of_getElem? ht
        have hall : ([23, 23].all fun u => !Tryd.prog.wantsStandIn u) = true := by kernel_rfl
        exact (show Tryd.prog.wantsStandIn t = false by simpa using List.all_eq_true.1 hall t hm)⟩)
    (by kernel_rfl)
end RateKeeps

end Go.Proofs.YtkhbodlffhfmnaaDoor
