/-
  Proved: RateToward returns true for every two numbers and every times: a threshold goes toward, never beyond; in one step, if it may. No condition but the card's own: hash's table of steps, tied to the program's text, holds at the start what that text lays.
-/
import Derived.Test.YtkhbodlffhfmnaaDoorRtKnown
namespace Go.Proofs.YtkhbodlffhfmnaaDoor
open Go.ChangeShapes Go.WideShapes Go.ChangeAt Go.RowKit Go.Proofs.HashMath Go.Proofs.SkMath Go.Proofs.ProbMath Go.Proofs.RtMath

set_option maxRecDepth 100000 in
set_option maxHeartbeats 2000000 in
theorem rateToward_walk (a b k : Nat) (_ha : a < 18446744073709551616) (_hb : b < 18446744073709551616) (hk : k ≤ 255) (w : World) (hS : Steps w) :
    Calls Tryd.prog 6 #[.int .u64 (a : Int), .int .u64 (b : Int), .int .u8 (k : Int)] w fun e w' => e = .returned (.bool true) ∧ Below w.heap.size w w' := by
  have HKN := Lib.hid (known9_any w hS)
  obtain ⟨x, hx, hxl⟩ : ∃ x : Nat, (a : Int) % 72057594037927936 = (x : Int) ∧ x < 72057594037927936 := ⟨a % 72057594037927936, by omega, by omega⟩
  obtain ⟨y, hy, hyl⟩ : ∃ y : Nat, (b : Int) % 72057594037927936 = (y : Int) ∧ y < 72057594037927936 := ⟨b % 72057594037927936, by omega, by omega⟩
  obtain ⟨q, hq, hql⟩ : ∃ q : Nat, (k : Int) % 9 = (q : Int) ∧ q ≤ 8 := ⟨k % 9, by omega, by omega⟩
  have hqw : IntKind.u64.wrap (q : Int) = (q : Int) := by rw [IntKind.wrap_u64]; omega
  obtain ⟨n, hn, hn1, hn9⟩ : ∃ n : Nat, (1 : Int) + (q : Int) = (n : Int) ∧ 1 ≤ n ∧ n ≤ 9 := ⟨1 + q, by omega, by omega, by omega⟩
  have hnw : IntKind.u64.wrap (n : Int) = (n : Int) := by rw [IntKind.wrap_u64]; omega
  have HT := Lib.hid (fun W => toward_any x y n W hxl hyl hn1 (by omega))
  have HU := Lib.hid (fun W => toward_any x y 72057594037927936 W hxl hyl (by omega) (by omega))
  have HV := Lib.hid (fun W => toward_any x y 1 W hxl hyl (by omega) (by omega))
  rw [toward_whole hxl hyl] at HU
  rw [toward_one hxl] at HV
  obtain ⟨hb1, hb2⟩ := toward_between hxl hyl hn1
  obtain ⟨t, ht⟩ : ∃ t, toward x y n = t := ⟨_, rfl⟩
  rw [ht] at HT hb1 hb2
  obtain ⟨lo, hlo, hlo'⟩ : ∃ lo : Nat, min (x : Int) (y : Int) = (lo : Int) ∧ lo = min x y := ⟨min x y, by omega, rfl⟩
  obtain ⟨hi, hhi, hhi'⟩ : ∃ hi : Nat, max (x : Int) (y : Int) = (hi : Int) ∧ hi = max x y := ⟨max x y, by omega, rfl⟩
  have d1 : decide ((lo : Int) ≤ (t : Int)) = true := by simp; omega
  have d1' : decide (lo ≤ t) = true := by simp; omega
  have d2 : decide ((t : Int) ≤ (hi : Int)) = true := by simp; omega
  have d2' : decide (t ≤ hi) = true := by simp; omega
  have d3 : ((y : Int) == (y : Int)) = true := by simp
  have d4 : ((x : Int) == (x : Int)) = true := by simp
  clear hS ht hb1 hb2 hlo' hhi' hxl hyl hn1
  go_enter Tryd.func6, Tryd.ntmps6
  go_wp2_with fail
  refine (HT.out _).mono ?_
  rintro e w1 ⟨rfl, rfl⟩
  go_wp2_with fail
  refine (HU.out _).mono ?_
  rintro e w1 ⟨rfl, rfl⟩
  go_wp2_with fail
  refine (HV.out _).mono ?_
  rintro e w1 ⟨rfl, rfl⟩
  go_wp2_with fail
  refine HKN.out.mono ?_
  rintro e w1 ⟨rfl, hb⟩
  go_wp2_with fail
  go_ret
  exact ⟨rfl, hb⟩
namespace RateToward
set_option linter.unusedSimpArgs false in
set_option maxRecDepth 100000 in
theorem lifted (os : Os) (started : os.Started) (H : Type) (enc : TypeId × Value → H) :
    ReturnsInHanded {} Tryd.checked os 6 .any (fun w args => (Rows.rateTowardSpec.pre enc Tryd.prog Tryd.f6 [] false w args ∧ laidMetH Tryd.prog laidL w) ∧ sizedMet enc Tryd.prog Tryd.f6 (OpenSpec.ofChange Rows.rateTowardSpec) false w args)
      (Rows.rateTowardSpec.post enc Tryd.prog Tryd.f6 false true false false) := by
  refine returnsInHanded_of_change_and (C := Tryd.checked) (X := fun w _ => laidMetH Tryd.prog laidL w) (fun _ _ _ hh h => h.of_heap hh) own started (by kernel_rfl) Tryd.func6
    (ChangeSpec.witness_shaped (enc := enc) (C := Tryd.checked) (os := os) (X := fun w _ => laidMetH Tryd.prog laidL w) false (World.doorLaid Tryd.prog 400 os) #[.int .u64 0, .int .u64 0, .int .u8 0] 8 rfl (World.shaped_of_RefB (by kernel_rfl) (by kernel_rfl)) (by kernel_rfl) (by kernel_rfl) (by kernel_rfl) (door_met os _)) ?_
  intro W base args ds gs before hval0 hW _ _ hL _
  have hS := of_laid hL
  have hval : ∀ (j : Nat) t v, Tryd.f6.params[j]? = some t → args[j]? = some v → Value.okWide Tryd.prog W .any base t v := hval0
  have hW' := hW
  obtain ⟨p, q, hA0, hV, rfl, _, _⟩ := hW
  have hA : DataW.TrodAll enc Tryd.prog W 0 (fun _ => true) true Tryd.f6.params.toList args.toList ds p := hA0
  rw [Tryd.params6] at hA hval
  obtain ⟨v0, vs0, d0, ds0, p0, q0, hargs, rfl, rfl, h0, r0⟩ := trodAll_cons hA
  obtain ⟨v1, vs1, d1, ds1, p1, q1, rfl, rfl, rfl, h1, r1⟩ := trodAll_cons r0
  obtain ⟨v2, vs2, d2, ds2, p2, q2, rfl, rfl, rfl, h2, r2⟩ := trodAll_cons r1
  obtain ⟨rfl, rfl, rfl⟩ := trodAll_nil r2
  obtain rfl : args = #[v0, v1, v2] := by cases args; simp_all
  obtain ⟨rfl, rfl⟩ := trodVars_none hV
  obtain ⟨a0, rfl, rfl, rfl, w0⟩ := open_int Tryd.underlying22 (hval 0 22 v0 rfl rfl) h0
  have k0 := wf_u64 w0
  obtain ⟨n0, rfl⟩ : ∃ n : Nat, a0 = n := ⟨a0.toNat, by omega⟩
  obtain ⟨a1, rfl, rfl, rfl, w1⟩ := open_int Tryd.underlying22 (hval 1 22 v1 rfl rfl) h1
  have k1 := wf_u64 w1
  obtain ⟨n1, rfl⟩ : ∃ n : Nat, a1 = n := ⟨a1.toNat, by omega⟩
  obtain ⟨a2, rfl, rfl, rfl, w2⟩ := open_int Tryd.underlying5 (hval 2 5 v2 rfl rfl) h2
  have k2 := wf_u8 w2
  obtain ⟨n2, rfl⟩ : ∃ u : UInt8, a2 = (u.toNat : Int) := ⟨UInt8.ofNat a2.toNat, by simp; omega⟩
  clear hA0 hval0
  simp only [List.append_nil] at hW'
  refine (rateToward_walk n0 n1 n2.toNat (by omega) (by omega) (by have := n2.toNat_lt; omega) W hS).mono fun e W' ⟨he, hg⟩ => ?_
  subst he
  exact ⟨_, rfl, true_last hW' rfl (by kernel_rfl) Tryd.underlying4 rfl rfl rfl (of_decide_eq_true (by kernel_rfl)) hg⟩

/-- The row. -/
theorem said : Rows.RateTowardSaid :=
  OpenClaim.holds_of_wide 6 Tryd.f6 rfl rfl rfl rfl rfl rfl rfl ⟨rfl, rfl, rfl, rfl, rfl⟩ rfl rfl rfl rfl rfl (by kernel_rfl) Tryd.func6 (by kernel_rfl)
    (of_decide_eq_true (by kernel_rfl)) (by unfold Func.isWrapper; first | (rw [if_pos (by decide +kernel)]; kernel_rfl) | (rw [if_neg (by decide +kernel)]; exact ⟨rfl, rfl⟩))
    (fun os started H enc _ => lifted os started H enc)
/-- **RateToward, at every input: the card, its listed variables tied to the program's text.** -/
theorem proved : Rows.RateTowardCardSaid :=
  Claim7.holds_tied_plain_at .later [] [.wider] true Rows.rateTowardCard.stood.harness false
    said (fun _ h => by cases h) (by kernel_rfl) (fun _ h => by cases h) rateToward_row_tie rfl ⟨rfl, rfl⟩ (by kernel_rfl) rfl
    (fun f fn hf hfn => by
      obtain rfl : f = 6 := Option.some.inj ((show Tryd.prog.funcNamed "telemeter/telemeterlaw09.RateToward" = some 6 by kernel_rfl).symm.trans hf) |>.symm
      obtain rfl : fn = Tryd.f6 := (Option.some.inj (Tryd.func6.symm.trans hfn)).symm
      exact ⟨by kernel_rfl, fun j t ht => by
        rw [Tryd.params6] at ht
        have hm : t ∈ [22, 22, 5] := by simpa using Array.mem_of_getElem? ht
        have hall : ([22, 22, 5].all fun u => !Tryd.prog.wantsStandIn u) = true := by kernel_rfl
        exact (show Tryd.prog.wantsStandIn t = false by simpa using List.all_eq_true.1 hall t hm)⟩)
    (by kernel_rfl)
end RateToward

end Go.Proofs.YtkhbodlffhfmnaaDoor
