/-
  Proved: HashBack returns true for every number: what is stirred is told back, and what is told back is stirred to it. No condition but the card's own: the table of steps, tied to the program's text, holds at the start what that text lays.
-/
import Derived.Test.YtmomboinapgpjaaDoorHashKnown
namespace Go.Proofs.YtmomboinapgpjaaDoor
open Go.ChangeShapes Go.WideShapes Go.ChangeAt Go.RowKit Go.Proofs.HashMath

set_option maxRecDepth 100000 in
set_option maxHeartbeats 2000000 in
theorem hashBack_walk (x : Nat) (hx : x < 18446744073709551616) (w : World) (hS : Steps w) :
    Calls Tryd.prog 5 #[.int .u64 (x : Int)] w fun e w' => e = .returned (.bool true) ∧ Below w.heap.size w w' := by
  obtain ⟨m, hm, hml⟩ : ∃ m, mix x = m ∧ m < 18446744073709551616 := ⟨_, rfl, mix_lt hx⟩
  obtain ⟨k, hk, hkl⟩ : ∃ k, back x = k ∧ k < 18446744073709551616 := ⟨_, rfl, back_lt hx⟩
  have p0 : ∀ W, Steps W → Calls Tryd.prog 9 #[.int .u64 (x : Int)] W fun e w' => e = .returned (.int .u64 (m : Int)) ∧ Below W.heap.size W w' := fun W h => by rw [← hm]; exact mix_any x W h hx
  have P0 := Lib.hid p0
  have p1 : ∀ W, Steps W → Calls Tryd.prog 11 #[.int .u64 (m : Int)] W fun e w' => e = .returned (.int .u64 (x : Int)) ∧ Below W.heap.size W w' := fun W h => by have := back_any m W h hml; rw [← hm, back_mix hx, hm] at this; exact this
  have P1 := Lib.hid p1
  have p2 : ∀ W, Steps W → Calls Tryd.prog 11 #[.int .u64 (x : Int)] W fun e w' => e = .returned (.int .u64 (k : Int)) ∧ Below W.heap.size W w' := fun W h => by rw [← hk]; exact back_any x W h hx
  have P2 := Lib.hid p2
  have p3 : ∀ W, Steps W → Calls Tryd.prog 9 #[.int .u64 (k : Int)] W fun e w' => e = .returned (.int .u64 (x : Int)) ∧ Below W.heap.size W w' := fun W h => by have := mix_any k W h hkl; rw [← hk, mix_back hx, hk] at this; exact this
  have P3 := Lib.hid p3
  clear p0 p1 p2 p3 hm hk
  have b0 : Below w.heap.size w w := Below.refl _ _
  go_enter Tryd.func5, Tryd.ntmps5
  go_wp2_with fail
  refine (known_any _ (hS.later b0)).mono ?_
  rintro e w' ⟨rfl, g⟩
  have b1 := b0.trans (g.mono b0.size)
  clear b0 g
  go_wp2_with fail
  refine (P0.out _ (hS.later b1)).mono ?_
  rintro e w' ⟨rfl, g⟩
  have b2 := b1.trans (g.mono b1.size)
  clear b1 g
  go_wp2_with fail
  refine (P1.out _ (hS.later b2)).mono ?_
  rintro e w' ⟨rfl, g⟩
  have b3 := b2.trans (g.mono b2.size)
  clear b2 g
  go_wp2_with fail
  refine (P2.out _ (hS.later b3)).mono ?_
  rintro e w' ⟨rfl, g⟩
  have b4 := b3.trans (g.mono b3.size)
  clear b3 g
  go_wp2_with fail
  refine (P3.out _ (hS.later b4)).mono ?_
  rintro e w' ⟨rfl, g⟩
  have b5 := b4.trans (g.mono b4.size)
  clear b4 g
  go_wp2_with fail
  go_ret
  exact ⟨rfl, b5⟩

namespace HashBack
set_option linter.unusedSimpArgs false in
set_option maxRecDepth 100000 in
theorem lifted (os : Os) (started : os.Started) (H : Type) (enc : TypeId × Value → H) :
    ReturnsInHanded {} Tryd.checked os 5 .any (fun w args => (Rows.hashBackSpec.pre enc Tryd.prog Tryd.f5 [] false w args ∧ laidMetH Tryd.prog laidL w) ∧ sizedMet enc Tryd.prog Tryd.f5 (OpenSpec.ofChange Rows.hashBackSpec) false w args)
      (Rows.hashBackSpec.post enc Tryd.prog Tryd.f5 false true false false) := by
  refine returnsInHanded_of_change_and (C := Tryd.checked) (X := fun w _ => laidMetH Tryd.prog laidL w) (fun _ _ _ hh h => h.of_heap hh) own started (by kernel_rfl) Tryd.func5
    (ChangeSpec.witness_shaped (enc := enc) (C := Tryd.checked) (os := os) (X := fun w _ => laidMetH Tryd.prog laidL w) false (World.doorLaid Tryd.prog 400 os) #[.int .u64 0] 8 rfl (World.shaped_of_RefB (by kernel_rfl) (by kernel_rfl)) (by kernel_rfl) (by kernel_rfl) (by kernel_rfl) (door_met os _)) ?_
  intro W base args ds gs before hval0 hW _ _ hL _
  have hS := of_laid hL
  have hval : ∀ (j : Nat) t v, Tryd.f5.params[j]? = some t → args[j]? = some v → Value.okWide Tryd.prog W .any base t v := hval0
  have hW' := hW
  obtain ⟨p, q, hA0, hV, rfl, _, _⟩ := hW
  have hA : DataW.TrodAll enc Tryd.prog W 0 (fun _ => true) true Tryd.f5.params.toList args.toList ds p := hA0
  rw [Tryd.params5] at hA hval
  obtain ⟨v0, vs0, d0, ds0, p0, q0, hargs, rfl, rfl, h0, r0⟩ := trodAll_cons hA
  obtain ⟨rfl, rfl, rfl⟩ := trodAll_nil r0
  obtain rfl : args = #[v0] := by cases args; simp_all
  obtain ⟨rfl, rfl⟩ := trodVars_none hV
  obtain ⟨a0, rfl, rfl, rfl, w0⟩ := open_int Tryd.underlying22 (hval 0 22 v0 rfl rfl) h0
  have k0 := wf_u64 w0
  obtain ⟨n0, rfl⟩ : ∃ n : Nat, a0 = n := ⟨a0.toNat, by omega⟩
  clear hA0 hval0
  simp only [List.append_nil] at hW'
  refine (hashBack_walk n0 (by omega) W hS).mono fun e W' ⟨he, hg⟩ => ?_
  subst he
  exact ⟨_, rfl, true_last hW' rfl (by kernel_rfl) Tryd.underlying4 rfl rfl rfl (of_decide_eq_true (by kernel_rfl)) hg⟩

/-- The row. -/
theorem said : Rows.HashBackSaid :=
  OpenClaim.holds_of_wide 5 Tryd.f5 rfl rfl rfl rfl rfl rfl rfl ⟨rfl, rfl, rfl, rfl, rfl⟩ rfl rfl rfl rfl rfl (by kernel_rfl) Tryd.func5 (by kernel_rfl)
    (of_decide_eq_true (by kernel_rfl)) (by unfold Func.isWrapper; first | (rw [if_pos (by decide +kernel)]; kernel_rfl) | (rw [if_neg (by decide +kernel)]; exact ⟨rfl, rfl⟩))
    (fun os started H enc _ => lifted os started H enc)
/-- **HashBack, at every input: the card, its listed variables tied to the program's text.** -/
theorem proved : Rows.HashBackCardSaid :=
  Claim7.holds_tied_plain_at .later [] [.wider] true Rows.hashBackCard.stood.harness false
    said (fun _ h => by cases h) (by kernel_rfl) (fun _ h => by cases h) hashBack_row_tie rfl ⟨rfl, rfl⟩ (by kernel_rfl) rfl
    (fun f fn hf hfn => by
      obtain rfl : f = 5 := Option.some.inj ((show Tryd.prog.funcNamed "telemeter/telemeterlaw06.HashBack" = some 5 by kernel_rfl).symm.trans hf) |>.symm
      obtain rfl : fn = Tryd.f5 := (Option.some.inj (Tryd.func5.symm.trans hfn)).symm
      exact ⟨by kernel_rfl, fun j t ht => by
        rw [Tryd.params5] at ht
        have hm : t ∈ [22] := by simpa using Array.mem_of_getElem? ht
        have hall : ([22].all fun u => !Tryd.prog.wantsStandIn u) = true := by kernel_rfl
        exact (show Tryd.prog.wantsStandIn t = false by simpa using List.all_eq_true.1 hall t hm)⟩)
    (by kernel_rfl)
end HashBack

end Go.Proofs.YtmomboinapgpjaaDoor
