/-
  Proved: HashMixes returns true for every two numbers: Mix and Back of any number are what the chapter says. No condition but the card's own: the table of steps, tied to the program's text, holds at the start what that text lays.
-/
import Derived.Test.YtmomboinapgpjaaDoorHashKnown
namespace Go.Proofs.YtmomboinapgpjaaDoor
open Go.ChangeShapes Go.WideShapes Go.ChangeAt Go.RowKit Go.Proofs.HashMath

set_option maxRecDepth 100000 in
set_option maxHeartbeats 2000000 in
theorem hashMixes_walk (x k : Nat) (hx : x < 18446744073709551616) (hk : k < 256) (w : World) (hS : Steps w) :
    Calls Tryd.prog 3 #[.int .u64 (x : Int), .int .u8 (k : Int)] w fun e w' => e = .returned (.bool true) ∧ Below w.heap.size w w' := by
  obtain ⟨t, ht, htl⟩ : ∃ t : Nat, (k : Int) % 64 = (t : Int) ∧ t ≤ 63 := ⟨k % 64, by simp, by omega⟩
  obtain ⟨y, hy0, hy1, hyl⟩ := shl_bit (d := 1) (i := t) (by omega) htl
  have hy : (2 : Int) ^ t = (y : Int) := by rw [hy1]; simp
  clear hy0 hy1
  obtain ⟨m, hm⟩ : ∃ m, mix x = m := ⟨_, rfl⟩
  obtain ⟨n, hn⟩ : ∃ n, back x = n := ⟨_, rfl⟩
  obtain ⟨o, ho⟩ : ∃ o, mix y = o := ⟨_, rfl⟩
  obtain ⟨q, hq⟩ : ∃ q, back y = q := ⟨_, rfl⟩
  have p0 : ∀ W, Steps W → Calls Tryd.prog 9 #[.int .u64 (x : Int)] W fun e w' => e = .returned (.int .u64 (m : Int)) ∧ Below W.heap.size W w' := fun W h => by rw [← hm]; exact mix_any x W h hx
  have P0 := Lib.hid p0
  have r0 : ∀ W, Calls Tryd.prog 10 #[.int .u64 (x : Int)] W fun e w' => e = .returned (.int .u64 (m : Int)) ∧ W = w' := fun W => by rw [← hm]; exact refMix_any x W hx
  have R0 := Lib.hid r0
  have p1 : ∀ W, Steps W → Calls Tryd.prog 11 #[.int .u64 (x : Int)] W fun e w' => e = .returned (.int .u64 (n : Int)) ∧ Below W.heap.size W w' := fun W h => by rw [← hn]; exact back_any x W h hx
  have P1 := Lib.hid p1
  have r1 : ∀ W, Calls Tryd.prog 12 #[.int .u64 (x : Int)] W fun e w' => e = .returned (.int .u64 (n : Int)) ∧ W = w' := fun W => by rw [← hn]; exact refBack_any x W hx
  have R1 := Lib.hid r1
  have p2 : ∀ W, Steps W → Calls Tryd.prog 9 #[.int .u64 (y : Int)] W fun e w' => e = .returned (.int .u64 (o : Int)) ∧ Below W.heap.size W w' := fun W h => by rw [← ho]; exact mix_any y W h hyl
  have P2 := Lib.hid p2
  have r2 : ∀ W, Calls Tryd.prog 10 #[.int .u64 (y : Int)] W fun e w' => e = .returned (.int .u64 (o : Int)) ∧ W = w' := fun W => by rw [← ho]; exact refMix_any y W hyl
  have R2 := Lib.hid r2
  have p3 : ∀ W, Steps W → Calls Tryd.prog 11 #[.int .u64 (y : Int)] W fun e w' => e = .returned (.int .u64 (q : Int)) ∧ Below W.heap.size W w' := fun W h => by rw [← hq]; exact back_any y W h hyl
  have P3 := Lib.hid p3
  have r3 : ∀ W, Calls Tryd.prog 12 #[.int .u64 (y : Int)] W fun e w' => e = .returned (.int .u64 (q : Int)) ∧ W = w' := fun W => by rw [← hq]; exact refBack_any y W hyl
  have R3 := Lib.hid r3
  clear p0 p1 p2 p3 r0 r1 r2 r3 hm hn ho hq
  have b0 : Below w.heap.size w w := Below.refl _ _
  go_enter Tryd.func3, Tryd.ntmps3
  go_wp2_with fail
  refine (known_any _ (hS.later b0)).mono ?_
  rintro e w' ⟨rfl, g⟩
  have b1 := b0.trans (g.mono b0.size)
  clear b0 g
  go_wp2_with fail
  refine (P0.out _ (hS.later b1)).mono ?_
  rintro e w' ⟨rfl, g⟩
  have b2 := b1.trans (g.mono b1.size)
  clear b1 g
  go_wp2_with fail
  refine (R0.out _).mono ?_
  rintro e w' ⟨rfl, rfl⟩
  go_wp2_with fail
  refine (P1.out _ (hS.later b2)).mono ?_
  rintro e w' ⟨rfl, g⟩
  have b3 := b2.trans (g.mono b2.size)
  clear b2 g
  go_wp2_with fail
  refine (R1.out _).mono ?_
  rintro e w' ⟨rfl, rfl⟩
  go_wp2_with fail
  refine (P2.out _ (hS.later b3)).mono ?_
  rintro e w' ⟨rfl, g⟩
  have b4 := b3.trans (g.mono b3.size)
  clear b3 g
  go_wp2_with fail
  refine (R2.out _).mono ?_
  rintro e w' ⟨rfl, rfl⟩
  go_wp2_with fail
  refine (P3.out _ (hS.later b4)).mono ?_
  rintro e w' ⟨rfl, g⟩
  have b5 := b4.trans (g.mono b4.size)
  clear b4 g
  go_wp2_with fail
  refine (R3.out _).mono ?_
  rintro e w' ⟨rfl, rfl⟩
  go_wp2_with fail
  go_ret
  exact ⟨rfl, b5⟩

namespace HashMixes
set_option linter.unusedSimpArgs false in
set_option maxRecDepth 100000 in
theorem lifted (os : Os) (started : os.Started) (H : Type) (enc : TypeId × Value → H) :
    ReturnsInHanded {} Tryd.checked os 3 .any (fun w args => (Rows.hashMixesSpec.pre enc Tryd.prog Tryd.f3 [] false w args ∧ laidMetH Tryd.prog laidL w) ∧ sizedMet enc Tryd.prog Tryd.f3 (OpenSpec.ofChange Rows.hashMixesSpec) false w args)
      (Rows.hashMixesSpec.post enc Tryd.prog Tryd.f3 false true false false) := by
  refine returnsInHanded_of_change_and (C := Tryd.checked) (X := fun w _ => laidMetH Tryd.prog laidL w) (fun _ _ _ hh h => h.of_heap hh) own started (by kernel_rfl) Tryd.func3
    (ChangeSpec.witness_shaped (enc := enc) (C := Tryd.checked) (os := os) (X := fun w _ => laidMetH Tryd.prog laidL w) false (World.doorLaid Tryd.prog 400 os) #[.int .u64 0, .int .u8 0] 8 rfl (World.shaped_of_RefB (by kernel_rfl) (by kernel_rfl)) (by kernel_rfl) (by kernel_rfl) (by kernel_rfl) (door_met os _)) ?_
  intro W base args ds gs before hval0 hW _ _ hL _
  have hS := of_laid hL
  have hval : ∀ (j : Nat) t v, Tryd.f3.params[j]? = some t → args[j]? = some v → Value.okWide Tryd.prog W .any base t v := hval0
  have hW' := hW
  obtain ⟨p, q, hA0, hV, rfl, _, _⟩ := hW
  have hA : DataW.TrodAll enc Tryd.prog W 0 (fun _ => true) true Tryd.f3.params.toList args.toList ds p := hA0
  rw [Tryd.params3] at hA hval
  obtain ⟨v0, vs0, d0, ds0, p0, q0, hargs, rfl, rfl, h0, r0⟩ := trodAll_cons hA
  obtain ⟨v1, vs1, d1, ds1, p1, q1, rfl, rfl, rfl, h1, r1⟩ := trodAll_cons r0
  obtain ⟨rfl, rfl, rfl⟩ := trodAll_nil r1
  obtain rfl : args = #[v0, v1] := by cases args; simp_all
  obtain ⟨rfl, rfl⟩ := trodVars_none hV
  obtain ⟨a0, rfl, rfl, rfl, w0⟩ := open_int Tryd.underlying22 (hval 0 22 v0 rfl rfl) h0
  have k0 := wf_u64 w0
  obtain ⟨n0, rfl⟩ : ∃ n : Nat, a0 = n := ⟨a0.toNat, by omega⟩
  obtain ⟨a1, rfl, rfl, rfl, w1⟩ := open_int Tryd.underlying5 (hval 1 5 v1 rfl rfl) h1
  have k1 := wf_u8 w1
  obtain ⟨n1, rfl⟩ : ∃ u : UInt8, a1 = (u.toNat : Int) := ⟨UInt8.ofNat a1.toNat, by simp; omega⟩
  clear hA0 hval0
  simp only [List.append_nil] at hW'
  refine (hashMixes_walk n0 n1.toNat (by omega) n1.toNat_lt W hS).mono fun e W' ⟨he, hg⟩ => ?_
  subst he
  exact ⟨_, rfl, true_last hW' rfl (by kernel_rfl) Tryd.underlying4 rfl rfl rfl (of_decide_eq_true (by kernel_rfl)) hg⟩

/-- The row. -/
theorem said : Rows.HashMixesSaid :=
  OpenClaim.holds_of_wide 3 Tryd.f3 rfl rfl rfl rfl rfl rfl rfl ⟨rfl, rfl, rfl, rfl, rfl⟩ rfl rfl rfl rfl rfl (by kernel_rfl) Tryd.func3 (by kernel_rfl)
    (of_decide_eq_true (by kernel_rfl)) (by unfold Func.isWrapper; first | (rw [if_pos (by decide +kernel)]; kernel_rfl) | (rw [if_neg (by decide +kernel)]; exact ⟨rfl, rfl⟩))
    (fun os started H enc _ => lifted os started H enc)
/-- **HashMixes, at every input: the card, its listed variables tied to the program's text.** -/
theorem proved : Rows.HashMixesCardSaid :=
  Claim7.holds_tied_plain_at .later [] [.wider] true Rows.hashMixesCard.stood.harness false
    said (fun _ h => by cases h) (by kernel_rfl) (fun _ h => by cases h) hashMixes_row_tie rfl ⟨rfl, rfl⟩ (by kernel_rfl) rfl
    (fun f fn hf hfn => by
      obtain rfl : f = 3 := Option.some.inj ((show Tryd.prog.funcNamed "telemeter/telemeterlaw06.HashMixes" = some 3 by kernel_rfl).symm.trans hf) |>.symm
      obtain rfl : fn = Tryd.f3 := (Option.some.inj (Tryd.func3.symm.trans hfn)).symm
      exact ⟨by kernel_rfl, fun j t ht => by
        rw [Tryd.params3] at ht
        have hm : t ∈ [22, 5] := by simpa using Array.mem_of_getElem? ht
        have hall : ([22, 5].all fun u => !Tryd.prog.wantsStandIn u) = true := by kernel_rfl
        exact (show Tryd.prog.wantsStandIn t = false by simpa using List.all_eq_true.1 hall t hm)⟩)
    (by kernel_rfl)
end HashMixes

end Go.Proofs.YtmomboinapgpjaaDoor
