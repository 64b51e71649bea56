/-
  The chapter's examples of hash hold.
-/
import Derived.Test.YtmomboinapgpjaaDoorHashRef
namespace Go.Proofs.YtmomboinapgpjaaDoor
open Go.RowKit Go.Proofs.HashMath

theorem mix0 : mix 0 = 0 := by decide +kernel
theorem back0 : back 0 = 0 := by decide +kernel
theorem mix1 : mix 1 = 6238072747940578789 := by decide +kernel
theorem in1 (seed : Nat) (cs : List UInt8) : inText seed cs 1 = 0 := by
  rw [in_yes (by omega)]
  exact Nat.mod_one _

set_option maxRecDepth 100000 in
set_option maxHeartbeats 1000000 in
theorem known_any (w : World) (hS : Steps w) :
    Calls Tryd.prog 8 #[] w fun e w' => e = .returned (.bool true) ∧ Below w.heap.size w w' := by
  have p0 : ∀ W, Steps W → Calls Tryd.prog 9 #[.int .u64 0] W fun e w' => e = .returned (.int .u64 0) ∧ Below W.heap.size W w' := fun W h => by
    have := mix_any 0 W h (by omega)
    rw [mix0] at this
    exact this
  have p1 : ∀ W, Steps W → Calls Tryd.prog 11 #[.int .u64 0] W fun e w' => e = .returned (.int .u64 0) ∧ Below W.heap.size W w' := fun W h => by
    have := back_any 0 W h (by omega)
    rw [back0] at this
    exact this
  have p2 : ∀ W, Steps W → Calls Tryd.prog 15 #[.int .u64 3, .string ⟨#[120]⟩, .int .i64 1] W fun e w' => e = .returned (.int .i64 0) ∧ Below W.heap.size W w' := fun W h => by
    have := in_any 3 ⟨#[120]⟩ 1 W h (by omega) (by decide) (by omega) (by omega)
    rw [in1] at this
    exact this
  have p3 : ∀ W, Steps W → Calls Tryd.prog 15 #[.int .u64 3, .string ⟨#[120]⟩, .int .i64 0] W fun e w' => e = .returned (.int .i64 0) ∧ Below W.heap.size W w' := fun W h => by
    have := in_any 3 ⟨#[120]⟩ 0 W h (by omega) (by decide) (by omega) (by omega)
    rw [in_no (by omega)] at this
    exact this
  have p4 : ∀ W, Steps W → Calls Tryd.prog 9 #[.int .u64 1] W fun e w' => e = .returned (.int .u64 6238072747940578789) ∧ Below W.heap.size W w' := fun W h => by
    have := mix_any 1 W h (by omega)
    rw [mix1] at this
    exact this
  have p5 : ∀ W, Steps W → Calls Tryd.prog 11 #[.int .u64 6238072747940578789] W fun e w' => e = .returned (.int .u64 1) ∧ Below W.heap.size W w' := fun W h => by
    have := back_any 6238072747940578789 W h (by omega)
    rw [← mix1, back_mix (by omega), mix1] at this
    exact this
  have P0 := Lib.hid p0
  have P1 := Lib.hid p1
  have P2 := Lib.hid p2
  have P3 := Lib.hid p3
  have P4 := Lib.hid p4
  have P5 := Lib.hid p5
  clear p0 p1 p2 p3 p4 p5
  go_enter Tryd.func8, Tryd.ntmps8
  go_wp2_with fail
  refine (P0.out _ hS).mono ?_
  rintro e w1 ⟨rfl, b1⟩
  go_wp2_with fail
  refine (P1.out _ (hS.later b1)).mono ?_
  rintro e w2 ⟨rfl, b2⟩
  have b2 := b1.trans (b2.mono b1.size)
  go_wp2_with fail
  refine (P2.out _ (hS.later b2)).mono ?_
  rintro e w3 ⟨rfl, b3⟩
  have b3 := b2.trans (b3.mono b2.size)
  go_wp2_with fail
  refine (P3.out _ (hS.later b3)).mono ?_
  rintro e w4 ⟨rfl, b4⟩
  have b4 := b3.trans (b4.mono b3.size)
  go_wp2_with fail
  refine (P4.out _ (hS.later b4)).mono ?_
  rintro e w5 ⟨rfl, b5⟩
  have b5 := b4.trans (b5.mono b4.size)
  go_wp2_with fail
  refine (P5.out _ (hS.later b5)).mono ?_
  rintro e w6 ⟨rfl, b6⟩
  have b6 := b5.trans (b6.mono b5.size)
  go_wp2_with fail
  refine (P4.out _ (hS.later b6)).mono ?_
  rintro e w7 ⟨rfl, b7⟩
  have b7 := b6.trans (b7.mono b6.size)
  go_wp2_with fail
  go_ret
  exact ⟨rfl, b7⟩
end Go.Proofs.YtmomboinapgpjaaDoor
