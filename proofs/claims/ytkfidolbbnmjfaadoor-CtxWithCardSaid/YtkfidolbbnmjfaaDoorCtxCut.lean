/-
  strings.Cut at a sign of one byte, whatever the text.
-/
import Derived.Deep.QuietTactic
import Derived.BigQuiet
import Derived.Test.YtkfidolbbnmjfaaDoorCtxSplit
namespace Go.Proofs.YtkfidolbbnmjfaaDoor
open Go.RowKit Go.Shelf Go.Proofs.CtxState

def cutV (o : Option (List UInt8 × List UInt8)) (s : ByteArray) : Value := match o with
  | none => .tuple #[.string s, .string ⟨#[]⟩, .bool false]
  | some (x, y) => .tuple #[.string (bs x), .string (bs y), .bool true]

set_option maxRecDepth 100000 in
set_option maxHeartbeats 2000000 in
theorem slcut_any (s : ByteArray) (c : UInt8) (w : World) (hs : s.size ≤ 9223372036854775806) :
    Calls Tryd.prog 81 #[.string s, .string ⟨#[c]⟩] w fun e w' => e = .returned (cutV (cutAt c s.data.toList) s) ∧ ∃ k, w' = w.drewN k := by
  rcases splitB_cases s c with ⟨hi, _, hc⟩ | ⟨i, hi, hil, _, x, y, hc, hx, hy⟩
  · have hI := fun W => slite_one s c W (-1) hi
    have HC := Lib.hid hc
    clear hi hc
    go_enter Tryd.func81, Tryd.ntmps81
    go_wp2_with fail
    refine (hI _).mono ?_
    rintro e w' ⟨rfl, rfl⟩
    go_wp2_with fail
    go_ret3
    exact ⟨by rw [HC.out]; rfl, 0, rfl⟩
  · have hI := fun W => slite_one s c W (i : Int) hi
    obtain ⟨m, hm⟩ : ∃ m, s.size = m := ⟨_, rfl⟩
    rw [hm] at hs hil hy
    obtain ⟨hw, hj⟩ := w64 hil hs
    have hjm : i + 1 ≤ m := hil
    obtain ⟨j, hj0⟩ : ∃ j : Nat, j = i + 1 := ⟨_, rfl⟩
    rw [← hj0] at hj hjm hy
    have HC := Lib.hid hc
    have d0 : decide (0 ≤ (i : Int)) = true := by simp
    clear hi hc hj0 hs
    go_enter Tryd.func81, Tryd.ntmps81
    go_wp2_with fail
    refine (hI _).mono ?_
    rintro e w' ⟨rfl, rfl⟩
    go_wp2_with fail
    go_quiet (fail)
    go_wp2_with fail
    go_ret3
    exact ⟨by rw [HC.out]; rfl, _, rfl⟩

set_option maxRecDepth 100000 in
set_option maxHeartbeats 2000000 in
theorem cut_any (s : ByteArray) (c : UInt8) (w : World) (hs : s.size ≤ 9223372036854775806) :
    Calls Tryd.prog 70 #[.string s, .string ⟨#[c]⟩] w fun e w' => e = .returned (cutV (cutAt c s.data.toList) s) ∧ ∃ k, w' = w.drewN k := by
  have hI := fun W => slcut_any s c W hs
  cases hc : cutAt c s.data.toList with
  | none =>
    rw [hc] at hI
    dsimp only [cutV] at hI ⊢
    clear hc
    go_enter Tryd.func70, Tryd.ntmps70
    go_wp2_with fail
    refine (hI _).mono ?_
    rintro e w' ⟨rfl, k, rfl⟩
    go_wp2_with fail
    go_ret3
    exact ⟨rfl, _, rfl⟩
  | some p =>
    obtain ⟨x, y⟩ := p
    rw [hc] at hI
    dsimp only [cutV] at hI ⊢
    clear hc
    go_enter Tryd.func70, Tryd.ntmps70
    go_wp2_with fail
    refine (hI _).mono ?_
    rintro e w' ⟨rfl, k, rfl⟩
    go_wp2_with fail
    go_ret3
    exact ⟨rfl, _, rfl⟩
end Go.Proofs.YtkfidolbbnmjfaaDoor
