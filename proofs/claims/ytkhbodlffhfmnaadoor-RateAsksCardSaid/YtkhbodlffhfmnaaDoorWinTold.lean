/-
  What is told of a key that was added once, twice, or with others.
-/
import Derived.Test.YtkhbodlffhfmnaaDoorWinOn
namespace Go.Proofs.YtkhbodlffhfmnaaDoor
open Go.RowKit Go.Proofs.HashMath Go.Proofs.SkMath

theorem told_one {seed m r n : Nat} {s : ByteArray} (hr : 1 ≤ r) (hn : n < 18446744073709551616) : told seed s m r (addW seed s m r n Z) = n := by
  refine least_alone hr hn fun i hi => ?_
  unfold addW
  rw [add_alone (x := 0) hr (by omega) (fun _ _ => rfl) hi]
  unfold plus
  rw [if_pos (by omega), Nat.zero_add]

theorem told_two {seed m r n k : Nat} {s : ByteArray} (hr : 1 ≤ r) (hn : n + k < 18446744073709551616) : told seed s m r (addW seed s m r k (addW seed s m r n Z)) = n + k := by
  have h1 : ∀ i, i < r → addW seed s m r n Z i (placeOf seed s.data.toList m i) = n := fun i hi => by
    unfold addW
    rw [add_alone (x := 0) hr (by omega) (fun _ _ => rfl) hi]
    unfold plus
    rw [if_pos (by omega), Nat.zero_add]
  refine least_alone hr hn fun i hi => ?_
  unfold addW at h1 ⊢
  rw [add_alone (x := n) hr (by omega) h1 hi]
  unfold plus
  rw [if_pos hn]
theorem tF_same (long t : Nat) (f : Nat → Nat → Nat) : tF long t t f = f := if_pos rfl
theorem tG_same (long t : Nat) (f g : Nat → Nat → Nat) : tG long t t f g = g := if_pos rfl
theorem tF_Z (long now t : Nat) : tF long now t Z = Z := by unfold tF; split <;> rfl
theorem tG_Z (long now t : Nat) : tG long now t Z Z = Z := by unfold tG; split; rfl; split <;> rfl

theorem told_mono {seed m r : Nat} {s : ByteArray} {f g : Nat → Nat → Nat} (h : ∀ i j, f i j ≤ g i j) : told seed s m r f ≤ told seed s m r g :=
  le_least (least_lt _ _ _) fun _ hi => Nat.le_trans (least_le hi) (h _ _)
theorem told_up {seed m r n : Nat} {s k : ByteArray} {f : Nat → Nat → Nat} : told seed s m r f ≤ told seed s m r (addW seed k m r n f) := told_mono fun i j => add_up i j
theorem told_all {seed m r x : Nat} {s : ByteArray} {f : Nat → Nat → Nat} (h1 : 1 ≤ r) (h : ∀ i j, f i j ≤ x) : told seed s m r f ≤ x := least_all h1 h
theorem Wn.to {n₀ : Nat} {w W : World} {bs : List Nat} {V r m seed long now : Nat} {f g f' g' : Nat → Nat → Nat} (h : Wn n₀ w W bs V r m seed long now f g) (e1 : f = f') (e2 : g = g') : Wn n₀ w W bs V r m seed long now f' g' := e1 ▸ e2 ▸ h

end Go.Proofs.YtkhbodlffhfmnaaDoor
