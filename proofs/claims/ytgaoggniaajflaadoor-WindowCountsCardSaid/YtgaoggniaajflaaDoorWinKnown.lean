/-
  The chapter's example of window holds.
-/
import Derived.Test.YtgaoggniaajflaaDoorWinOn
namespace Go.Proofs.YtgaoggniaajflaaDoor
open Go.RowKit Go.Proofs.HashMath Go.Proofs.SkMath

theorem told_one {seed m r n : Nat} {s : ByteArray} (hr : 1 ≤ r) (hn : n < 18446744073709551616) : told seed s m r (addW seed s m r n Z) = n := by
  refine least_alone hr hn fun i hi => ?_
  unfold addW
  rw [add_alone (x := 0) hr (by omega) (fun _ _ => rfl) hi]
  unfold plus
  rw [if_pos (by omega), Nat.zero_add]

theorem told_two {seed m r n k : Nat} {s : ByteArray} (hr : 1 ≤ r) (hn : n + k < 18446744073709551616) : told seed s m r (addW seed s m r k (addW seed s m r n Z)) = n + k := by
  have h1 : ∀ i, i < r → addW seed s m r n Z i (placeOf seed s.data.toList m i) = n := fun i hi => by
    unfold addW
    rw [add_alone (x := 0) hr (by omega) (fun _ _ => rfl) hi]
    unfold plus
    rw [if_pos (by omega), Nat.zero_add]
  refine least_alone hr hn fun i hi => ?_
  unfold addW at h1 ⊢
  rw [add_alone (x := n) hr (by omega) h1 hi]
  unfold plus
  rw [if_pos hn]
theorem tF_same (long t : Nat) (f : Nat → Nat → Nat) : tF long t t f = f := if_pos rfl
theorem tG_same (long t : Nat) (f g : Nat → Nat → Nat) : tG long t t f g = g := if_pos rfl
theorem tF_Z (long now t : Nat) : tF long now t Z = Z := by unfold tF; split <;> rfl
theorem tG_Z (long now t : Nat) : tG long now t Z Z = Z := by unfold tG; split; rfl; split <;> rfl

theorem told_mono {seed m r : Nat} {s : ByteArray} {f g : Nat → Nat → Nat} (h : ∀ i j, f i j ≤ g i j) : told seed s m r f ≤ told seed s m r g :=
  le_least (least_lt _ _ _) fun _ hi => Nat.le_trans (least_le hi) (h _ _)
theorem told_up {seed m r n : Nat} {s k : ByteArray} {f : Nat → Nat → Nat} : told seed s m r f ≤ told seed s m r (addW seed k m r n f) := told_mono fun i j => add_up i j
theorem told_all {seed m r x : Nat} {s : ByteArray} {f : Nat → Nat → Nat} (h1 : 1 ≤ r) (h : ∀ i j, f i j ≤ x) : told seed s m r f ≤ x := least_all h1 h
theorem Wn.to {n₀ : Nat} {w W : World} {bs : List Nat} {V r m seed long now : Nat} {f g f' g' : Nat → Nat → Nat} (h : Wn n₀ w W bs V r m seed long now f g) (e1 : f = f') (e2 : g = g') : Wn n₀ w W bs V r m seed long now f' g' := e1 ▸ e2 ▸ h

set_option maxRecDepth 100000 in
set_option maxHeartbeats 1000000 in
theorem known8_any (w : World) (hS : Steps w) :
    Calls Tryd.prog 8 #[] w fun e w' => e = .returned (.bool true) ∧ Below w.heap.size w w' := by
  have hNew := wn_new (w := w) (W := w) 2 8 1 10 hS hS.lt (Nat.le_refl _) (Below.refl _ _) (by omega) (by omega) (by omega) (by omega) (by omega) (by omega) (by omega)
  have HNEW := Lib.hid hNew
  have HNO1 := Lib.hid (fun W => wn_none (W := W) 2 8 1 0 (Or.inr (by omega)))
  have HNO2 := Lib.hid (fun W => wn_none (W := W) 0 8 1 5 (Or.inl (by omega)))
  obtain ⟨F, hF⟩ : ∃ F, addW (sd 1 (3 / 10)) ⟨#[97]⟩ 8 2 5 (tF 10 0 3 Z) = F := ⟨_, rfl⟩
  have h5 : told (sdL 1 (12 / 10)) ⟨#[97]⟩ 8 2 (tG 10 3 12 F Z) = 5 := by
    rw [← hF]
    exact told_one (by omega) (by omega)
  have h0 : told (sdL 1 (25 / 10)) ⟨#[97]⟩ 8 2 (tG 10 12 25 (tF 10 3 12 F) (tG 10 3 12 F Z)) = 0 := told_Z (by omega)
  have HF := Lib.hid hF
  have H5 := Lib.hid h5
  have H0 := Lib.hid h0
  clear hNew hF h5 h0 hS
  go_enter Tryd.func8, Tryd.ntmps8
  go_wp2_with fail
  refine HNEW.out.mono ?_
  rintro e w1 ⟨bs, V, rfl, _, _, hw⟩
  have HW := Lib.hid hw
  clear hw
  go_wp2_with fail
  refine (HNO1.out _).mono ?_
  rintro e w2 ⟨rfl, hb⟩
  have HW2 := Lib.hid (HW.out.later hb)
  clear hb HW
  go_wp2_with fail
  refine (HNO2.out _).mono ?_
  rintro e w3 ⟨rfl, hb⟩
  have HW3 := Lib.hid (HW2.out.later hb)
  clear hb HW2
  go_wp2_with fail
  refine (HW3.out.add 3 ⟨#[97]⟩ 5 (by omega) (by omega) (by decide) (by omega)).mono ?_
  rintro e w4 ⟨rfl, bs4, _, _, hw⟩
  rw [HF.out] at hw
  have HW4 := Lib.hid hw
  clear hw HW3
  go_wp2_with fail
  have hc := HW4.out.closed 12 ⟨#[97]⟩ (by omega) (by omega) (by decide)
  rw [show tG 10 0 3 Z Z = Z from rfl, H5.out] at hc
  refine hc.mono ?_
  rintro e w5 ⟨rfl, bs5, _, _, hw⟩
  have HW5 := Lib.hid hw
  clear hw HW4
  go_wp2_with fail
  have hc := HW5.out.closed 25 ⟨#[97]⟩ (by omega) (by omega) (by decide)
  rw [H0.out] at hc
  refine hc.mono ?_
  rintro e w6 ⟨rfl, bs6, _, _, hw⟩
  have HW6 := Lib.hid hw
  clear hw HW5 hc
  go_wp2_with fail
  refine (HW6.out.open_no 24 ⟨#[97]⟩ (by omega)).mono ?_
  rintro e w7 ⟨rfl, hb⟩
  have HW7 := Lib.hid (HW6.out.later hb)
  clear hb HW6
  go_wp2_with fail
  go_ret
  exact ⟨rfl, HW7.out.b⟩
end Go.Proofs.YtgaoggniaajflaaDoor
