/-
  The chapter's examples of rate hold.
-/
import Derived.Test.YtkhbodlffhfmnaaDoorRtAsk
import Derived.Test.YtkhbodlffhfmnaaDoorRtToward
namespace Go.Proofs.YtkhbodlffhfmnaaDoor
open Go.RowKit Go.Proofs.HashMath Go.Proofs.SkMath Go.Proofs.ProbMath Go.Proofs.RtMath

set_option maxRecDepth 100000 in
set_option maxHeartbeats 1000000 in
theorem known9_any (w : World) (hS : Steps w) :
    Calls Tryd.prog 11 #[] w fun e w' => e = .returned (.bool true) ∧ Below w.heap.size w w' := by
  have HT1 := Lib.hid (fun W => toward_any 0 72057594037927935 2 W (by omega) (by omega) (by omega) (by omega))
  rw [show toward 0 72057594037927935 2 = 36028797018963968 by decide] at HT1
  have HT2 := Lib.hid (fun W => toward_no 0 0 0 W (Or.inr (Or.inr rfl)))
  have HB1 := Lib.hid (fun W => rateBy_any 1 4 W (by omega))
  rw [show byN 1 4 = 54043195528445952 by decide] at HB1
  have HB2 := Lib.hid (fun W => rateBy_any 5 4 W (by omega))
  rw [show byN 5 4 = 0 by decide] at HB2
  have HC := Lib.hid (fun W => clamp_any 5 1 3 W)
  rw [show mid 5 1 3 = 3 by decide] at HC
  have HNEW := Lib.hid (rt_new (n₀ := w.heap.size) (w := w) (W := w) 2 8 1 10 1 hS hS.lt (Nat.le_refl _) (Below.refl _ _) (by omega) (by omega) (by omega) (by omega) (by omega) (by omega) (by omega) (by omega))
  have HNO := Lib.hid (fun W (h : Steps W) => rt_zero (W := W) 2 8 1 10 h (by omega) (by omega) (by omega) (by omega) (by omega) (by omega) (by omega))
  have H0 := Lib.hid (show byN 1 (told (sdL 1 (0 / 10)) ⟨#[97]⟩ 8 2 (tG 10 0 0 Z Z)) = 0 by
    rw [tG_Z, told_Z (by omega)]
    decide)
  clear hS
  go_enter Tryd.func11, Tryd.ntmps11
  go_wp2_with fail
  refine (HT1.out _).mono ?_
  rintro e w1 ⟨rfl, rfl⟩
  go_wp2_with fail
  refine (HT2.out _).mono ?_
  rintro e w1 ⟨rfl, rfl⟩
  go_wp2_with fail
  refine HNEW.out.mono ?_
  rintro e w1 ⟨bs, V, RT, rfl, _, _, hr⟩
  have HR := Lib.hid hr
  clear hr
  go_wp2_with fail
  refine (HNO.out _ HR.out.1.steps).mono ?_
  rintro e w2 ⟨rfl, hb⟩
  have HR2 := Lib.hid (HR.out.later hb)
  clear hb HR
  go_wp2_with fail
  have ha := HR2.out.ask 0 ⟨#[97]⟩ (by omega) (by omega) (by decide)
  rw [H0.out] at ha
  refine ha.mono ?_
  rintro e w3 ⟨rfl, bs3, _, _, hr⟩
  have HR3 := Lib.hid hr
  clear hr ha HR2
  go_wp2_with fail
  refine (HB1.out _).mono ?_
  rintro e w4 ⟨rfl, hb⟩
  have HR4 := Lib.hid (HR3.out.later hb)
  clear hb HR3
  go_wp2_with fail
  refine (HB2.out _).mono ?_
  rintro e w5 ⟨rfl, hb⟩
  have HR5 := Lib.hid (HR4.out.later hb)
  clear hb HR4
  go_wp2_with fail
  refine (HC.out _).mono ?_
  rintro e w6 ⟨rfl, rfl⟩
  go_wp2_with fail
  go_ret
  exact ⟨rfl, HR5.out.1.b⟩
end Go.Proofs.YtkhbodlffhfmnaaDoor
