/-
  Proved: ProbGrows returns true for every three numbers: who keeps more of as many has no greater threshold; who keeps as many of more has no lesser one. No condition.
-/
import Derived.Test.YtpcichbceaijjaaProbKnown
namespace Go.Proofs.Ytpcichbceaijjaa
open Go.ChangeShapes Go.WideShapes Go.ChangeAt Go.RowKit Go.Proofs.ProbMath

theorem threshold_to (k n T : Nat) (w : World) (hn : n < 18446744073709551616) (h0 : 0 < n) (h : k ≤ n) (hT : T = 72057594037927936 - share k n) : Calls Try.prog 13 #[.int .u64 (k : Int), .int .u64 (n : Int)] w fun e w' => e = .returned (.tuple #[.int .u64 (T : Int), .int .u16 0]) ∧ Below w.heap.size w w' := by
  rw [hT]; exact threshold_any k n w hn h0 h

set_option maxRecDepth 100000 in
set_option maxHeartbeats 1000000 in
theorem grows_walk (a b c : Nat) (ha : a ≤ 4294967295) (hb : b ≤ 4294967295) (hc : c ≤ 4294967295) (w : World) :
    Calls Try.prog 3 #[.int .u32 (a : Int), .int .u32 (b : Int), .int .u32 (c : Int)] w fun e w' => e = .returned (.bool true) ∧ Below w.heap.size w w' := by
  obtain ⟨mn, e1, hm1⟩ : ∃ mn : Nat, min (a : Int) (b : Int) = (mn : Int) ∧ mn ≤ 4294967295 := ⟨min a b, by omega, by omega⟩
  obtain ⟨mx, e2, hm2⟩ : ∃ mx : Nat, max (a : Int) (b : Int) = (mx : Int) ∧ mx ≤ 4294967295 := ⟨max a b, by omega, by omega⟩
  obtain ⟨o, e3, ho0, ho1⟩ : ∃ o : Nat, (c : Int) + 1 = (o : Int) ∧ 0 < o ∧ o ≤ 4294967296 := ⟨c + 1, by omega, by omega, by omega⟩
  obtain ⟨o1, e4, e4'⟩ : ∃ o1 : Nat, (o : Int) + 1 = (o1 : Int) ∧ o1 = o + 1 := ⟨o + 1, by omega, rfl⟩
  have ho1' : o1 ≤ 4294967297 := by omega
  have dz : ((o1 : Int) == 0) = false := by simp; omega
  have lx := Nat.mod_lt mn (show 0 < o1 by omega)
  have lz := Nat.mod_lt mx (show 0 < o1 by omega)
  obtain ⟨x, e5, hx⟩ : ∃ x : Nat, (mn : Int) % (o1 : Int) = (x : Int) ∧ x ≤ o := ⟨mn % o1, by simp, by omega⟩
  obtain ⟨z, e6, hz⟩ : ∃ z : Nat, (mx : Int) % (o1 : Int) = (z : Int) ∧ z ≤ o := ⟨mx % o1, by simp, by omega⟩
  obtain ⟨y, e7, hy1, hy2⟩ : ∃ y : Nat, max (x : Int) (z : Int) = (y : Int) ∧ y ≤ o ∧ x ≤ y := ⟨max x z, by omega, by omega, by omega⟩
  obtain ⟨p, e8, hp⟩ : ∃ p : Nat, (o : Int) + (a : Int) = (p : Int) ∧ p ≤ 8589934592 := ⟨o + a, by omega, by omega⟩
  obtain ⟨p1, e9, hp1, hp2⟩ : ∃ p1 : Nat, (p : Int) + 1 = (p1 : Int) ∧ p1 ≤ 8589934593 ∧ o ≤ p1 := ⟨p + 1, by omega, by omega, by omega⟩
  obtain ⟨S, hS⟩ : ∃ S, S = 72057594037927936 - share x o := ⟨_, rfl⟩
  obtain ⟨T, hT⟩ : ∃ T, T = 72057594037927936 - share y o := ⟨_, rfl⟩
  obtain ⟨U, hU⟩ : ∃ U, U = 72057594037927936 - share x p1 := ⟨_, rfl⟩
  have k1 : T ≤ S := by have := share_more (n := o) hy2; omega
  have k2 : S ≤ U := by have := share_of_more (a := x) ho0 hp2; omega
  have d1 : decide ((T : Int) ≤ (S : Int)) = true := by simp; omega
  have d2 : decide ((S : Int) ≤ (U : Int)) = true := by simp; omega
  have HS := Lib.hid hS
  have HT := Lib.hid hT
  have HU := Lib.hid hU
  clear hS hT hU lx lz e4'
  go_enter Try.func3, Try.ntmps3
  go_wp2_with fail
  refine (threshold_to x o S _ (by omega) ho0 hx HS.out).mono ?_
  rintro e w1 ⟨rfl, hb1⟩
  go_wp2_with fail
  refine (threshold_to y o T _ (by omega) ho0 hy1 HT.out).mono ?_
  rintro e w2 ⟨rfl, hb2⟩
  go_wp2_with fail
  refine (threshold_to x p1 U _ (by omega) (by omega) (by omega) HU.out).mono ?_
  rintro e w3 ⟨rfl, hb3⟩
  go_wp2_with fail
  refine (known_any _).mono ?_
  rintro e w4 ⟨rfl, hb4⟩
  have hB : Below w.heap.size w w4 := hb1.trans ((hb2.trans ((hb3.trans (hb4.mono hb3.size)).mono hb2.size)).mono hb1.size)
  clear hb1 hb2 hb3 hb4
  go_wp2_with fail
  go_ret
  exact ⟨rfl, hB⟩

namespace ProbGrows
set_option linter.unusedSimpArgs false in
set_option maxRecDepth 100000 in
theorem lifted (os : Os) (started : os.Started) (H : Type) (enc : TypeId × Value → H) :
    ReturnsInHanded {} Try.checked os 3 .any (Rows.probGrowsSpec.pre6 enc Try.prog Try.f3 Rows.probGrowsRow.domain false) (Rows.probGrowsSpec.post enc Try.prog Try.f3 false true false false) := by
  refine returnsInHanded_of_change (C := Try.checked) own started (by kernel_rfl) Try.func3
    (ChangeSpec.witness6 (enc := enc) (C := Try.checked) false ⟨#[], #[.int .u32 0, .int .u32 0, .int .u32 0], []⟩ 8 (by kernel_rfl) (by kernel_rfl) (by kernel_rfl) (by kernel_rfl)) ?_
  intro W base args ds gs before hval0 hW _ _
  have hval : ∀ (j : Nat) t v, Try.f3.params[j]? = some t → args[j]? = some v → Value.okWide Try.prog W .any base t v := hval0
  have hW' := hW
  obtain ⟨p, q, hA0, hV, rfl, _, _⟩ := hW
  have hA : DataW.TrodAll enc Try.prog W 0 (fun _ => true) true Try.f3.params.toList args.toList ds p := hA0
  rw [Try.params3] at hA hval
  obtain ⟨v0, vs0, d0, ds0, p0, q0, hargs, rfl, rfl, h0, r0⟩ := trodAll_cons hA
  obtain ⟨v1, vs1, d1, ds1, p1, q1, rfl, rfl, rfl, h1, r1⟩ := trodAll_cons r0
  obtain ⟨v2, vs2, d2, ds2, p2, q2, rfl, rfl, rfl, h2, r2⟩ := trodAll_cons r1
  obtain ⟨rfl, rfl, rfl⟩ := trodAll_nil r2
  obtain rfl : args = #[v0, v1, v2] := by cases args; simp_all
  obtain ⟨rfl, rfl⟩ := trodVars_none hV
  obtain ⟨a0, rfl, rfl, rfl, w0⟩ := open_int Try.underlying22 (hval 0 22 v0 rfl rfl) h0
  have k0 := wf_u32 w0
  obtain ⟨n0, rfl⟩ : ∃ n : Nat, a0 = n := ⟨a0.toNat, by omega⟩
  obtain ⟨a1, rfl, rfl, rfl, w1⟩ := open_int Try.underlying22 (hval 1 22 v1 rfl rfl) h1
  have k1 := wf_u32 w1
  obtain ⟨n1, rfl⟩ : ∃ n : Nat, a1 = n := ⟨a1.toNat, by omega⟩
  obtain ⟨a2, rfl, rfl, rfl, w2⟩ := open_int Try.underlying22 (hval 2 22 v2 rfl rfl) h2
  have k2 := wf_u32 w2
  obtain ⟨n2, rfl⟩ : ∃ n : Nat, a2 = n := ⟨a2.toNat, by omega⟩
  clear hA0 hval0
  simp only [List.append_nil] at hW'
  refine (grows_walk n0 n1 n2 (by omega) (by omega) (by omega) W).mono fun e W' ⟨he, hg⟩ => ?_
  subst he
  exact ⟨_, rfl, true_last hW' rfl (by kernel_rfl) Try.underlying4 rfl rfl rfl (of_decide_eq_true (by kernel_rfl)) hg⟩

/-- **ProbGrows, at every input.** -/
theorem proved : Rows.ProbGrowsSaid :=
  OpenClaim.holds_of_wide 3 Try.f3 rfl rfl rfl rfl rfl rfl rfl ⟨rfl, rfl, rfl, rfl, rfl⟩ rfl rfl rfl rfl rfl (by kernel_rfl) Try.func3 (by kernel_rfl)
    (of_decide_eq_true (by kernel_rfl)) (by unfold Func.isWrapper; first | (rw [if_pos (by decide +kernel)]; kernel_rfl) | (rw [if_neg (by decide +kernel)]; exact ⟨rfl, rfl⟩))
    (fun os started H enc _ => lifted os started H enc)
end ProbGrows

end Go.Proofs.Ytpcichbceaijjaa
