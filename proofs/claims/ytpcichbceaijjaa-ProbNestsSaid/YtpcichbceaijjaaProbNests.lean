/-
  Proved: ProbNests returns true for every six numbers: who has the lesser threshold keeps all that another one keeps. No condition.
-/
import Derived.Test.YtpcichbceaijjaaProbKnown
import Derived.Test.YtpcichbceaijjaaProbBackMath
namespace Go.Proofs.Ytpcichbceaijjaa
open Go.ChangeShapes Go.WideShapes Go.ChangeAt Go.RowKit Go.Proofs.ProbMath

theorem keep_to (r t : Nat) (b : Bool) (w : World) (h : keep r t = b) : Calls Try.prog 20 #[.int .u64 (r : Int), .int .u64 (t : Int)] w fun e w' => e = .returned (.bool b) ∧ w = w' := by
  rw [← h]; exact keep_any r t w
theorem keep_none (r : Nat) (w : World) : Calls Try.prog 20 #[.int .u64 (r : Int), .int .u64 72057594037927936] w fun e w' => e = .returned (.bool false) ∧ w = w' :=
  keep_to r 72057594037927936 false w (by unfold keep; rw [Bool.eq_false_iff]; simp)
theorem keep_zero (r : Nat) (b : Bool) (w : World) (h : decide (r < 72057594037927936) = b) : Calls Try.prog 20 #[.int .u64 (r : Int), .int .u64 0] w fun e w' => e = .returned (.bool b) ∧ w = w' :=
  keep_to r 0 b w (by unfold keep; rw [h]; simp)

set_option maxRecDepth 100000 in
set_option maxHeartbeats 2000000 in
theorem nests_walk (r a b k m n : Nat) (hr : r < 18446744073709551616) (ha : a < 18446744073709551616) (hb : b < 18446744073709551616) (hk : k < 256) (hm : m < 256) (hn : n < 256) (w : World) :
    Calls Try.prog 10 #[.int .u64 (r : Int), .int .u64 (a : Int), .int .u64 (b : Int), .int .u8 (k : Int), .int .u8 (m : Int), .int .u8 (n : Int)] w fun e w' => e = .returned (.bool true) ∧ Below w.heap.size w w' := by
  go_enter Try.func10, Try.ntmps10
  go_wp2_with fail
  refine (near_any r n _ hr hn).mono ?_
  rintro e w' ⟨x, hx, rfl, rfl⟩
  go_wp2_with fail
  refine (near_any a k _ ha hk).mono ?_
  rintro e w' ⟨s, hs, rfl, rfl⟩
  go_wp2_with fail
  refine (near_any b m _ hb hm).mono ?_
  rintro e w' ⟨t, ht, rfl, rfl⟩
  obtain ⟨mn, mx, e1, e2, hle⟩ : ∃ mn mx : Nat, min (s : Int) (t : Int) = (mn : Int) ∧ max (s : Int) (t : Int) = (mx : Int) ∧ mn ≤ mx := ⟨min s t, max s t, by omega, by omega, by omega⟩
  obtain ⟨k1, hk1⟩ : ∃ k1, k1 = kept mx := ⟨_, rfl⟩
  obtain ⟨k2, hk2⟩ : ∃ k2, k2 = kept mn := ⟨_, rfl⟩
  have hkk : k1 ≤ k2 := by rw [hk1, hk2]; unfold kept; omega
  have hdk : decide ((k1 : Int) ≤ (k2 : Int)) = true := by simp; omega
  have hdk' : decide (k1 ≤ k2) = true := by simp; omega
  have f1 := fun W => kept_any mx W
  have f2 := fun W => kept_any mn W
  rw [← hk1] at f1
  rw [← hk2] at f2
  obtain ⟨b1, hb1⟩ : ∃ b1, keep x mx = b1 := ⟨_, rfl⟩
  obtain ⟨b2, hb2⟩ : ∃ b2, keep x mn = b2 := ⟨_, rfl⟩
  obtain ⟨b3, hb3⟩ : ∃ b3, decide (x < 72057594037927936) = b3 := ⟨_, rfl⟩
  have himp : b1 = true → b2 = true := by
    rw [← hb1, ← hb2]; unfold keep; simp; omega
  have hdx : decide ((x : Int) < 72057594037927936) = b3 := by rw [← hb3]; exact decide_eq_decide.2 (by omega)
  have g1 := fun W => keep_to x mx b1 W hb1
  have g2 := fun W => keep_to x mn b2 W hb2
  have g3 := fun W => keep_zero x b3 W hb3
  have F1 := Lib.hid f1
  have F2 := Lib.hid f2
  have G1 := Lib.hid g1
  have G2 := Lib.hid g2
  have G3 := Lib.hid g3
  clear f1 f2 g1 g2 g3 hk1 hk2 hb1 hb2 hb3 hs ht hx hle hkk
  go_wp2_with fail
  refine (known_any _).mono ?_
  rintro e w2 ⟨rfl, hB⟩
  cases b1 with
  | true =>
    obtain rfl := himp rfl
    clear himp
    cases b3 with
    | true =>
      go_wp2_with fail
      refine (G1.out _).mono ?_
      rintro e w4 ⟨rfl, rfl⟩
      go_wp2_with fail
      refine (G2.out _).mono ?_
      rintro e w4 ⟨rfl, rfl⟩
      go_wp2_with fail
      refine (F1.out _).mono ?_
      rintro e w4 ⟨rfl, rfl⟩
      go_wp2_with fail
      refine (F2.out _).mono ?_
      rintro e w4 ⟨rfl, rfl⟩
      go_wp2_with fail
      refine (G3.out _).mono ?_
      rintro e w4 ⟨rfl, rfl⟩
      go_wp2_with fail
      refine (keep_none x _).mono ?_
      rintro e w4 ⟨rfl, rfl⟩
      go_wp2_with fail
      go_ret
      exact ⟨rfl, hB⟩
    | false =>
      go_wp2_with fail
      refine (G1.out _).mono ?_
      rintro e w4 ⟨rfl, rfl⟩
      go_wp2_with fail
      refine (G2.out _).mono ?_
      rintro e w4 ⟨rfl, rfl⟩
      go_wp2_with fail
      refine (F1.out _).mono ?_
      rintro e w4 ⟨rfl, rfl⟩
      go_wp2_with fail
      refine (F2.out _).mono ?_
      rintro e w4 ⟨rfl, rfl⟩
      go_wp2_with fail
      refine (G3.out _).mono ?_
      rintro e w4 ⟨rfl, rfl⟩
      go_wp2_with fail
      refine (keep_none x _).mono ?_
      rintro e w4 ⟨rfl, rfl⟩
      go_wp2_with fail
      go_ret
      exact ⟨rfl, hB⟩
  | false =>
    clear himp
    cases b3 with
    | true =>
      go_wp2_with fail
      refine (G1.out _).mono ?_
      rintro e w4 ⟨rfl, rfl⟩
      go_wp2_with fail
      refine (F1.out _).mono ?_
      rintro e w4 ⟨rfl, rfl⟩
      go_wp2_with fail
      refine (F2.out _).mono ?_
      rintro e w4 ⟨rfl, rfl⟩
      go_wp2_with fail
      refine (G3.out _).mono ?_
      rintro e w4 ⟨rfl, rfl⟩
      go_wp2_with fail
      refine (keep_none x _).mono ?_
      rintro e w4 ⟨rfl, rfl⟩
      go_wp2_with fail
      go_ret
      exact ⟨rfl, hB⟩
    | false =>
      go_wp2_with fail
      refine (G1.out _).mono ?_
      rintro e w4 ⟨rfl, rfl⟩
      go_wp2_with fail
      refine (F1.out _).mono ?_
      rintro e w4 ⟨rfl, rfl⟩
      go_wp2_with fail
      refine (F2.out _).mono ?_
      rintro e w4 ⟨rfl, rfl⟩
      go_wp2_with fail
      refine (G3.out _).mono ?_
      rintro e w4 ⟨rfl, rfl⟩
      go_wp2_with fail
      refine (keep_none x _).mono ?_
      rintro e w4 ⟨rfl, rfl⟩
      go_wp2_with fail
      go_ret
      exact ⟨rfl, hB⟩

namespace ProbNests
set_option linter.unusedSimpArgs false in
set_option maxRecDepth 100000 in
theorem lifted (os : Os) (started : os.Started) (H : Type) (enc : TypeId × Value → H) :
    ReturnsInHanded {} Try.checked os 10 .any (Rows.probNestsSpec.pre6 enc Try.prog Try.f10 Rows.probNestsRow.domain false) (Rows.probNestsSpec.post enc Try.prog Try.f10 false true false false) := by
  refine returnsInHanded_of_change (C := Try.checked) own started (by kernel_rfl) Try.func10
    (ChangeSpec.witness6 (enc := enc) (C := Try.checked) false ⟨#[], #[.int .u64 0, .int .u64 0, .int .u64 0, .int .u8 0, .int .u8 0, .int .u8 0], []⟩ 8 (by kernel_rfl) (by kernel_rfl) (by kernel_rfl) (by kernel_rfl)) ?_
  intro W base args ds gs before hval0 hW _ _
  have hval : ∀ (j : Nat) t v, Try.f10.params[j]? = some t → args[j]? = some v → Value.okWide Try.prog W .any base t v := hval0
  have hW' := hW
  obtain ⟨p, q, hA0, hV, rfl, _, _⟩ := hW
  have hA : DataW.TrodAll enc Try.prog W 0 (fun _ => true) true Try.f10.params.toList args.toList ds p := hA0
  rw [Try.params10] at hA hval
  obtain ⟨v0, vs0, d0, ds0, p0, q0, hargs, rfl, rfl, h0, r0⟩ := trodAll_cons hA
  obtain ⟨v1, vs1, d1, ds1, p1, q1, rfl, rfl, rfl, h1, r1⟩ := trodAll_cons r0
  obtain ⟨v2, vs2, d2, ds2, p2, q2, rfl, rfl, rfl, h2, r2⟩ := trodAll_cons r1
  obtain ⟨v3, vs3, d3, ds3, p3, q3, rfl, rfl, rfl, h3, r3⟩ := trodAll_cons r2
  obtain ⟨v4, vs4, d4, ds4, p4, q4, rfl, rfl, rfl, h4, r4⟩ := trodAll_cons r3
  obtain ⟨v5, vs5, d5, ds5, p5, q5, rfl, rfl, rfl, h5, r5⟩ := trodAll_cons r4
  obtain ⟨rfl, rfl, rfl⟩ := trodAll_nil r5
  obtain rfl : args = #[v0, v1, v2, v3, v4, v5] := by cases args; simp_all
  obtain ⟨rfl, rfl⟩ := trodVars_none hV
  obtain ⟨a0, rfl, rfl, rfl, w0⟩ := open_int Try.underlying23 (hval 0 23 v0 rfl rfl) h0
  have k0 := wf_u64 w0
  obtain ⟨n0, rfl⟩ : ∃ n : Nat, a0 = n := ⟨a0.toNat, by omega⟩
  obtain ⟨a1, rfl, rfl, rfl, w1⟩ := open_int Try.underlying23 (hval 1 23 v1 rfl rfl) h1
  have k1 := wf_u64 w1
  obtain ⟨n1, rfl⟩ : ∃ n : Nat, a1 = n := ⟨a1.toNat, by omega⟩
  obtain ⟨a2, rfl, rfl, rfl, w2⟩ := open_int Try.underlying23 (hval 2 23 v2 rfl rfl) h2
  have k2 := wf_u64 w2
  obtain ⟨n2, rfl⟩ : ∃ n : Nat, a2 = n := ⟨a2.toNat, by omega⟩
  obtain ⟨a3, rfl, rfl, rfl, w3⟩ := open_int Try.underlying5 (hval 3 5 v3 rfl rfl) h3
  have k3 := wf_u8 w3
  obtain ⟨n3, rfl⟩ : ∃ u : UInt8, a3 = (u.toNat : Int) := ⟨UInt8.ofNat a3.toNat, by simp; omega⟩
  obtain ⟨a4, rfl, rfl, rfl, w4⟩ := open_int Try.underlying5 (hval 4 5 v4 rfl rfl) h4
  have k4 := wf_u8 w4
  obtain ⟨n4, rfl⟩ : ∃ u : UInt8, a4 = (u.toNat : Int) := ⟨UInt8.ofNat a4.toNat, by simp; omega⟩
  obtain ⟨a5, rfl, rfl, rfl, w5⟩ := open_int Try.underlying5 (hval 5 5 v5 rfl rfl) h5
  have k5 := wf_u8 w5
  obtain ⟨n5, rfl⟩ : ∃ u : UInt8, a5 = (u.toNat : Int) := ⟨UInt8.ofNat a5.toNat, by simp; omega⟩
  clear hA0 hval0
  simp only [List.append_nil] at hW'
  refine (nests_walk n0 n1 n2 n3.toNat n4.toNat n5.toNat (by omega) (by omega) (by omega) n3.toNat_lt n4.toNat_lt n5.toNat_lt W).mono fun e W' ⟨he, hg⟩ => ?_
  subst he
  exact ⟨_, rfl, true_last hW' rfl (by kernel_rfl) Try.underlying4 rfl rfl rfl (of_decide_eq_true (by kernel_rfl)) hg⟩

/-- **ProbNests, at every input.** -/
theorem proved : Rows.ProbNestsSaid :=
  OpenClaim.holds_of_wide 10 Try.f10 rfl rfl rfl rfl rfl rfl rfl ⟨rfl, rfl, rfl, rfl, rfl⟩ rfl rfl rfl rfl rfl (by kernel_rfl) Try.func10 (by kernel_rfl)
    (of_decide_eq_true (by kernel_rfl)) (by unfold Func.isWrapper; first | (rw [if_pos (by decide +kernel)]; kernel_rfl) | (rw [if_neg (by decide +kernel)]; exact ⟨rfl, rfl⟩))
    (fun os started H enc _ => lifted os started H enc)
end ProbNests

end Go.Proofs.Ytpcichbceaijjaa
