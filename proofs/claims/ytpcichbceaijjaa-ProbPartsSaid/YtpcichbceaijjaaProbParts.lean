/-
  Proved: ProbParts returns true for every number: a share of a whole number of digits has the weight that turns it round. No condition.
-/
import Derived.Test.YtpcichbceaijjaaProbKnown
import Derived.Test.YtpcichbceaijjaaProbBackMath
namespace Go.Proofs.Ytpcichbceaijjaa
open Go.ChangeShapes Go.WideShapes Go.ChangeAt Go.RowKit Go.Proofs.ProbMath

theorem pow_lit (c : Nat) (h : c ≤ 56) : (2 : Nat) ^ c ≤ 72057594037927936 ∧ 0 < (2 : Nat) ^ c := by
  have : (2 : Nat) ^ c ≤ 2 ^ 56 := Nat.pow_le_pow_right (by omega) h
  exact ⟨by omega, Nat.two_pow_pos c⟩

set_option maxRecDepth 100000 in
set_option maxHeartbeats 1000000 in
theorem parts_walk (k : Nat) (hk : k ≤ 255) (w : World) :
    Calls Try.prog 4 #[.int .u8 (k : Int)] w fun e w' => e = .returned (.bool true) ∧ Below w.heap.size w w' := by
  obtain ⟨c, e1, hc⟩ : ∃ c : Nat, (k : Int) % 57 = (c : Int) ∧ c ≤ 56 := ⟨k % 57, by omega, by omega⟩
  obtain ⟨h1, h2, h3, h4⟩ := parts ⟨c, by omega⟩
  simp only at h1 h2 h3 h4
  obtain ⟨p1, p2⟩ := pow_lit c hc
  obtain ⟨n, hn⟩ : ∃ n, n = 2 ^ c := ⟨_, rfl⟩
  have e2 : (2 : Int) ^ c = (n : Int) := by rw [hn]; simp
  rw [← hn] at h1 h2 h3 h4 p1 p2
  obtain ⟨T, hT⟩ : ∃ T, T = 72057594037927936 - share 1 n := ⟨_, rfl⟩
  rw [← hT] at h1 h2 h3
  have t1 := fun W => threshold_any 1 n W (by omega) p2 p2
  have t2 := fun W => threshold_any n n W (by omega) p2 (Nat.le_refl _)
  have t3 := fun W => weight_any T W h1
  rw [← hT] at t1
  rw [h4] at t2
  rw [h2, h3] at t3
  have T1 := Lib.hid t1
  have T2 := Lib.hid t2
  have T3 := Lib.hid t3
  clear t1 t2 t3 h2 h3 h4 hT hn
  go_enter Try.func4, Try.ntmps4
  go_wp2_with fail
  refine (T1.out _).mono ?_
  rintro e w1 ⟨rfl, hb1⟩
  go_wp2_with fail
  refine (T3.out _).mono ?_
  rintro e w2 ⟨rfl, hb2⟩
  go_wp2_with fail
  refine (T2.out _).mono ?_
  rintro e w3 ⟨rfl, hb3⟩
  go_wp2_with fail
  refine (known_any _).mono ?_
  rintro e w4 ⟨rfl, hb4⟩
  have hB : Below w.heap.size w w4 := hb1.trans ((hb2.trans ((hb3.trans (hb4.mono hb3.size)).mono hb2.size)).mono hb1.size)
  clear hb1 hb2 hb3 hb4
  go_wp2_with fail
  go_ret
  exact ⟨rfl, hB⟩

namespace ProbParts
set_option linter.unusedSimpArgs false in
set_option maxRecDepth 100000 in
theorem lifted (os : Os) (started : os.Started) (H : Type) (enc : TypeId × Value → H) :
    ReturnsInHanded {} Try.checked os 4 .any (Rows.probPartsSpec.pre6 enc Try.prog Try.f4 Rows.probPartsRow.domain false) (Rows.probPartsSpec.post enc Try.prog Try.f4 false true false false) := by
  refine returnsInHanded_of_change (C := Try.checked) own started (by kernel_rfl) Try.func4
    (ChangeSpec.witness6 (enc := enc) (C := Try.checked) false ⟨#[], #[.int .u8 0], []⟩ 8 (by kernel_rfl) (by kernel_rfl) (by kernel_rfl) (by kernel_rfl)) ?_
  intro W base args ds gs before hval0 hW _ _
  have hval : ∀ (j : Nat) t v, Try.f4.params[j]? = some t → args[j]? = some v → Value.okWide Try.prog W .any base t v := hval0
  have hW' := hW
  obtain ⟨p, q, hA0, hV, rfl, _, _⟩ := hW
  have hA : DataW.TrodAll enc Try.prog W 0 (fun _ => true) true Try.f4.params.toList args.toList ds p := hA0
  rw [Try.params4] at hA hval
  obtain ⟨v0, vs0, d0, ds0, p0, q0, hargs, rfl, rfl, h0, r0⟩ := trodAll_cons hA
  obtain ⟨rfl, rfl, rfl⟩ := trodAll_nil r0
  obtain rfl : args = #[v0] := by cases args; simp_all
  obtain ⟨rfl, rfl⟩ := trodVars_none hV
  obtain ⟨a0, rfl, rfl, rfl, w0⟩ := open_int Try.underlying5 (hval 0 5 v0 rfl rfl) h0
  have k0 := wf_u8 w0
  obtain ⟨n0, rfl⟩ : ∃ u : UInt8, a0 = (u.toNat : Int) := ⟨UInt8.ofNat a0.toNat, by simp; omega⟩
  clear hA0 hval0
  simp only [List.append_nil] at hW'
  refine (parts_walk n0.toNat (by have := n0.toNat_lt; omega) W).mono fun e W' ⟨he, hg⟩ => ?_
  subst he
  exact ⟨_, rfl, true_last hW' rfl (by kernel_rfl) Try.underlying4 rfl rfl rfl (of_decide_eq_true (by kernel_rfl)) hg⟩

/-- **ProbParts, at every input.** -/
theorem proved : Rows.ProbPartsSaid :=
  OpenClaim.holds_of_wide 4 Try.f4 rfl rfl rfl rfl rfl rfl rfl ⟨rfl, rfl, rfl, rfl, rfl⟩ rfl rfl rfl rfl rfl (by kernel_rfl) Try.func4 (by kernel_rfl)
    (of_decide_eq_true (by kernel_rfl)) (by unfold Func.isWrapper; first | (rw [if_pos (by decide +kernel)]; kernel_rfl) | (rw [if_neg (by decide +kernel)]; exact ⟨rfl, rfl⟩))
    (fun os started H enc _ => lifted os started H enc)
end ProbParts

end Go.Proofs.Ytpcichbceaijjaa
