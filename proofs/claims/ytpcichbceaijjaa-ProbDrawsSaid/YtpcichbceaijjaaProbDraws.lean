/-
  Proved: ProbDraws returns true for every three numbers: a number that was drawn is the trace's; else its own low digits are; what stands above them does not matter. No condition.
-/
import Derived.Test.YtpcichbceaijjaaProbKnown
import Derived.Test.YtpcichbceaijjaaProbBackMath
namespace Go.Proofs.Ytpcichbceaijjaa
open Go.ChangeShapes Go.WideShapes Go.ChangeAt Go.RowKit Go.Proofs.ProbMath

theorem number_to (hi lo rv n : Nat) (v2 v3 v4 v5 v6 v7 v8 : Value) (w : World) (h : number lo rv = n) :
    Calls Try.prog 27 #[.agg #[.int .u64 (hi : Int), .int .u64 (lo : Int), v2, v3, v4, v5, v6, v7, v8, .int .u64 (rv : Int)]] w fun e w' => e = .returned (.int .u64 (n : Int)) ∧ Below w.heap.size w w' := by
  rw [← h]; exact number_any hi lo rv v2 v3 v4 v5 v6 v7 v8 w

set_option maxRecDepth 100000 in
set_option maxHeartbeats 1000000 in
theorem draws_walk (hi lo r : Nat) (_h1 : hi < 18446744073709551616) (h2 : lo < 18446744073709551616) (h3 : r < 18446744073709551616) (w : World) :
    Calls Try.prog 12 #[.int .u64 (hi : Int), .int .u64 (lo : Int), .int .u64 (r : Int)] w fun e w' => e = .returned (.bool true) ∧ Below w.heap.size w w' := by
  obtain ⟨n, e1, hn⟩ : ∃ n : Nat, (r : Int) % 72057594037927936 = (n : Int) ∧ n < 72057594037927936 := ⟨r % 72057594037927936, by omega, by omega⟩
  obtain ⟨n1, e2, hn1⟩ : ∃ n1 : Nat, (n : Int) + 1 = (n1 : Int) ∧ n1 = n + 1 := ⟨n + 1, by omega, rfl⟩
  obtain ⟨n2, e3, hn2⟩ : ∃ n2 : Nat, (72057594037927937 : Int) + (n : Int) = (n2 : Int) ∧ n2 = 72057594037927937 + n := ⟨72057594037927937 + n, by omega, rfl⟩
  obtain ⟨l, e4, hl⟩ : ∃ l : Nat, (lo : Int) % 72057594037927936 = (l : Int) ∧ l = lo % 72057594037927936 := ⟨lo % 72057594037927936, by omega, rfl⟩
  have m1 : number lo n1 = n := by unfold number; rw [if_pos (by omega)]; omega
  have m2 : number lo 0 = l := by unfold number; rw [if_neg (by omega)]; omega
  have m3 : number lo n2 = l := by unfold number; rw [if_neg (by omega)]; omega
  have M1 := Lib.hid m1
  have M2 := Lib.hid m2
  have M3 := Lib.hid m3
  clear m1 m2 m3 hn1 hn2 hl
  go_enter Try.func12, Try.ntmps12
  go_wp2_with fail
  refine (known_any _).mono ?_
  rintro e w1 ⟨rfl, hb1⟩
  go_wp2_with fail
  refine (number_to hi lo n1 n _ _ _ _ _ _ _ _ M1.out).mono ?_
  rintro e w2 ⟨rfl, hb2⟩
  go_wp2_with fail
  refine (number_to hi lo 0 l _ _ _ _ _ _ _ _ M2.out).mono ?_
  rintro e w3 ⟨rfl, hb3⟩
  go_wp2_with fail
  refine (number_to 0 lo n2 l _ _ _ _ _ _ _ _ M3.out).mono ?_
  rintro e w4 ⟨rfl, hb4⟩
  have hB : Below w.heap.size w w4 := hb1.trans ((hb2.trans ((hb3.trans (hb4.mono hb3.size)).mono hb2.size)).mono hb1.size)
  clear hb1 hb2 hb3 hb4
  go_wp2_with fail
  go_ret
  exact ⟨rfl, hB⟩

namespace ProbDraws
set_option linter.unusedSimpArgs false in
set_option maxRecDepth 100000 in
theorem lifted (os : Os) (started : os.Started) (H : Type) (enc : TypeId × Value → H) :
    ReturnsInHanded {} Try.checked os 12 .any (Rows.probDrawsSpec.pre6 enc Try.prog Try.f12 Rows.probDrawsRow.domain false) (Rows.probDrawsSpec.post enc Try.prog Try.f12 false true false false) := by
  refine returnsInHanded_of_change (C := Try.checked) own started (by kernel_rfl) Try.func12
    (ChangeSpec.witness6 (enc := enc) (C := Try.checked) false ⟨#[], #[.int .u64 0, .int .u64 0, .int .u64 0], []⟩ 8 (by kernel_rfl) (by kernel_rfl) (by kernel_rfl) (by kernel_rfl)) ?_
  intro W base args ds gs before hval0 hW _ _
  have hval : ∀ (j : Nat) t v, Try.f12.params[j]? = some t → args[j]? = some v → Value.okWide Try.prog W .any base t v := hval0
  have hW' := hW
  obtain ⟨p, q, hA0, hV, rfl, _, _⟩ := hW
  have hA : DataW.TrodAll enc Try.prog W 0 (fun _ => true) true Try.f12.params.toList args.toList ds p := hA0
  rw [Try.params12] at hA hval
  obtain ⟨v0, vs0, d0, ds0, p0, q0, hargs, rfl, rfl, h0, r0⟩ := trodAll_cons hA
  obtain ⟨v1, vs1, d1, ds1, p1, q1, rfl, rfl, rfl, h1, r1⟩ := trodAll_cons r0
  obtain ⟨v2, vs2, d2, ds2, p2, q2, rfl, rfl, rfl, h2, r2⟩ := trodAll_cons r1
  obtain ⟨rfl, rfl, rfl⟩ := trodAll_nil r2
  obtain rfl : args = #[v0, v1, v2] := by cases args; simp_all
  obtain ⟨rfl, rfl⟩ := trodVars_none hV
  obtain ⟨a0, rfl, rfl, rfl, w0⟩ := open_int Try.underlying23 (hval 0 23 v0 rfl rfl) h0
  have k0 := wf_u64 w0
  obtain ⟨n0, rfl⟩ : ∃ n : Nat, a0 = n := ⟨a0.toNat, by omega⟩
  obtain ⟨a1, rfl, rfl, rfl, w1⟩ := open_int Try.underlying23 (hval 1 23 v1 rfl rfl) h1
  have k1 := wf_u64 w1
  obtain ⟨n1, rfl⟩ : ∃ n : Nat, a1 = n := ⟨a1.toNat, by omega⟩
  obtain ⟨a2, rfl, rfl, rfl, w2⟩ := open_int Try.underlying23 (hval 2 23 v2 rfl rfl) h2
  have k2 := wf_u64 w2
  obtain ⟨n2, rfl⟩ : ∃ n : Nat, a2 = n := ⟨a2.toNat, by omega⟩
  clear hA0 hval0
  simp only [List.append_nil] at hW'
  refine (draws_walk n0 n1 n2 (by omega) (by omega) (by omega) W).mono fun e W' ⟨he, hg⟩ => ?_
  subst he
  exact ⟨_, rfl, true_last hW' rfl (by kernel_rfl) Try.underlying4 rfl rfl rfl (of_decide_eq_true (by kernel_rfl)) hg⟩

/-- **ProbDraws, at every input.** -/
theorem proved : Rows.ProbDrawsSaid :=
  OpenClaim.holds_of_wide 12 Try.f12 rfl rfl rfl rfl rfl rfl rfl ⟨rfl, rfl, rfl, rfl, rfl⟩ rfl rfl rfl rfl rfl (by kernel_rfl) Try.func12 (by kernel_rfl)
    (of_decide_eq_true (by kernel_rfl)) (by unfold Func.isWrapper; first | (rw [if_pos (by decide +kernel)]; kernel_rfl) | (rw [if_neg (by decide +kernel)]; exact ⟨rfl, rfl⟩))
    (fun os started H enc _ => lifted os started H enc)
end ProbDraws

end Go.Proofs.Ytpcichbceaijjaa
