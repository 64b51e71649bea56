/-
  Proved: ProbWeighs returns true for every two numbers: what is kept counts together for all numbers; both parts have no divisor in common. No condition.
-/
import Derived.Test.YtpcichbceaijjaaProbKnown
import Derived.Test.YtpcichbceaijjaaProbBackMath
namespace Go.Proofs.Ytpcichbceaijjaa
open Go.ChangeShapes Go.WideShapes Go.ChangeAt Go.RowKit Go.Proofs.ProbMath

set_option maxRecDepth 100000 in
set_option maxHeartbeats 1000000 in
theorem weighs_walk (a k : Nat) (ha : a < 18446744073709551616) (hk : k < 256) (w : World) :
    Calls Try.prog 11 #[.int .u64 (a : Int), .int .u8 (k : Int)] w fun e w' => e = .returned (.bool true) ∧ Below w.heap.size w w' := by
  go_enter Try.func11, Try.ntmps11
  go_wp2_with fail
  refine (near_any a k _ ha hk).mono ?_
  rintro e w' ⟨m, hm, rfl, rfl⟩
  obtain ⟨t, e1, ht⟩ : ∃ t : Nat, (m : Int) % 72057594037927936 = (t : Int) ∧ t < 72057594037927936 := ⟨m % 72057594037927936, by omega, by omega⟩
  obtain ⟨g, n, d, hg, hg0, hd0, hkd, hgn, hn, hd, hodd⟩ := weight_parts ht
  have t1 := fun W => weight_any t W ht
  rw [hg, hn, hd] at t1
  have t2 := fun W => kept_any t W
  obtain ⟨x, hx⟩ : ∃ x, x = kept t := ⟨_, rfl⟩
  rw [← hx] at t2 hkd
  have hxb : x ≤ 72057594037927936 := by rw [hx]; unfold kept; omega
  have e2 : (x : Int) % (d : Int) = 0 := by rw [hkd]; simp
  have e3 : (x : Int) / (d : Int) = (g : Int) := by rw [hkd, Int.natCast_mul]; exact Int.mul_ediv_cancel _ (by omega)
  have e4 : (g : Int) * (n : Int) = 72057594037927936 := by rw [← Int.natCast_mul, ← hgn]; rfl
  have hgl : g ≤ 72057594037927936 := Nat.le_of_dvd (by omega) ⟨n, hgn⟩
  have hnl : n ≤ 72057594037927936 := Nat.le_of_dvd (by omega) ⟨g, by rw [Nat.mul_comm]; exact hgn⟩
  have dd : ((d : Int) == 0) = false := by simp; omega
  have hdl : d ≤ x := Nat.le_of_dvd (by rw [hx]; exact kept_pos ht) ⟨g, by rw [Nat.mul_comm]; exact hkd⟩
  have T1 := Lib.hid t1
  have T2 := Lib.hid t2
  clear t1 t2 hg hkd hgn hn hd hx hm
  by_cases ho : n % 2 = 1
  · have e5 : (n : Int) % 2 = 1 := by omega
    clear hodd ho
    go_wp2_with fail
    refine (T1.out _).mono ?_
    rintro e w1 ⟨rfl, hb1⟩
    go_wp2_with fail
    refine (known_any _).mono ?_
    rintro e w2 ⟨rfl, hb2⟩
    have hB := hb1.trans (hb2.mono hb1.size)
    clear hb1 hb2
    go_wp2_with fail
    refine (T2.out _).mono ?_
    rintro e w3 ⟨rfl, rfl⟩
    go_wp2_with fail
    refine (T2.out _).mono ?_
    rintro e w3 ⟨rfl, rfl⟩
    go_wp2_with fail
    go_ret
    exact ⟨rfl, hB⟩
  · have e5 : (n : Int) % 2 = 0 := by omega
    have e6 : (d : Int) % 2 = 1 := by omega
    clear hodd ho
    go_wp2_with fail
    refine (T1.out _).mono ?_
    rintro e w1 ⟨rfl, hb1⟩
    go_wp2_with fail
    refine (known_any _).mono ?_
    rintro e w2 ⟨rfl, hb2⟩
    have hB := hb1.trans (hb2.mono hb1.size)
    clear hb1 hb2
    go_wp2_with fail
    refine (T2.out _).mono ?_
    rintro e w3 ⟨rfl, rfl⟩
    go_wp2_with fail
    refine (T2.out _).mono ?_
    rintro e w3 ⟨rfl, rfl⟩
    go_wp2_with fail
    go_ret
    exact ⟨rfl, hB⟩

namespace ProbWeighs
set_option linter.unusedSimpArgs false in
set_option maxRecDepth 100000 in
theorem lifted (os : Os) (started : os.Started) (H : Type) (enc : TypeId × Value → H) :
    ReturnsInHanded {} Try.checked os 11 .any (Rows.probWeighsSpec.pre6 enc Try.prog Try.f11 Rows.probWeighsRow.domain false) (Rows.probWeighsSpec.post enc Try.prog Try.f11 false true false false) := by
  refine returnsInHanded_of_change (C := Try.checked) own started (by kernel_rfl) Try.func11
    (ChangeSpec.witness6 (enc := enc) (C := Try.checked) false ⟨#[], #[.int .u64 0, .int .u8 0], []⟩ 8 (by kernel_rfl) (by kernel_rfl) (by kernel_rfl) (by kernel_rfl)) ?_
  intro W base args ds gs before hval0 hW _ _
  have hval : ∀ (j : Nat) t v, Try.f11.params[j]? = some t → args[j]? = some v → Value.okWide Try.prog W .any base t v := hval0
  have hW' := hW
  obtain ⟨p, q, hA0, hV, rfl, _, _⟩ := hW
  have hA : DataW.TrodAll enc Try.prog W 0 (fun _ => true) true Try.f11.params.toList args.toList ds p := hA0
  rw [Try.params11] at hA hval
  obtain ⟨v0, vs0, d0, ds0, p0, q0, hargs, rfl, rfl, h0, r0⟩ := trodAll_cons hA
  obtain ⟨v1, vs1, d1, ds1, p1, q1, rfl, rfl, rfl, h1, r1⟩ := trodAll_cons r0
  obtain ⟨rfl, rfl, rfl⟩ := trodAll_nil r1
  obtain rfl : args = #[v0, v1] := by cases args; simp_all
  obtain ⟨rfl, rfl⟩ := trodVars_none hV
  obtain ⟨a0, rfl, rfl, rfl, w0⟩ := open_int Try.underlying23 (hval 0 23 v0 rfl rfl) h0
  have k0 := wf_u64 w0
  obtain ⟨n0, rfl⟩ : ∃ n : Nat, a0 = n := ⟨a0.toNat, by omega⟩
  obtain ⟨a1, rfl, rfl, rfl, w1⟩ := open_int Try.underlying5 (hval 1 5 v1 rfl rfl) h1
  have k1 := wf_u8 w1
  obtain ⟨n1, rfl⟩ : ∃ u : UInt8, a1 = (u.toNat : Int) := ⟨UInt8.ofNat a1.toNat, by simp; omega⟩
  clear hA0 hval0
  simp only [List.append_nil] at hW'
  refine (weighs_walk n0 n1.toNat (by omega) n1.toNat_lt W).mono fun e W' ⟨he, hg⟩ => ?_
  subst he
  exact ⟨_, rfl, true_last hW' rfl (by kernel_rfl) Try.underlying4 rfl rfl rfl (of_decide_eq_true (by kernel_rfl)) hg⟩

/-- **ProbWeighs, at every input.** -/
theorem proved : Rows.ProbWeighsSaid :=
  OpenClaim.holds_of_wide 11 Try.f11 rfl rfl rfl rfl rfl rfl rfl ⟨rfl, rfl, rfl, rfl, rfl⟩ rfl rfl rfl rfl rfl (by kernel_rfl) Try.func11 (by kernel_rfl)
    (of_decide_eq_true (by kernel_rfl)) (by unfold Func.isWrapper; first | (rw [if_pos (by decide +kernel)]; kernel_rfl) | (rw [if_neg (by decide +kernel)]; exact ⟨rfl, rfl⟩))
    (fun os started H enc _ => lifted os started H enc)
end ProbWeighs

end Go.Proofs.Ytpcichbceaijjaa
