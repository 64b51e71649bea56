/-
  Proved: ProbBack returns true for every number: a threshold's digits are told back, with noughts behind them, too. No condition.
-/
import Derived.Test.YtpcichbceaijjaaProbKnown
import Derived.Test.YtpcichbceaijjaaProbBackMath
namespace Go.Proofs.Ytpcichbceaijjaa
open Go.ChangeShapes Go.WideShapes Go.ChangeAt Go.RowKit Go.Proofs.ProbMath

set_option maxRecDepth 100000 in
set_option maxHeartbeats 1000000 in
theorem back_walk (a k : Nat) (ha : a < 18446744073709551616) (hk : k < 256) (w : World) :
    Calls Try.prog 8 #[.int .u64 (a : Int), .int .u8 (k : Int)] w fun e w' => e = .returned (.bool true) ∧ Below w.heap.size w w' := by
  go_enter Try.func8, Try.ntmps8
  go_wp2_with fail
  refine (near_any a k _ ha hk).mono ?_
  rintro e w' ⟨m, hm, rfl, rfl⟩
  obtain ⟨t, e1, ht⟩ : ∃ t : Nat, (m : Int) % 72057594037927936 = (t : Int) ∧ t < 72057594037927936 := ⟨m % 72057594037927936, by omega, by omega⟩
  have q1 := parse_digits t ht
  have q2 := parse_more t ht
  obtain ⟨cs, hcs⟩ : ∃ cs, digits t = cs := ⟨_, rfl⟩
  have hl := digits_len t
  have hl2 := stay_bounds t 14
  have t1 := fun W => digits_any t W ht
  rw [hcs] at q1 q2 hl t1
  obtain ⟨s, hs⟩ : ∃ s : ByteArray, s = ⟨cs.toArray⟩ := ⟨_, rfl⟩
  obtain ⟨s0, hs0⟩ : ∃ s0 : ByteArray, s0 = s ++ ⟨#[48]⟩ := ⟨_, rfl⟩
  have z1 : s.data.toList = cs := by rw [hs]
  have z2 : s0.data.toList = cs ++ [48] := by rw [hs0, hs]; simp
  obtain ⟨n, hn⟩ : ∃ n, s.size = n := ⟨_, rfl⟩
  have hnl : cs.length = n := by rw [← z1, size_list, hn]
  have hn14 : n ≤ 14 := by omega
  have hs0z : s0.size ≤ 15 := by rw [← size_list, z2]; simp; omega
  have p1 := fun W => parse_any s W (by omega)
  have p2 := fun W => parse_any s0 W (by omega)
  rw [z1, q1] at p1
  rw [z2, q2, hnl] at p2
  rw [← hs] at t1
  have T1 := Lib.hid t1
  have P1 := Lib.hid p1
  have ea : s ++ (⟨#[48]⟩ : ByteArray) = s0 := hs0.symm
  have ez : (((s.size + 1 : Nat) : Int)) ≤ 9223372036854775807 := by omega
  clear t1 p1 q1 q2 hcs hl hl2 z1 z2 hs hs0 hnl hm
  by_cases h14 : n = 14
  · subst h14
    simp only [if_true] at p2
    have P2 := Lib.hid p2
    clear p2
    go_wp2_with fail
    refine (T1.out _).mono ?_
    rintro e w1 ⟨rfl, hb1⟩
    go_wp2_with fail
    refine (P1.out _).mono ?_
    rintro e w2 ⟨rfl, hb2⟩
    go_wp2_with fail
    refine (P2.out _).mono ?_
    rintro e w3 ⟨rfl, hb3⟩
    go_wp2_with fail
    refine (known_any _).mono ?_
    rintro e w4 ⟨rfl, hb4⟩
    have hB : Below w.heap.size w w4 := hb1.trans ((hb2.trans ((hb3.trans (hb4.mono hb3.size)).mono hb2.size)).mono hb1.size)
    clear hb1 hb2 hb3 hb4
    go_wp2_with fail
    go_ret
    exact ⟨rfl, hB⟩
  · have dn : ((n : Int) == 14) = false := by simp; omega
    simp only [if_neg h14] at p2
    have P2 := Lib.hid p2
    clear p2 h14
    go_wp2_with fail
    refine (T1.out _).mono ?_
    rintro e w1 ⟨rfl, hb1⟩
    go_wp2_with fail
    refine (P1.out _).mono ?_
    rintro e w2 ⟨rfl, hb2⟩
    go_wp2_with fail
    refine (P2.out _).mono ?_
    rintro e w3 ⟨rfl, hb3⟩
    go_wp2_with fail
    refine (known_any _).mono ?_
    rintro e w4 ⟨rfl, hb4⟩
    have hB : Below w.heap.size w w4 := hb1.trans ((hb2.trans ((hb3.trans (hb4.mono hb3.size)).mono hb2.size)).mono hb1.size)
    clear hb1 hb2 hb3 hb4
    go_wp2_with fail
    go_ret
    exact ⟨rfl, hB⟩

namespace ProbBack
set_option linter.unusedSimpArgs false in
set_option maxRecDepth 100000 in
theorem lifted (os : Os) (started : os.Started) (H : Type) (enc : TypeId × Value → H) :
    ReturnsInHanded {} Try.checked os 8 .any (Rows.probBackSpec.pre6 enc Try.prog Try.f8 Rows.probBackRow.domain false) (Rows.probBackSpec.post enc Try.prog Try.f8 false true false false) := by
  refine returnsInHanded_of_change (C := Try.checked) own started (by kernel_rfl) Try.func8
    (ChangeSpec.witness6 (enc := enc) (C := Try.checked) false ⟨#[], #[.int .u64 0, .int .u8 0], []⟩ 8 (by kernel_rfl) (by kernel_rfl) (by kernel_rfl) (by kernel_rfl)) ?_
  intro W base args ds gs before hval0 hW _ _
  have hval : ∀ (j : Nat) t v, Try.f8.params[j]? = some t → args[j]? = some v → Value.okWide Try.prog W .any base t v := hval0
  have hW' := hW
  obtain ⟨p, q, hA0, hV, rfl, _, _⟩ := hW
  have hA : DataW.TrodAll enc Try.prog W 0 (fun _ => true) true Try.f8.params.toList args.toList ds p := hA0
  rw [Try.params8] at hA hval
  obtain ⟨v0, vs0, d0, ds0, p0, q0, hargs, rfl, rfl, h0, r0⟩ := trodAll_cons hA
  obtain ⟨v1, vs1, d1, ds1, p1, q1, rfl, rfl, rfl, h1, r1⟩ := trodAll_cons r0
  obtain ⟨rfl, rfl, rfl⟩ := trodAll_nil r1
  obtain rfl : args = #[v0, v1] := by cases args; simp_all
  obtain ⟨rfl, rfl⟩ := trodVars_none hV
  obtain ⟨a0, rfl, rfl, rfl, w0⟩ := open_int Try.underlying23 (hval 0 23 v0 rfl rfl) h0
  have k0 := wf_u64 w0
  obtain ⟨n0, rfl⟩ : ∃ n : Nat, a0 = n := ⟨a0.toNat, by omega⟩
  obtain ⟨a1, rfl, rfl, rfl, w1⟩ := open_int Try.underlying5 (hval 1 5 v1 rfl rfl) h1
  have k1 := wf_u8 w1
  obtain ⟨n1, rfl⟩ : ∃ u : UInt8, a1 = (u.toNat : Int) := ⟨UInt8.ofNat a1.toNat, by simp; omega⟩
  clear hA0 hval0
  simp only [List.append_nil] at hW'
  refine (back_walk n0 n1.toNat (by omega) (n1.toNat_lt) W).mono fun e W' ⟨he, hg⟩ => ?_
  subst he
  exact ⟨_, rfl, true_last hW' rfl (by kernel_rfl) Try.underlying4 rfl rfl rfl (of_decide_eq_true (by kernel_rfl)) hg⟩

/-- **ProbBack, at every input.** -/
theorem proved : Rows.ProbBackSaid :=
  OpenClaim.holds_of_wide 8 Try.f8 rfl rfl rfl rfl rfl rfl rfl ⟨rfl, rfl, rfl, rfl, rfl⟩ rfl rfl rfl rfl rfl (by kernel_rfl) Try.func8 (by kernel_rfl)
    (of_decide_eq_true (by kernel_rfl)) (by unfold Func.isWrapper; first | (rw [if_pos (by decide +kernel)]; kernel_rfl) | (rw [if_neg (by decide +kernel)]; exact ⟨rfl, rfl⟩))
    (fun os started H enc _ => lifted os started H enc)
end ProbBack

end Go.Proofs.Ytpcichbceaijjaa
