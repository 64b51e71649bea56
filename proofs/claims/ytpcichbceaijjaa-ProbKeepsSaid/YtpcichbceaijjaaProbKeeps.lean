/-
  Proved: ProbKeeps returns true for every four numbers: Keep, Kept, Weight and Digits of any numbers are what the chapter says. No condition.
-/
import Derived.Test.YtpcichbceaijjaaProbRefText
namespace Go.Proofs.Ytpcichbceaijjaa
open Go.ChangeShapes Go.WideShapes Go.ChangeAt Go.RowKit Go.Proofs.ProbMath

set_option maxRecDepth 100000 in
set_option maxHeartbeats 2000000 in
theorem keeps_walk (a b k m : Nat) (ha : a < 18446744073709551616) (hb : b < 18446744073709551616) (hk : k < 256) (hm : m < 256) (w : World) :
    Calls Try.prog 5 #[.int .u64 (a : Int), .int .u64 (b : Int), .int .u8 (k : Int), .int .u8 (m : Int)] w fun e w' => e = .returned (.bool true) ∧ Below w.heap.size w w' := by
  go_enter Try.func5, Try.ntmps5
  go_wp2_with fail
  refine (near_any a k _ ha hk).mono ?_
  rintro e w' ⟨r, hr, rfl, rfl⟩
  go_wp2_with fail
  refine (near_any b m _ hb hm).mono ?_
  rintro e w' ⟨t, ht, rfl, rfl⟩
  obtain ⟨x, hx⟩ : ∃ x, keep r t = x := ⟨_, rfl⟩
  obtain ⟨y, hy⟩ : ∃ y, kept t = y := ⟨_, rfl⟩
  have k1 := fun W => keep_any r t W
  have k2 := fun W => refKeep_any r t W
  have p1 := fun W => kept_any t W
  have p2 := fun W => refKept_any t W
  rw [hx] at k1 k2
  rw [hy] at p1 p2
  have K1 := Lib.hid k1
  have K2 := Lib.hid k2
  have P1 := Lib.hid p1
  have P2 := Lib.hid p2
  clear k1 k2 p1 p2 hx
  by_cases h : t < 72057594037927936
  · have w1 := fun W => weight_any t W h
    have w2 := fun W => refWeight_any t W h
    have d1 := fun W => digits_any t W h
    have d2 := fun W => refDigits_any t W h
    obtain ⟨n, hn⟩ : ∃ n, 72057594037927936 / both t = n := ⟨_, rfl⟩
    obtain ⟨d, hd⟩ : ∃ d, kept t / both t = d := ⟨_, rfl⟩
    obtain ⟨s, hs⟩ : ∃ s : ByteArray, ⟨(digits t).toArray⟩ = s := ⟨_, rfl⟩
    rw [hn, hd] at w1 w2
    rw [hs] at d1 d2
    have W1 := Lib.hid w1
    have W2 := Lib.hid w2
    have D1 := Lib.hid d1
    have D2 := Lib.hid d2
    clear w1 w2 d1 d2 hn hd hs hy
    go_wp2_with fail
    refine (W1.out _).mono ?_
    rintro e w4 ⟨rfl, hb1⟩
    go_wp2_with fail
    refine (W2.out _).mono ?_
    rintro e w4 ⟨rfl, hb2⟩
    go_wp2_with fail
    refine (D1.out _).mono ?_
    rintro e w4 ⟨rfl, hb3⟩
    go_wp2_with fail
    refine (D2.out _).mono ?_
    rintro e w4 ⟨rfl, rfl⟩
    go_wp2_with fail
    refine (known_any _).mono ?_
    rintro e w4 ⟨rfl, hb4⟩
    have hB := hb1.trans ((hb2.trans ((hb3.trans (hb4.mono hb3.size)).mono hb2.size)).mono hb1.size)
    clear hb1 hb2 hb3 hb4
    go_wp2_with fail
    refine (K1.out _).mono ?_
    rintro e w4 ⟨rfl, rfl⟩
    go_wp2_with fail
    refine (K2.out _).mono ?_
    rintro e w4 ⟨rfl, rfl⟩
    go_wp2_with fail
    refine (P1.out _).mono ?_
    rintro e w4 ⟨rfl, rfl⟩
    go_wp2_with fail
    refine (P2.out _).mono ?_
    rintro e w4 ⟨rfl, rfl⟩
    go_wp2_with fail
    go_ret
    exact ⟨rfl, hB⟩
  · have w1 := fun W => weight_bad t W (by omega)
    have w2 := fun W => refWeight_bad t W (by omega)
    have d1 := fun W => digits_bad t W (by omega)
    have d2 := fun W => refDigits_bad t W (by omega)
    have W1 := Lib.hid w1
    have W2 := Lib.hid w2
    have D1 := Lib.hid d1
    have D2 := Lib.hid d2
    clear w1 w2 d1 d2 hy
    go_wp2_with fail
    refine (W1.out _).mono ?_
    rintro e w4 ⟨rfl, hb1⟩
    go_wp2_with fail
    refine (W2.out _).mono ?_
    rintro e w4 ⟨rfl, hb2⟩
    go_wp2_with fail
    refine (D1.out _).mono ?_
    rintro e w4 ⟨rfl, rfl⟩
    go_wp2_with fail
    refine (D2.out _).mono ?_
    rintro e w4 ⟨rfl, rfl⟩
    go_wp2_with fail
    refine (known_any _).mono ?_
    rintro e w4 ⟨rfl, hb4⟩
    have hB := hb1.trans ((hb2.trans (hb4.mono hb2.size)).mono hb1.size)
    clear hb1 hb2 hb4
    go_wp2_with fail
    refine (K1.out _).mono ?_
    rintro e w4 ⟨rfl, rfl⟩
    go_wp2_with fail
    refine (K2.out _).mono ?_
    rintro e w4 ⟨rfl, rfl⟩
    go_wp2_with fail
    refine (P1.out _).mono ?_
    rintro e w4 ⟨rfl, rfl⟩
    go_wp2_with fail
    refine (P2.out _).mono ?_
    rintro e w4 ⟨rfl, rfl⟩
    go_wp2_with fail
    go_ret
    exact ⟨rfl, hB⟩

namespace ProbKeeps
set_option linter.unusedSimpArgs false in
set_option maxRecDepth 100000 in
theorem lifted (os : Os) (started : os.Started) (H : Type) (enc : TypeId × Value → H) :
    ReturnsInHanded {} Try.checked os 5 .any (Rows.probKeepsSpec.pre6 enc Try.prog Try.f5 Rows.probKeepsRow.domain false) (Rows.probKeepsSpec.post enc Try.prog Try.f5 false true false false) := by
  refine returnsInHanded_of_change (C := Try.checked) own started (by kernel_rfl) Try.func5
    (ChangeSpec.witness6 (enc := enc) (C := Try.checked) false ⟨#[], #[.int .u64 0, .int .u64 0, .int .u8 0, .int .u8 0], []⟩ 8 (by kernel_rfl) (by kernel_rfl) (by kernel_rfl) (by kernel_rfl)) ?_
  intro W base args ds gs before hval0 hW _ _
  have hval : ∀ (j : Nat) t v, Try.f5.params[j]? = some t → args[j]? = some v → Value.okWide Try.prog W .any base t v := hval0
  have hW' := hW
  obtain ⟨p, q, hA0, hV, rfl, _, _⟩ := hW
  have hA : DataW.TrodAll enc Try.prog W 0 (fun _ => true) true Try.f5.params.toList args.toList ds p := hA0
  rw [Try.params5] at hA hval
  obtain ⟨v0, vs0, d0, ds0, p0, q0, hargs, rfl, rfl, h0, r0⟩ := trodAll_cons hA
  obtain ⟨v1, vs1, d1, ds1, p1, q1, rfl, rfl, rfl, h1, r1⟩ := trodAll_cons r0
  obtain ⟨v2, vs2, d2, ds2, p2, q2, rfl, rfl, rfl, h2, r2⟩ := trodAll_cons r1
  obtain ⟨v3, vs3, d3, ds3, p3, q3, rfl, rfl, rfl, h3, r3⟩ := trodAll_cons r2
  obtain ⟨rfl, rfl, rfl⟩ := trodAll_nil r3
  obtain rfl : args = #[v0, v1, v2, v3] := by cases args; simp_all
  obtain ⟨rfl, rfl⟩ := trodVars_none hV
  obtain ⟨a0, rfl, rfl, rfl, w0⟩ := open_int Try.underlying23 (hval 0 23 v0 rfl rfl) h0
  have k0 := wf_u64 w0
  obtain ⟨n0, rfl⟩ : ∃ n : Nat, a0 = n := ⟨a0.toNat, by omega⟩
  obtain ⟨a1, rfl, rfl, rfl, w1⟩ := open_int Try.underlying23 (hval 1 23 v1 rfl rfl) h1
  have k1 := wf_u64 w1
  obtain ⟨n1, rfl⟩ : ∃ n : Nat, a1 = n := ⟨a1.toNat, by omega⟩
  obtain ⟨a2, rfl, rfl, rfl, w2⟩ := open_int Try.underlying5 (hval 2 5 v2 rfl rfl) h2
  have k2 := wf_u8 w2
  obtain ⟨n2, rfl⟩ : ∃ u : UInt8, a2 = (u.toNat : Int) := ⟨UInt8.ofNat a2.toNat, by simp; omega⟩
  obtain ⟨a3, rfl, rfl, rfl, w3⟩ := open_int Try.underlying5 (hval 3 5 v3 rfl rfl) h3
  have k3 := wf_u8 w3
  obtain ⟨n3, rfl⟩ : ∃ u : UInt8, a3 = (u.toNat : Int) := ⟨UInt8.ofNat a3.toNat, by simp; omega⟩
  clear hA0 hval0
  simp only [List.append_nil] at hW'
  refine (keeps_walk n0 n1 n2.toNat n3.toNat (by omega) (by omega) n2.toNat_lt n3.toNat_lt W).mono fun e W' ⟨he, hg⟩ => ?_
  subst he
  exact ⟨_, rfl, true_last hW' rfl (by kernel_rfl) Try.underlying4 rfl rfl rfl (of_decide_eq_true (by kernel_rfl)) hg⟩

/-- **ProbKeeps, at every input.** -/
theorem proved : Rows.ProbKeepsSaid :=
  OpenClaim.holds_of_wide 5 Try.f5 rfl rfl rfl rfl rfl rfl rfl ⟨rfl, rfl, rfl, rfl, rfl⟩ rfl rfl rfl rfl rfl (by kernel_rfl) Try.func5 (by kernel_rfl)
    (of_decide_eq_true (by kernel_rfl)) (by unfold Func.isWrapper; first | (rw [if_pos (by decide +kernel)]; kernel_rfl) | (rw [if_neg (by decide +kernel)]; exact ⟨rfl, rfl⟩))
    (fun os started H enc _ => lifted os started H enc)
end ProbKeeps

end Go.Proofs.Ytpcichbceaijjaa
