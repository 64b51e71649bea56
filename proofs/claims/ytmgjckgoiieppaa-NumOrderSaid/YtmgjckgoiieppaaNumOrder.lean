/-
  Proved: NumOrder returns true for every two numbers: a greater number has no fewer bytes, and ten at most. No condition.
-/
import Derived.Test.YtmgjckgoiieppaaNumLift
namespace Go.Proofs.Ytmgjckgoiieppaa
open Go.ChangeShapes Go.WideShapes Go.ChangeAt Go.RowKit Go.Proofs.NumMath

theorem put_size (m : Nat) (hm : m < 18446744073709551616) (w : World) :
    Calls Try.prog 15 #[.int .u64 (m : Int)] w fun e w' => ∃ A cap, e = .returned (.slice A (put m).length cap) ∧ Below w.heap.size w w' :=
  (put_holds m hm w).mono fun _ _ ⟨A, cap, he, _, _, _, hb⟩ => ⟨A, cap, he, hb⟩

set_option maxRecDepth 100000 in
set_option maxHeartbeats 1000000 in
theorem order_walk (a b : Nat) (ha : a < 18446744073709551616) (hb : b < 18446744073709551616) (w : World) :
    Calls Try.prog 10 #[.int .u64 (a : Int), .int .u64 (b : Int)] w fun e w' => e = .returned (.bool true) ∧ Below w.heap.size w w' := by
  have m3 := put_pos a
  have k1 := put_len10 ha
  have k2 := put_len10 hb
  rcases Nat.lt_trichotomy a b with hab | hab | hab
  · have m1 := put_mono b a (by omega)
    generalize hla : (put a).length = la at m1 m3 k1
    generalize hlb : (put b).length = lb at m1 k2
    have HA := Lib.hid hla
    have HB := Lib.hid hlb
    clear hla hlb
    go_enter Try.func10, Try.ntmps10
    go_wp2_with fail
    refine (known_any _).mono ?_
    rintro e w1 ⟨rfl, hb1⟩
    go_wp2_with fail
    refine (put_size a ha _).mono ?_
    rintro e w2 ⟨A2, c2, rfl, hb2⟩
    rw [HA.out]
    go_wp2_with fail
    refine (put_size b hb _).mono ?_
    rintro e w3 ⟨A3, c3, rfl, hb3⟩
    rw [HB.out]
    go_wp2_with fail
    refine (put_size b hb _).mono ?_
    rintro e w4 ⟨A4, c4, rfl, hb4⟩
    rw [HB.out]
    go_wp2_with fail
    refine (put_size a ha _).mono ?_
    rintro e w5 ⟨A5, c5, rfl, hb5⟩
    rw [HA.out]
    go_wp2_with fail
    go_ret
    exact ⟨ret_b (by simp; omega), hb1.trans ((hb2.trans ((hb3.trans ((hb4.trans (hb5.mono hb4.size)).mono hb3.size)).mono hb2.size)).mono hb1.size)⟩
  · subst hab
    generalize hla : (put a).length = la at m3 k1 k2
    have HA := Lib.hid hla
    clear hla
    go_enter Try.func10, Try.ntmps10
    go_wp2_with fail
    refine (known_any _).mono ?_
    rintro e w1 ⟨rfl, hb1⟩
    go_wp2_with fail
    refine (put_size a ha _).mono ?_
    rintro e w2 ⟨A2, c2, rfl, hb2⟩
    rw [HA.out]
    go_wp2_with fail
    refine (put_size a ha _).mono ?_
    rintro e w3 ⟨A3, c3, rfl, hb3⟩
    rw [HA.out]
    go_wp2_with fail
    refine (put_size a ha _).mono ?_
    rintro e w4 ⟨A4, c4, rfl, hb4⟩
    rw [HA.out]
    go_wp2_with fail
    refine (put_size a ha _).mono ?_
    rintro e w5 ⟨A5, c5, rfl, hb5⟩
    rw [HA.out]
    go_wp2_with fail
    go_ret
    exact ⟨ret_b (by simp; omega), hb1.trans ((hb2.trans ((hb3.trans ((hb4.trans (hb5.mono hb4.size)).mono hb3.size)).mono hb2.size)).mono hb1.size)⟩
  · have m1 := put_mono a b (by omega)
    generalize hla : (put a).length = la at m1 m3 k1
    generalize hlb : (put b).length = lb at m1 k2
    have HA := Lib.hid hla
    have HB := Lib.hid hlb
    clear hla hlb
    go_enter Try.func10, Try.ntmps10
    go_wp2_with fail
    refine (known_any _).mono ?_
    rintro e w1 ⟨rfl, hb1⟩
    go_wp2_with fail
    refine (put_size b hb _).mono ?_
    rintro e w2 ⟨A2, c2, rfl, hb2⟩
    rw [HB.out]
    go_wp2_with fail
    refine (put_size a ha _).mono ?_
    rintro e w3 ⟨A3, c3, rfl, hb3⟩
    rw [HA.out]
    go_wp2_with fail
    refine (put_size a ha _).mono ?_
    rintro e w4 ⟨A4, c4, rfl, hb4⟩
    rw [HA.out]
    go_wp2_with fail
    refine (put_size a ha _).mono ?_
    rintro e w5 ⟨A5, c5, rfl, hb5⟩
    rw [HA.out]
    go_wp2_with fail
    go_ret
    exact ⟨ret_b (by simp; omega), hb1.trans ((hb2.trans ((hb3.trans ((hb4.trans (hb5.mono hb4.size)).mono hb3.size)).mono hb2.size)).mono hb1.size)⟩

namespace NumOrder
set_option maxRecDepth 100000 in
theorem lifted (os : Os) (started : os.Started) (H : Type) (enc : TypeId × Value → H) :
    ReturnsInHanded {} Try.checked os 10 .any (Rows.numOrderSpec.pre6 enc Try.prog Try.f10 Rows.numOrderRow.domain false) (Rows.numOrderSpec.post enc Try.prog Try.f10 false true false false) := by
  refine returnsInHanded_of_change (C := Try.checked) own started (by kernel_rfl) Try.func10
    (ChangeSpec.witness6 (enc := enc) (C := Try.checked) false ⟨#[], #[.int .u64 0, .int .u64 0], []⟩ 8 (by kernel_rfl) (by kernel_rfl) (by kernel_rfl) (by kernel_rfl)) ?_
  intro W base args ds gs before hval0 hW _ _
  have hval : ∀ (j : Nat) t v, Try.f10.params[j]? = some t → args[j]? = some v → Value.okWide Try.prog W .any base t v := hval0
  have hW' := hW
  obtain ⟨p, q, hA0, hV, rfl, _, _⟩ := hW
  have hA : DataW.TrodAll enc Try.prog W 0 (fun _ => true) true Try.f10.params.toList args.toList ds p := hA0
  rw [Try.params10] at hA hval
  obtain ⟨v0, vs0, d0, ds0, p0, q0, hargs, rfl, rfl, h0, r0⟩ := trodAll_cons hA
  obtain ⟨v1, vs1, d1, ds1, p1, q1, rfl, rfl, rfl, h1, r1⟩ := trodAll_cons r0
  obtain ⟨rfl, rfl, rfl⟩ := trodAll_nil r1
  obtain rfl : args = #[v0, v1] := by cases args; simp_all
  obtain ⟨rfl, rfl⟩ := trodVars_none hV
  obtain ⟨a0, rfl, rfl, rfl, w0⟩ := open_int Try.underlying30 (hval 0 30 v0 rfl rfl) h0
  obtain ⟨a1, rfl, rfl, rfl, w1⟩ := open_int Try.underlying30 (hval 1 30 v1 rfl rfl) h1
  clear hA0 hval0
  simp only [List.append_nil] at hW'
  have k0 := wf_u64 w0
  have k1 := wf_u64 w1
  obtain ⟨n0, rfl⟩ : ∃ n : Nat, a0 = n := ⟨a0.toNat, by omega⟩
  obtain ⟨n1, rfl⟩ : ∃ n : Nat, a1 = n := ⟨a1.toNat, by omega⟩
  refine (order_walk n0 n1 (by omega) (by omega) W).mono fun e W' ⟨he, hg⟩ => ?_
  subst he
  exact ⟨_, rfl, true_post hW' rfl (by kernel_rfl) Try.underlying4 rfl rfl (fun sp _ => (trodAll_cons_mk (shut_int Try.underlying30 w0) (trodAll_cons_mk (shut_int Try.underlying30 w1) trodAll_mk0))) hg⟩

/-- **NumOrder, at every input.** -/
theorem proved : Rows.NumOrderSaid :=
  OpenClaim.holds_of_wide 10 Try.f10 rfl rfl rfl rfl rfl rfl rfl ⟨rfl, rfl, rfl, rfl, rfl⟩ rfl rfl rfl rfl rfl (by kernel_rfl) Try.func10 (by kernel_rfl)
    (of_decide_eq_true (by kernel_rfl)) (by unfold Func.isWrapper; first | (rw [if_pos (by decide +kernel)]; kernel_rfl) | (rw [if_neg (by decide +kernel)]; exact ⟨rfl, rfl⟩))
    (fun os started H enc _ => lifted os started H enc)
end NumOrder

end Go.Proofs.Ytmgjckgoiieppaa
