/-
  Proved: NumSigns returns true for every two numbers: a signed number is told back; numbers near 0 are small. No condition.
-/
import Derived.Test.YtmgjckgoiieppaaNumLift
namespace Go.Proofs.Ytmgjckgoiieppaa
open Go.ChangeShapes Go.WideShapes Go.ChangeAt Go.RowKit Go.Proofs.NumMath

theorem zag_zig (n : Int) : zag (zig n) = n := by unfold zag zig; split <;> split <;> omega
theorem zig_zag (u : Int) (h : 0 ≤ u) : zig (zag u) = u := by unfold zag zig; split <;> split <;> omega

set_option maxRecDepth 100000 in
set_option maxHeartbeats 1000000 in
theorem signs_walk (n k : Int) (hn : -9223372036854775808 ≤ n ∧ n ≤ 9223372036854775807) (hk : -128 ≤ k ∧ k ≤ 127) (w : World) :
    Calls Try.prog 8 #[.int .i64 n, .int .i8 k] w fun e w' => e = .returned (.bool true) ∧ Below w.heap.size w w' := by
  obtain ⟨hn1, hn2⟩ := hn
  obtain ⟨hk1, hk2⟩ := hk
  obtain ⟨z, hz, hz0, hz1⟩ : ∃ z, zig n = z ∧ 0 ≤ z ∧ z < 18446744073709551616 := ⟨_, rfl, by unfold zig; split <;> omega, by unfold zig; split <;> omega⟩
  have hzz : zag z = n := by rw [← hz]; exact zag_zig n
  obtain ⟨y, hy, hy1⟩ : ∃ y : Nat, zig k = (y : Int) ∧ y < 256 := ⟨(zig k).toNat, by unfold zig; split <;> omega, by unfold zig; split <;> omega⟩
  obtain ⟨u, hu, hu0, hu1⟩ : ∃ u : Int, IntKind.u64.wrap n = u ∧ 0 ≤ u ∧ u < 18446744073709551616 := ⟨_, rfl, by rw [IntKind.wrap_u64]; omega, by rw [IntKind.wrap_u64]; omega⟩
  obtain ⟨g, hg, hg0, hg1⟩ : ∃ g, zag u = g ∧ -9223372036854775808 ≤ g ∧ g ≤ 9223372036854775807 := ⟨_, rfl, by unfold zag; split <;> omega, by unfold zag; split <;> omega⟩
  have hgg : zig g = u := by rw [← hg]; exact zig_zag u hu0
  have hl := put_len 1 y (by omega)
  generalize hly : (put y).length = ly at hl
  have Z1 := Lib.hid hz
  have Z2 := Lib.hid hzz
  have Z3 := Lib.hid hy
  have Z4 := Lib.hid hg
  have Z5 := Lib.hid hgg
  have Z6 := Lib.hid hly
  clear hz hzz hy hg hgg hly
  go_enter Try.func8, Try.ntmps8
  go_wp2_with fail
  refine (known_any _).mono ?_
  rintro e w1 ⟨rfl, hb1⟩
  go_wp2_with fail
  refine (zig_any n _ hn1 hn2).mono ?_
  rintro e w2 ⟨rfl, rfl⟩
  rw [Z1.out]
  go_wp2_with fail
  refine (zag_any z _ hz0 hz1).mono ?_
  rintro e w2 ⟨rfl, rfl⟩
  rw [Z2.out]
  go_wp2_with fail
  refine (zig_any k _ (by omega) (by omega)).mono ?_
  rintro e w2 ⟨rfl, rfl⟩
  rw [Z3.out]
  go_wp2_with fail
  refine (zag_any u _ hu0 hu1).mono ?_
  rintro e w2 ⟨rfl, rfl⟩
  rw [Z4.out]
  go_wp2_with fail
  refine (zig_any g _ hg0 hg1).mono ?_
  rintro e w2 ⟨rfl, rfl⟩
  rw [Z5.out]
  go_wp2_with fail
  refine (zig_any k _ (by omega) (by omega)).mono ?_
  rintro e w2 ⟨rfl, rfl⟩
  rw [Z3.out]
  go_wp2_with fail
  refine (put_holds y (by omega) _).mono ?_
  rintro e w3 ⟨A3, c3, rfl, _, _, _, hb3⟩
  rw [Z6.out]
  go_wp2_with fail
  go_ret
  exact ⟨ret_b (by simp; omega), hb1.trans (hb3.mono hb1.size)⟩

namespace NumSigns
set_option maxRecDepth 100000 in
theorem lifted (os : Os) (started : os.Started) (H : Type) (enc : TypeId × Value → H) :
    ReturnsInHanded {} Try.checked os 8 .any (Rows.numSignsSpec.pre6 enc Try.prog Try.f8 Rows.numSignsRow.domain false) (Rows.numSignsSpec.post enc Try.prog Try.f8 false true false false) := by
  refine returnsInHanded_of_change (C := Try.checked) own started (by kernel_rfl) Try.func8
    (ChangeSpec.witness6 (enc := enc) (C := Try.checked) false ⟨#[], #[.int .i64 0, .int .i8 0], []⟩ 8 (by kernel_rfl) (by kernel_rfl) (by kernel_rfl) (by kernel_rfl)) ?_
  intro W base args ds gs before hval0 hW _ _
  have hval : ∀ (j : Nat) t v, Try.f8.params[j]? = some t → args[j]? = some v → Value.okWide Try.prog W .any base t v := hval0
  have hW' := hW
  obtain ⟨p, q, hA0, hV, rfl, _, _⟩ := hW
  have hA : DataW.TrodAll enc Try.prog W 0 (fun _ => true) true Try.f8.params.toList args.toList ds p := hA0
  rw [Try.params8] at hA hval
  obtain ⟨v0, vs0, d0, ds0, p0, q0, hargs, rfl, rfl, h0, r0⟩ := trodAll_cons hA
  obtain ⟨v1, vs1, d1, ds1, p1, q1, rfl, rfl, rfl, h1, r1⟩ := trodAll_cons r0
  obtain ⟨rfl, rfl, rfl⟩ := trodAll_nil r1
  obtain rfl : args = #[v0, v1] := by cases args; simp_all
  obtain ⟨rfl, rfl⟩ := trodVars_none hV
  obtain ⟨a0, rfl, rfl, rfl, w0⟩ := open_int Try.underlying3 (hval 0 3 v0 rfl rfl) h0
  have k0 := wf_i64 w0
  obtain ⟨a1, rfl, rfl, rfl, w1⟩ := open_int Try.underlying41 (hval 1 41 v1 rfl rfl) h1
  have k1 := wf_i8 w1
  clear hA0 hval0
  simp only [List.append_nil] at hW'
  refine (signs_walk a0 a1 k0 k1 W).mono fun e W' ⟨he, hg⟩ => ?_
  subst he
  exact ⟨_, rfl, true_post hW' rfl (by kernel_rfl) Try.underlying4 rfl rfl (fun sp _ => (trodAll_cons_mk (shut_int Try.underlying3 w0) (trodAll_cons_mk (shut_int Try.underlying41 w1) trodAll_mk0))) hg⟩

/-- **NumSigns, at every input.** -/
theorem proved : Rows.NumSignsSaid :=
  OpenClaim.holds_of_wide 8 Try.f8 rfl rfl rfl rfl rfl rfl rfl ⟨rfl, rfl, rfl, rfl, rfl⟩ rfl rfl rfl rfl rfl (by kernel_rfl) Try.func8 (by kernel_rfl)
    (of_decide_eq_true (by kernel_rfl)) (by unfold Func.isWrapper; first | (rw [if_pos (by decide +kernel)]; kernel_rfl) | (rw [if_neg (by decide +kernel)]; exact ⟨rfl, rfl⟩))
    (fun os started H enc _ => lifted os started H enc)
end NumSigns

end Go.Proofs.Ytmgjckgoiieppaa
