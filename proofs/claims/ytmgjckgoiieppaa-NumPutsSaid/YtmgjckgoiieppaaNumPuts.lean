/-
  Proved: NumPuts returns true for every number, signed number and text: Put, Zig, Zag and PutText of anything are what the chapter says. No condition.
-/
import Derived.Deep.RegionWith
import Derived.Test.YtmgjckgoiieppaaNumRef
namespace Go.Proofs.Ytmgjckgoiieppaa
open Go.ChangeShapes Go.WideShapes Go.ChangeAt Go.RowKit Go.Proofs.NumMath

/-- 'string(b)' of a slice of bytes. -/
theorem str_run (A : Option Addr) (cs : List UInt8) (len cap : Nat) (W : World) (n₀ : Nat) (hlen : cs.length = len) (hr : Holds8 n₀ W A cs) :
    (convert 23 9 (.slice A len cap)).run Try.prog W = .ok (.string ⟨cs.toArray⟩) W := by
  subst hlen
  rcases A with _ | a
  · have hy : cs = [] := by
      rcases Nat.eq_zero_or_pos cs.length with h0 | h0
      · exact List.eq_nil_of_length_eq_zero h0
      · obtain ⟨_, _, e, _⟩ := hr h0
        cases e
    subst hy
    rw [run_convert_bytes_nil W 23 5 Try.underlying23 Try.underlying5 _ cap 9 Try.underlying9]; rfl
  · refine run_convert_bytes_back W 23 9 5 a cap cs Try.underlying23 Try.underlying5 Try.underlying9 (fun j hj => ?_)
    obtain ⟨b, off, e, _, hc⟩ := hr (by omega)
    cases e
    have hp : (⟨b, off, none⟩ : Addr).add j = ⟨b, off + j, none⟩ := by unfold Addr.add; split <;> simp_all
    rw [hp, hc j hj]
    simp [b8, hj]

theorem below_undrew {B : Nat} {a b : World} (h : Below B a.drew b) : Below B a b := ⟨h.os, h.tape, h.output, h.size, h.block⟩
theorem five_below {w w1 w2 w3 w4 w5 : World} (h1 : Below w.heap.size w w1) (h2 : Below w1.drew.heap.size w1.drew w2) (h3 : Below w2.heap.size w2 w3) (h4 : Below w3.heap.size w3 w4) (h5 : Below w4.heap.size w4 w5) : Below w.heap.size w w5 :=
  h1.trans (((below_undrew h2).trans ((h3.trans ((h4.trans (h5.mono h4.size)).mono h3.size)).mono h2.size)).mono h1.size)

set_option maxRecDepth 100000 in
set_option maxHeartbeats 4000000 in
theorem puts_walk (n : Nat) (m : Int) (s : ByteArray) (w : World) (hn : n < 18446744073709551616) (hm : -9223372036854775808 ≤ m ∧ m ≤ 9223372036854775807) (hs : s.size ≤ 9223372036854775807) :
    Calls Try.prog 5 #[.int .u64 (n : Int), .int .i64 m, .string s] w fun e w' => e = .returned (.bool true) ∧ Below w.heap.size w w' := by
  obtain ⟨hm1, hm2⟩ := hm
  by_cases h1 : 500 < s.size
  · have d1 : decide ((500 : Int) < s.size) = true := by simp; omega
    go_enter Try.func5, Try.ntmps5
    go_wp2_with fail
    refine (known_any _).mono ?_
    rintro e w1 ⟨rfl, hb1⟩
    go_wp2_with fail
    go_ret
    exact ⟨rfl, hb1⟩
  · have d1 : decide ((500 : Int) < s.size) = false := by simp; omega
    obtain ⟨pl, hpl⟩ : ∃ pl, (put n).length = pl := ⟨_, rfl⟩
    obtain ⟨ql, hql⟩ : ∃ ql, (putText s.data.toList).length = ql := ⟨_, rfl⟩
    have HP := Lib.hid hpl
    have HQ := Lib.hid hql
    clear hpl hql
    go_enter Try.func5, Try.ntmps5
    go_wp2_with fail
    refine (known_any _).mono ?_
    rintro e w1 ⟨rfl, hb1⟩
    have hmx : Try.prog.follows .mixedOrders = true := by kernel_rfl
    go_wp2_with fail
    go_region_with (first
      | (go_at_call 15; refine (put_holds n hn _).mono ?_; rintro e w2 ⟨A2, c2, rfl, _, _, hr2, hb2⟩; rw [HP.out]; have cv22 := str_run A2 _ pl c2 _ _ HP.out hr2; have HR2 := Lib.hid hr2; clear hr2)
      | (go_at_call 16; refine (refPut_holds n hn _).mono ?_; rintro e w3 ⟨A3, c3, rfl, _, _, hr3, hb3⟩; rw [HP.out]; have cv33 := str_run A3 _ pl c3 _ _ HP.out hr3; have cv23 := str_run A2 _ pl c2 _ _ HP.out (HR2.out.later hb3); clear hr3)
      | (go_at_call 17; refine (zig_any m _ hm1 hm2).mono ?_; rintro e w4 ⟨rfl, rfl⟩)
      | (go_at_call 18; refine (refZig_any m _ hm1 hm2).mono ?_; rintro e w5 ⟨rfl, rfl⟩)
      | (go_at_call 19; refine (zag_any (n : Int) _ (by omega) (by omega)).mono ?_; rintro e w6 ⟨rfl, rfl⟩)
      | (go_at_call 20; refine (refZag_any (n : Int) _ (by omega) (by omega)).mono ?_; rintro e w7 ⟨rfl, rfl⟩)
      | (go_at_call 12; refine (putText_holds s _ (by omega)).mono ?_; rintro e w8 ⟨A8, c8, rfl, _, _, hr8, hb8⟩; rw [HQ.out]; have cv88 := str_run A8 _ ql c8 _ _ HQ.out hr8; have HR8 := Lib.hid hr8; clear hr8)
      | (go_at_call 21; refine (refPutText_holds s _ (by omega)).mono ?_; rintro e w9 ⟨A9, c9, rfl, _, _, hr9, hb9⟩; rw [HQ.out]; have cv99 := str_run A9 _ ql c9 _ _ HQ.out hr9; have cv89 := str_run A8 _ ql c8 _ _ HQ.out (HR8.out.later hb9); clear hr9))
    all_goals
      go_wp2
      go_ret
      exact ⟨rfl, five_below hb1 hb2 hb3 hb8 hb9⟩

namespace NumPuts
set_option maxRecDepth 100000 in
theorem lifted (os : Os) (started : os.Started) (H : Type) (enc : TypeId × Value → H) :
    ReturnsInHanded {} Try.checked os 5 .any (Rows.numPutsSpec.pre6 enc Try.prog Try.f5 Rows.numPutsRow.domain false) (Rows.numPutsSpec.post enc Try.prog Try.f5 false true false false) := by
  refine returnsInHanded_of_change (C := Try.checked) own started (by kernel_rfl) Try.func5
    (ChangeSpec.witness6 (enc := enc) (C := Try.checked) false ⟨#[], #[.int .u64 0, .int .i64 0, .string ⟨#[]⟩], []⟩ 8 (by kernel_rfl) (by kernel_rfl) (by kernel_rfl) (by kernel_rfl)) ?_
  intro W base args ds gs before hval0 hW _ _
  have hval : ∀ (j : Nat) t v, Try.f5.params[j]? = some t → args[j]? = some v → Value.okWide Try.prog W .any base t v := hval0
  have hW' := hW
  obtain ⟨p, q, hA0, hV, rfl, _, _⟩ := hW
  have hA : DataW.TrodAll enc Try.prog W 0 (fun _ => true) true Try.f5.params.toList args.toList ds p := hA0
  rw [Try.params5] at hA hval
  obtain ⟨v0, vs0, d0, ds0, p0, q0, hargs, rfl, rfl, h0, r0⟩ := trodAll_cons hA
  obtain ⟨v1, vs1, d1, ds1, p1, q1, rfl, rfl, rfl, h1, r1⟩ := trodAll_cons r0
  obtain ⟨v2, vs2, d2, ds2, p2, q2, rfl, rfl, rfl, h2, r2⟩ := trodAll_cons r1
  obtain ⟨rfl, rfl, rfl⟩ := trodAll_nil r2
  obtain rfl : args = #[v0, v1, v2] := by cases args; simp_all
  obtain ⟨rfl, rfl⟩ := trodVars_none hV
  obtain ⟨a0, rfl, rfl, rfl, w0⟩ := open_int Try.underlying30 (hval 0 30 v0 rfl rfl) h0
  have k0 := wf_u64 w0
  obtain ⟨n0, rfl⟩ : ∃ n : Nat, a0 = n := ⟨a0.toNat, by omega⟩
  obtain ⟨a1, rfl, rfl, rfl, w1⟩ := open_int Try.underlying3 (hval 1 3 v1 rfl rfl) h1
  have k1 := wf_i64 w1
  obtain ⟨s2, rfl, rfl, rfl, w2⟩ := ChangeMaps.open_string Try.underlying9 (hval 2 9 v2 rfl rfl) h2
  clear hA0 hval0
  simp only [List.append_nil] at hW'
  refine (puts_walk n0 a1 s2 W (by omega) k1 (by unfold maxLen at w2; exact w2)).mono fun e W' ⟨he, hg⟩ => ?_
  subst he
  exact ⟨_, rfl, true_post hW' rfl (by kernel_rfl) Try.underlying4 rfl rfl (fun sp _ => (trodAll_cons_mk (shut_int Try.underlying30 w0) (trodAll_cons_mk (shut_int Try.underlying3 w1) (trodAll_cons_mk (ChangeMaps.shut_string Try.underlying9 w2) trodAll_mk0)))) hg⟩

/-- **NumPuts, at every input.** -/
theorem proved : Rows.NumPutsSaid :=
  OpenClaim.holds_of_wide 5 Try.f5 rfl rfl rfl rfl rfl rfl rfl ⟨rfl, rfl, rfl, rfl, rfl⟩ rfl rfl rfl rfl rfl (by kernel_rfl) Try.func5 (by kernel_rfl)
    (of_decide_eq_true (by kernel_rfl)) (by unfold Func.isWrapper; first | (rw [if_pos (by decide +kernel)]; kernel_rfl) | (rw [if_neg (by decide +kernel)]; exact ⟨rfl, rfl⟩))
    (fun os started H enc _ => lifted os started H enc)
end NumPuts

end Go.Proofs.Ytmgjckgoiieppaa
