/-
  Proved: NumLong returns true for every text and every number: a text may have as many bytes as may be, and no more; cut short it is too short. No condition.
-/
import Derived.Test.YtmgjckgoiieppaaNumPlaces
namespace Go.Proofs.Ytmgjckgoiieppaa
open Go.ChangeShapes Go.WideShapes Go.ChangeAt Go.RowKit Go.Proofs.NumMath

theorem getAt_put (L : Nat) (t : List UInt8) (hL : L < 18446744073709551616) : getAt (put L ++ t) 0 = (L, (put L).length, 0) := by
  have h := getAt_of (cs := put L ++ t) (i := 0) (Nat.zero_le _)
  rw [List.drop_zero, scan_put L 0 0 t (.inl rfl) (by omega) (by have := put_len10 hL; omega)] at h
  simpa using h
theorem getText_put (L : Nat) (t : List UInt8) (most : Int) (hL : L < 18446744073709551616) :
    getText (put L ++ t) 0 most = if most < 0 ∨ most < (L : Int) then ([], 0, 3) else if t.length < L then ([], 0, 10) else (t.take L, (put L).length + L, 0) := by
  unfold getText
  rw [getAt_put L t hL]
  simp only [ne_eq, not_true_eq_false, if_false, List.length_append, Nat.add_sub_cancel_left, List.drop_left]

/-- 's[:h]' of a slice of bytes. -/
theorem head_run (A : Option Addr) (len cap h : Nat) (hh : h ≤ cap) (W : World) :
    (Instr.slice 23 (.slice A len cap) none (some (.int .i64 (h : Int))) none).run Try.prog W = .ok (.slice A h cap) W := by
  rw [run_slice_h W 23 A len cap (by kernel_rfl) .i64 (h : Int) (by omega) (by omega)]
  have hz : (sizeOf (Try.prog.elem 23)).run Try.prog W = .ok 1 W := by kernel_rfl
  rw [hz]
  have e0 : (A.map fun x => x.add (0 * 1)) = A := by cases A <;> simp [Addr.add]
  simp only [sliced, Result.andThen, Int.toNat_natCast, e0, ite_self, Nat.sub_zero]
theorem Holds8.take {n₀ : Nat} {W : World} {A : Option Addr} {cs : List UInt8} (h : Holds8 n₀ W A cs) (k : Nat) : Holds8 n₀ W A (cs.take k) := fun h0 => by
  obtain ⟨b, off, e, hlt, hc⟩ := h (by simp at h0; omega)
  refine ⟨b, off, e, hlt, fun j hj => ?_⟩
  simp at hj
  rw [hc j (by omega)]
  simp [show j < k by omega]

/-- num.GetText of a text with its length ahead, the last byte left out or not: its error. -/
theorem getText_err (A : Option Addr) (cs t : List UInt8) (L len cap : Nat) (most : Int) (w : World) (ecs : cs = put L ++ t) (hlen : cs.length = len) (hL : L < 18446744073709551616) (hl : len ≤ cap) (hcap : cap ≤ 9223372036854775807) (hm : most ≤ 9223372036854775807) (hr : Holds8 w.heap.size w A cs)
    (ee : Nat) (he : ee = if most < 0 ∨ most < (L : Int) then 3 else if t.length < L then 10 else 0) :
    Calls Try.prog 13 #[.slice A len cap, .int .i64 0, .int .i64 most] w fun e w' => ∃ s to, e = .returned (.tuple #[.string s, .int .i64 to, .int .u16 (ee : Int)]) ∧ Below w.heap.size w w' := by
  have h := getText_any A cs cap 0 most w (by omega) hcap hm hr
  have e3 : (getText cs 0 most).2.2 = ee := by
    rw [ecs, getText_put L t most hL, he]
    split
    · rfl
    · split <;> rfl
  rw [hlen, e3] at h
  exact h.mono fun e w' ⟨h1, h2⟩ => ⟨_, _, h1, h2⟩

/-- The bytes but for the last one. -/
theorem cut_put {cs t : List UInt8} {L pl total : Nat} (h : cs = put L ++ t) (hl : cs.length = total) (hp : pl = (put L).length) (ht : pl < total) : cs.take (total - 1) = put L ++ t.take (total - 1 - pl) := by
  have : total = (put L).length + t.length := by rw [← hl, h]; simp
  rw [h, List.take_append, List.take_of_length_le (by omega), hp]

set_option maxRecDepth 100000 in
set_option maxHeartbeats 2000000 in
theorem long_walk (s : ByteArray) (n : Nat) (w : World) (hs : s.size ≤ 9223372036854775807) (hn : n ≤ 255) :
    Calls Try.prog 3 #[.string s, .int .u8 (n : Int)] w fun e w' => e = .returned (.bool true) ∧ Below w.heap.size w w' := by
  by_cases h1 : 200 < s.size
  · have d1 : decide ((200 : Int) < s.size) = true := by simp; omega
    go_enter Try.func3, Try.ntmps3
    go_wp2_with fail
    refine (known_any _).mono ?_
    rintro e w1 ⟨rfl, hb1⟩
    go_wp2_with fail
    go_ret
    exact ⟨rfl, hb1⟩
  · have d1 : decide ((200 : Int) < s.size) = false := by simp; omega
    obtain ⟨pl, hpl⟩ : ∃ pl, (put s.size).length = pl := ⟨_, rfl⟩
    have hp10 := put_len10 (n := s.size) (by omega)
    have hp1 := put_pos s.size
    rw [hpl] at hp10 hp1
    have hlen : (putText s.data.toList).length = pl + s.size := by rw [← hpl]; simp [putText]
    have hcs : putText s.data.toList = put s.size ++ s.data.toList := by simp [putText]
    have hdl : s.data.toList.length = s.size := by simp
    have HP := Lib.hid hpl
    have HLN := Lib.hid hlen
    have HC := Lib.hid hcs
    have HD := Lib.hid hdl
    clear hpl hlen hcs hdl
    have hrem : ((n : Int)).tmod 3 = ((n % 3 : Nat) : Int) := by rw [Int.tmod_eq_emod_of_nonneg (by omega)]; simp
    go_enter Try.func3, Try.ntmps3
    go_wp2_with fail
    refine (known_any _).mono ?_
    rintro e w1 ⟨rfl, hb1⟩
    go_wp2_with fail
    refine (putText_holds s _ (by omega)).mono ?_
    rintro e w2 ⟨A, cap, rfl, hc1, hc2, hr2, hb2⟩
    rw [HLN.out] at hc1 ⊢
    have HR2 := Lib.hid hr2
    clear hr2
    go_wp2_with fail
    refine (getText_err A _ _ s.size _ cap _ _ HC.out HLN.out (by omega) hc1 hc2 (by omega) HR2.out 0 ?_).mono ?_
    · rw [if_neg (by omega), if_neg (by rw [HD.out]; omega)]
    rintro e w3 ⟨t3, to3, rfl, hb3⟩
    have HR3 := Lib.hid (HR2.out.later hb3)
    clear HR2
    go_wp2_with fail
    refine (getText_err A _ _ s.size _ cap _ _ HC.out HLN.out (by omega) hc1 hc2 (by omega) HR3.out 3 ?_).mono ?_
    · rw [if_pos (by omega)]
    rintro e w4 ⟨t4, to4, rfl, hb4⟩
    have HR4 := Lib.hid (HR3.out.later hb4)
    clear HR3 hrem
    have hB : Below w.heap.size w w4 := hb1.trans ((hb2.trans ((hb3.trans (hb4.mono hb3.size)).mono hb2.size)).mono hb1.size)
    clear hb1 hb2 hb3 hb4
    rcases (by omega : s.size = 0 ∨ s.size = 1 ∨ 1 < s.size) with hz | hz | hz
    · go_wp2_with fail
      refine (getText_err A _ _ s.size _ cap _ _ HC.out (by rw [HLN.out, hz]; rfl) (by omega) (by omega) hc2 (by omega) HR4.out 0 ?_).mono ?_
      · rw [if_neg (by omega), if_neg (by rw [HD.out]; omega)]
      rintro e w5 ⟨t5, to5, rfl, hb5⟩
      go_wp2_with fail
      go_ret
      exact ⟨rfl, hB.trans (hb5.mono hB.size)⟩
    · go_wp2_with fail
      refine (getText_err A _ _ s.size _ cap _ _ (cut_put (pl := pl) (total := pl + s.size) HC.out HLN.out HP.out.symm (by omega)) (by rw [List.length_take, HLN.out, hz]; omega) (by omega) (by omega) hc2 (by omega) (HR4.out.take _) 10 ?_).mono ?_
      · rw [if_neg (by omega), if_pos (by rw [List.length_take, HD.out]; omega)]
      rintro e w5 ⟨t5, to5, rfl, hb5⟩
      go_wp2_with fail
      go_ret
      exact ⟨rfl, hB.trans (hb5.mono hB.size)⟩
    · go_wp2_with fail
      refine (getText_err A _ _ s.size _ cap _ _ (cut_put (pl := pl) (total := pl + s.size) HC.out HLN.out HP.out.symm (by omega)) (by rw [List.length_take, HLN.out]; omega) (by omega) (by omega) hc2 (by omega) (HR4.out.take _) 10 ?_).mono ?_
      · rw [if_neg (by omega), if_pos (by rw [List.length_take, HD.out]; omega)]
      rintro e w5 ⟨t5, to5, rfl, hb5⟩
      have hne : ((s.size : Int) == 0) = false := beq_eq_false_iff_ne.2 (by omega)
      go_wp2_with fail
      go_ret
      exact ⟨rfl, hB.trans (hb5.mono hB.size)⟩

namespace NumLong
set_option maxRecDepth 100000 in
theorem lifted (os : Os) (started : os.Started) (H : Type) (enc : TypeId × Value → H) :
    ReturnsInHanded {} Try.checked os 3 .any (Rows.numLongSpec.pre6 enc Try.prog Try.f3 Rows.numLongRow.domain false) (Rows.numLongSpec.post enc Try.prog Try.f3 false true false false) := by
  refine returnsInHanded_of_change (C := Try.checked) own started (by kernel_rfl) Try.func3
    (ChangeSpec.witness6 (enc := enc) (C := Try.checked) false ⟨#[], #[.string ⟨#[]⟩, .int .u8 0], []⟩ 8 (by kernel_rfl) (by kernel_rfl) (by kernel_rfl) (by kernel_rfl)) ?_
  intro W base args ds gs before hval0 hW _ _
  have hval : ∀ (j : Nat) t v, Try.f3.params[j]? = some t → args[j]? = some v → Value.okWide Try.prog W .any base t v := hval0
  have hW' := hW
  obtain ⟨p, q, hA0, hV, rfl, _, _⟩ := hW
  have hA : DataW.TrodAll enc Try.prog W 0 (fun _ => true) true Try.f3.params.toList args.toList ds p := hA0
  rw [Try.params3] at hA hval
  obtain ⟨v0, vs0, d0, ds0, p0, q0, hargs, rfl, rfl, h0, r0⟩ := trodAll_cons hA
  obtain ⟨v1, vs1, d1, ds1, p1, q1, rfl, rfl, rfl, h1, r1⟩ := trodAll_cons r0
  obtain ⟨rfl, rfl, rfl⟩ := trodAll_nil r1
  obtain rfl : args = #[v0, v1] := by cases args; simp_all
  obtain ⟨rfl, rfl⟩ := trodVars_none hV
  obtain ⟨s0, rfl, rfl, rfl, w0⟩ := ChangeMaps.open_string Try.underlying9 (hval 0 9 v0 rfl rfl) h0
  obtain ⟨a1, rfl, rfl, rfl, w1⟩ := open_int Try.underlying5 (hval 1 5 v1 rfl rfl) h1
  have k1 := wf_u8 w1
  obtain ⟨n1, rfl⟩ : ∃ n : Nat, a1 = n := ⟨a1.toNat, by omega⟩
  clear hA0 hval0
  simp only [List.append_nil] at hW'
  refine (long_walk s0 n1 W (by unfold maxLen at w0; exact w0) (by omega)).mono fun e W' ⟨he, hg⟩ => ?_
  subst he
  exact ⟨_, rfl, true_post hW' rfl (by kernel_rfl) Try.underlying4 rfl rfl (fun sp _ => (trodAll_cons_mk (ChangeMaps.shut_string Try.underlying9 w0) (trodAll_cons_mk (shut_int Try.underlying5 w1) trodAll_mk0))) hg⟩

/-- **NumLong, at every input.** -/
theorem proved : Rows.NumLongSaid :=
  OpenClaim.holds_of_wide 3 Try.f3 rfl rfl rfl rfl rfl rfl rfl ⟨rfl, rfl, rfl, rfl, rfl⟩ rfl rfl rfl rfl rfl (by kernel_rfl) Try.func3 (by kernel_rfl)
    (of_decide_eq_true (by kernel_rfl)) (by unfold Func.isWrapper; first | (rw [if_pos (by decide +kernel)]; kernel_rfl) | (rw [if_neg (by decide +kernel)]; exact ⟨rfl, rfl⟩))
    (fun os started H enc _ => lifted os started H enc)
end NumLong

end Go.Proofs.Ytmgjckgoiieppaa
