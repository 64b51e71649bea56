/-
  Proved: FrameBack returns true for every slice of slices of bytes and every number: frames, one behind the other, are all told back; what is cut off the last one is too short. No condition.
-/
import Derived.Deep.RegionWith
import Derived.Test.YtdjejkjkcahdgaaRowsHeld
namespace Go.Proofs.Ytdjejkjkcahdgaa
open Go.ChangeShapes Go.WideShapes Go.ChangeAt Go.RowKit Go.Proofs.NumMath Go.Proofs.FrameMath

theorem cut_scan {css : List (List UInt8)} {at_ m fl : Nat} (h60 : ∀ c ∈ css, c.length ≤ 60) (hpos : 0 < css.length) (hat : ((css.take (css.length - 1)).flatMap frame).length = at_) (hL : (css.flatMap frame).length = at_ + fl) (h1 : at_ ≤ m) (h2 : m < at_ + fl) :
    scanF ((css.flatMap frame).take m) = (css.take (css.length - 1), at_, if m = at_ then 0 else 10) := by
  obtain ⟨P, z, rfl⟩ : ∃ P z, css = P ++ [z] := ⟨css.dropLast, css.getLast (by intro e; simp [e] at hpos), (List.dropLast_concat_getLast _).symm⟩
  have e1 : (P ++ [z]).take ((P ++ [z]).length - 1) = P := by simp
  rw [e1] at hat ⊢
  have e2 : (P ++ [z]).flatMap frame = P.flatMap frame ++ frame z := by simp
  rw [e2] at hL ⊢
  rw [List.length_append, hat] at hL
  have hP : ∀ c ∈ P, c.length ≤ 4096 := fun c hc => by have := h60 c (by simp [hc]); omega
  obtain ⟨d, rfl⟩ : ∃ d, m = at_ + d := ⟨m - at_, by omega⟩
  rw [← hat, List.take_length_add_append]
  by_cases hd : d = 0
  · subst hd
    have h := scanF_all P hP
    simpa using h
  · have hz := h60 z (by simp)
    have h := scanF_wrong P ((frame z).take d) 10 hP (by simp; omega) (by omega) (take_cut _ z d (by omega) (by omega))
    rw [h, if_neg (by omega)]

set_option maxRecDepth 100000 in
set_option maxHeartbeats 4000000 in
theorem back_walk (A : Option Addr) (css : List (List UInt8)) (la ca k : Nat) (w : World) (hk : k ≤ 255) (hla : css.length = la) (_hcap : ca ≤ 9223372036854775807) (hlc : la ≤ ca) (hr : HoldsRows w.heap.size w A css) :
    Calls Try.prog 5 #[.slice A la ca, .int .u8 (k : Int)] w fun e w' => e = .returned (.bool true) ∧ Below w.heap.size w w' := by
  have HLA := Lib.hid hla
  have HR := Lib.hid hr
  clear hla hr
  by_cases h1 : 8 < la
  · have d1 : decide ((8 : Int) < (la : Int)) = true := by simp; omega
    go_enter Try.func5, Try.ntmps5
    go_wp2_with fail
    refine (known_any _).mono ?_
    rintro e w1 ⟨rfl, hb1⟩
    go_wp2_with fail
    go_ret
    exact ⟨rfl, hb1⟩
  have d1 : decide ((8 : Int) < (la : Int)) = false := by simp; omega
  go_enter Try.func5, Try.ntmps5
  go_wp2_with fail
  go_loopw [5, 6, 7] (fun av tv iv wr => ∃ (i at_ L c : Nat) (A' : Option Addr), av = .slice A' L c ∧ tv = .int .i64 (at_ : Int) ∧ iv = .int .i64 (i : Int) ∧ i ≤ la ∧ L ≤ 65 * i ∧ at_ ≤ L ∧ Hid (((css.take i).flatMap frame).length = L) ∧ Hid (wr.ownsRow w.heap.size 5 1 (.slice A' L c) ((css.take i).flatMap frame).length (((css.take i).flatMap frame).map b8)) ∧
      Hid (0 < i → ((css.take (i - 1)).flatMap frame).length = at_) ∧ Hid (∀ j, j < i → (css.getD j []).length ≤ 60) ∧ Below w.heap.size w wr) (fun _ _ iv _ => la - (intOf iv).toNat)
  case atStart => exact ⟨0, 0, 0, 0, none, rfl, rfl, rfl, by omega, by omega, by omega, Lib.hid (by simp), World.ownsRow_nil _ _ _ _, fun h => by omega, fun j hj => by omega, Below.refl _ _⟩
  case round =>
    obtain ⟨i, at_, L, c, A', rfl, rfl, rfl, hi, hLi, hatL, HL, HO, HAT, HS, hB⟩ := hrel
    by_cases hlt : i < la
    · obtain ⟨b, off, rfl, hbl, hcA⟩ := HR.out (by rw [HLA.out]; omega)
      obtain ⟨A1, c1, h1, h2, h3, h4, h5⟩ := hcA i (by rw [HLA.out]; omega)
      have h1w := (hB.cell (p := ⟨b, off + i, none⟩) hbl).trans h1
      obtain ⟨x, hx⟩ : ∃ x, css.getD i [] = x := ⟨_, rfl⟩
      rw [hx] at h1w h2 h3
      obtain ⟨lx, hlx⟩ : ∃ l, x.length = l := ⟨_, rfl⟩
      rw [hlx] at h1w h3
      have HX := Lib.hid hx
      have HLX := Lib.hid hlx
      have H2 := Lib.hid h2
      have H5 := Lib.hid h5
      clear h1 h2 h5 hx hlx hcA
      by_cases h60 : 60 < lx
      · have d2 : decide ((60 : Int) < (lx : Int)) = true := by simp; omega
        go_wp2_with fail
        refine (known_any _).mono ?_
        rintro e w1 ⟨rfl, hb1⟩
        go_wp2_with fail
        go_ret
        exact ⟨rfl, hB.trans (hb1.mono hB.size)⟩
      have d2 : decide ((60 : Int) < (lx : Int)) = false := by simp; omega
      have hfx : (frame x).length = lx + 5 := by rw [frame_length, HLX.out, put_one (by omega)]; omega
      have HFX := Lib.hid hfx
      clear hfx
      go_wp2_with fail
      refine (frame_fits A1 x lx c1 (lx + 5) wr HLX.out HFX.out (by omega) (H2.out.later hB) H5.out).mono ?_
      rintro e w1 ⟨A2, c2, rfl, hown1, hb1⟩
      have HY := Lib.hid (own_facts hown1).2.2
      have HN1 : Hid (A2 = none → c2 = 0) := Lib.hid (fun h => by
        obtain ⟨g, e, _⟩ := own_parts hown1 (by have := frame_pos x; omega)
        rw [h] at e; cases e)
      have hB1 := hB.trans (hb1.mono hB.size)
      have hS1 := hB1.size
      have HO1 := Lib.hid (own_later HO.out hb1)
      have HF : Hid ((css.take (i + 1)).flatMap frame = (css.take i).flatMap frame ++ frame x) := Lib.hid (by
        have e : css.take (i + 1) = css.take i ++ [x] := by
          rw [List.take_succ_eq_append_getElem (by rw [HLA.out]; exact hlt)]
          have := HX.out
          rw [List.getD_eq_getElem?_getD, List.getElem?_eq_getElem (by rw [HLA.out]; exact hlt)] at this
          simp at this
          rw [this]
        rw [e]; simp)
      have HL1 : Hid (((css.take (i + 1)).flatMap frame).length = L + (lx + 5)) := Lib.hid (by rw [HF.out, List.length_append, HL.out, HFX.out])
      have HS1 : Hid (∀ j, j < i + 1 → (css.getD j []).length ≤ 60) := Lib.hid fun j hj => by
        rcases Nat.lt_or_ge j i with h | h
        · exact HS.out j h
        · obtain rfl : j = i := by omega
          rw [HX.out, HLX.out]; omega
      have HAT1 : Hid (0 < i + 1 → ((css.take (i + 1 - 1)).flatMap frame).length = L) := Lib.hid fun _ => HL.out
      clear hown1 hb1
      go_wp2_with (at_builtin; refine app_bytes rfl (.tmp 46) (.tmp 47) rfl w.heap.size w1.heap.size (.slice A' L c) ((css.take i).flatMap frame) (frame x) ((css.take (i + 1)).flatMap frame) (L + (lx + 5)) HF.out HL1.out rfl HO1.out A2 (lx + 5) c2 rfl HFX.out HY.out HN1.out (by omega) hS1 ?_; intro A5 c5 w5 hown5 hg5; have hB5 := below_grown hB1 hS1 HO1.out hg5; have HO5 := Lib.hid hown5; clear hown5 hg5)
      go_roundw
      case rel => exact ⟨i + 1, L, L + (lx + 5), c5, A5, by go_num, rfl, by go_num, by omega, by omega, by omega, HL1, HO5, HAT1, HS1, hB5⟩
      case measure => simp [intOf]; omega
    · obtain rfl : i = la := by omega
      have HF : Hid ((css.take i) = css) := Lib.hid (List.take_of_length_le (by rw [HLA.out]; omega))
      rw [HF.out] at HL HO
      have HS' : Hid (∀ c ∈ css, c.length ≤ 60) := Lib.hid fun c hc => by
        obtain ⟨j, hj, rfl⟩ := List.mem_iff_getElem.1 hc
        have := HS.out j (by rw [HLA.out] at hj; omega)
        simpa [List.getD_eq_getElem?_getD, hj] using this
      have HSC : Hid (scanF (css.flatMap frame) = (css, L, 0)) := Lib.hid (by rw [scanF_all css (fun c hc => by have := HS'.out c hc; omega), HL.out])
      obtain ⟨hc7, hm7, hr7⟩ := own_facts HO.out
      rw [HL.out] at hc7
      have hscan := scan_any A' (css.flatMap frame) L c wr HL.out (by omega) hc7 hm7 hr7
      rw [HSC.out] at hscan
      have HSN := Lib.hid hscan
      have HR7 := Lib.hid hr7
      clear hscan hr7
      go_wp2_with fail
      refine HSN.out.mono ?_
      rintro e w8 ⟨v8, vs, rfl, hown8, hrows, hb8⟩
      obtain ⟨A8, c8, rfl, hc8, hm8, hA8, HR8⟩ := holds_rows hown8 hrows
      have hB8 := hB.trans (hb8.mono hB.size)
      have HR8' := Lib.hid HR8
      rw [HLA.out] at hc8
      rw [HLA.out]
      clear hown8 hrows HR8
      go_wp2_with fail
      refine (same_any A8 A css css i i c8 ca w8 HLA.out HLA.out (by omega) HR8'.out (HR.out.later hB8)).mono ?_
      rintro e w9 ⟨rfl, hb9⟩
      have hB9 := hB8.trans (hb9.mono hB8.size)
      have dt : decide (css = css) = true := by simp
      by_cases h0 : i = 0
      · subst h0
        go_wp2_with fail
        refine (known_any _).mono ?_
        rintro e w10 ⟨rfl, hb10⟩
        go_wp2_with fail
        go_ret
        exact ⟨by simp, hB9.trans (hb10.mono hB9.size)⟩
      have d0 : ((i : Int) == 0) = false := by simp; exact h0
      have hat := HAT.out (by omega)
      obtain ⟨fl, hfl⟩ : ∃ fl, L = at_ + fl := ⟨L - at_, by omega⟩
      have hfl5 : 5 ≤ fl ∧ fl ≤ 600 := by
        have h1 : css.take (i - 1) ++ [css.getD (i - 1) []] = css := by
          have h2 := List.take_succ_eq_append_getElem (l := css) (i := i - 1) (by rw [HLA.out]; omega)
          rw [show i - 1 + 1 = i by omega, HF.out] at h2
          simpa [List.getD_eq_getElem?_getD, HLA.out, show i - 1 < i by omega] using h2.symm
        have h2 := HL.out
        rw [← h1, List.flatMap_append, List.length_append, hat] at h2
        have h3 := frame_pos (css.getD (i - 1) [])
        simp at h2 h3
        omega
      obtain ⟨n0, hn0, hn1⟩ : ∃ n0 : Nat, (k : Int) % (fl : Int) = (n0 : Int) ∧ n0 < fl := ⟨k % fl, by simp, Nat.mod_lt _ (by omega)⟩
      obtain ⟨m, hm0, hm1, hm2⟩ : ∃ m : Nat, (L : Int) - (1 + (n0 : Int)) = (m : Int) ∧ m + 1 + n0 = at_ + fl ∧ at_ ≤ m := ⟨at_ + fl - (1 + n0), by omega, by omega, by omega⟩
      have hf0 : (L : Int) - (at_ : Int) = (fl : Int) := by omega
      have HCS : Hid (scanF ((css.flatMap frame).take m) = (css.take (i - 1), at_, if m = at_ then 0 else 10)) := Lib.hid (by
        have h := cut_scan HS'.out (by rw [HLA.out]; omega) (by rw [HLA.out]; exact hat) (HL.out.trans hfl) hm2 (by omega)
        rw [HLA.out] at h
        exact h)
      have HCL : Hid (((css.flatMap frame).take m).length = m) := Lib.hid (by rw [List.length_take, HL.out]; omega)
      have HAT' := Lib.hid hat
      have HM1 := Lib.hid hm1
      have HFL := Lib.hid hfl
      have hmL : m ≤ L := by omega
      have hfl0 : ((fl : Int) == 0) = false := by simp; omega
      clear hat hm1 hfl
      go_wp2_with fail
      have hb89 := hb8.trans (hb9.mono hb8.size)
      have HRm := Lib.hid ((HR7.out.later hb89).take m)
      obtain ⟨i1, hi1, hi2⟩ : ∃ i1 : Nat, (i : Int) - 1 = (i1 : Int) ∧ i1 + 1 = i := ⟨i - 1, by omega, by omega⟩
      have hie : i - 1 = i1 := by omega
      rw [hie] at HCS
      have HLI : Hid ((css.take i1).length = i1) := Lib.hid (by rw [List.length_take, HLA.out]; omega)
      obtain ⟨E, hE⟩ : ∃ E, (if m = at_ then 0 else 10) = E := ⟨_, rfl⟩
      have hscan := scan_any A' ((css.flatMap frame).take m) m c w9 HCL.out (by omega) (by omega) hm7 HRm.out
      rw [HCS.out, hE] at hscan
      have HSM := Lib.hid hscan
      have HE := Lib.hid hE
      clear hscan hE hi2 hie
      refine HSM.out.mono ?_
      rintro e w10 ⟨v10, vs10, rfl, hown10, hrows10, hb10⟩
      obtain ⟨A10, c10, rfl, hc10, hm10, hA10, HR10⟩ := holds_rows hown10 hrows10
      have hB10 := hB9.trans (hb10.mono hB9.size)
      have HR10' := Lib.hid HR10
      rw [HLI.out] at hc10
      rw [HLI.out]
      clear hown10 hrows10 HR10
      go_wp2_with fail
      refine (same_any A10 A (css.take i1) (css.take i1) i1 i1 c10 ca w10 HLI.out HLI.out (by omega) HR10'.out ((HR.out.later hB10).take i1)).mono ?_
      rintro e w11 ⟨rfl, hb11⟩
      have hB11 := hB10.trans (hb11.mono hB10.size)
      have dt1 : decide (css.take i1 = css.take i1) = true := by simp
      by_cases hma : m = at_
      · have hE0 : E = 0 := by rw [← HE.out, if_pos hma]
        subst hE0
        have hnf : (1 + (n0 : Int) == (fl : Int)) = true := by have := HM1.out; simp; omega
        go_wp2_with fail
        refine (known_any _).mono ?_
        rintro e w12 ⟨rfl, hb12⟩
        go_wp2_with fail
        go_ret
        exact ⟨by simp, hB11.trans (hb12.mono hB11.size)⟩
      · have hE0 : E = 10 := by rw [← HE.out, if_neg hma]
        subst hE0
        go_wp2_with fail
        refine (known_any _).mono ?_
        rintro e w12 ⟨rfl, hb12⟩
        go_wp2_with fail
        go_ret
        exact ⟨by simp, hB11.trans (hb12.mono hB11.size)⟩

namespace FrameBack
set_option linter.unusedSimpArgs false in
set_option maxRecDepth 100000 in
theorem lifted (os : Os) (started : os.Started) (H : Type) (enc : TypeId × Value → H) :
    ReturnsInHanded {} Try.checked os 5 .any (Rows.frameBackSpec.pre6 enc Try.prog Try.f5 Rows.frameBackRow.domain false) (Rows.frameBackSpec.post enc Try.prog Try.f5 false true false false) := by
  refine returnsInHanded_of_change (C := Try.checked) own started (by kernel_rfl) Try.func5
    (ChangeSpec.witness6 (enc := enc) (C := Try.checked) false ⟨#[], #[.slice none 0 0, .int .u8 0], []⟩ 8 (by kernel_rfl) (by kernel_rfl) (by kernel_rfl) (by kernel_rfl)) ?_
  intro W base args ds gs before hval0 hW _ _
  have hval : ∀ (j : Nat) t v, Try.f5.params[j]? = some t → args[j]? = some v → Value.okWide Try.prog W .any base t v := hval0
  have hW' := hW
  obtain ⟨p, q, hA0, hV, rfl, _, _⟩ := hW
  have hA : DataW.TrodAll enc Try.prog W 0 (fun _ => true) true Try.f5.params.toList args.toList ds p := hA0
  rw [Try.params5] at hA hval
  obtain ⟨v0, vs0, d0, ds0, p0, q0, hargs, rfl, rfl, h0, r0⟩ := trodAll_cons hA
  obtain ⟨v1, vs1, d1, ds1, p1, q1, rfl, rfl, rfl, h1, r1⟩ := trodAll_cons r0
  obtain ⟨rfl, rfl, rfl⟩ := trodAll_nil r1
  obtain rfl : args = #[v0, v1] := by cases args; simp_all
  obtain ⟨rfl, rfl⟩ := trodVars_none hV
  obtain ⟨A0, css0, cap0, rfl, l0, m0, e0, b0⟩ := arg_rows (hval 0 28 v0 rfl rfl) h0
  obtain ⟨a1, rfl, rfl, rfl, w1⟩ := open_int Try.underlying5 (hval 1 5 v1 rfl rfl) h1
  have k1 := wf_u8 w1
  obtain ⟨n1, rfl⟩ : ∃ u : UInt8, a1 = (u.toNat : Int) := ⟨UInt8.ofNat a1.toNat, by simp; omega⟩
  clear hA0 hval0
  simp only [List.append_nil] at hW'
  refine (back_walk A0 css0 css0.length cap0 n1.toNat W (by omega) rfl m0 l0 b0).mono fun e W' ⟨he, hg⟩ => ?_
  subst he
  exact ⟨_, rfl, true_last hW' rfl (by kernel_rfl) Try.underlying4 rfl rfl rfl (of_decide_eq_true (by kernel_rfl)) hg⟩

/-- **FrameBack, at every input.** -/
theorem proved : Rows.FrameBackSaid :=
  OpenClaim.holds_of_wide 5 Try.f5 rfl rfl rfl rfl rfl rfl rfl ⟨rfl, rfl, rfl, rfl, rfl⟩ rfl rfl rfl rfl rfl (by kernel_rfl) Try.func5 (by kernel_rfl)
    (of_decide_eq_true (by kernel_rfl)) (by unfold Func.isWrapper; first | (rw [if_pos (by decide +kernel)]; kernel_rfl) | (rw [if_neg (by decide +kernel)]; exact ⟨rfl, rfl⟩))
    (fun os started H enc _ => lifted os started H enc)
end FrameBack

end Go.Proofs.Ytdjejkjkcahdgaa
