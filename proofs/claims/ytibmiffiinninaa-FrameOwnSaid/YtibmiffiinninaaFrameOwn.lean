/-
  Proved: FrameOwn returns true for every slice of bytes: what is taken is new memory. No condition.
-/
import Derived.Test.YtibmiffiinninaaBytesLift
import Derived.Test.YtibmiffiinninaaFrameKnown
namespace Go.Proofs.Ytibmiffiinninaa
open Go.ChangeShapes Go.WideShapes Go.ChangeAt Go.RowKit Go.Proofs.NumMath Go.Proofs.FrameMath

set_option maxRecDepth 100000 in
set_option maxHeartbeats 2000000 in
theorem own_walk (A : Option Addr) (cs : List UInt8) (cap : Nat) (w : World) (_hl : cs.length ≤ cap) (_hm : cap ≤ 9223372036854775807) (hr : Holds8 w.heap.size w A cs) (hA : A = none → cap = 0) :
    Calls Try.prog 9 #[.slice A cs.length cap] w fun e w' => e = .returned (.bool true) ∧ Below w.heap.size w w' := by
  obtain ⟨len, hlen⟩ : ∃ len, cs.length = len := ⟨_, rfl⟩
  obtain ⟨fl, hfl⟩ : ∃ fl, (frame cs).length = fl := ⟨_, rfl⟩
  rw [hlen] at _hl ⊢
  have HL := Lib.hid hlen
  have HF := Lib.hid hfl
  have HR := Lib.hid hr
  have HA := Lib.hid hA
  clear hlen hfl hr hA
  by_cases h0 : len = 0
  · have d0 : ((len : Int) == 0) = true := by simp; exact h0
    go_enter Try.func9, Try.ntmps9
    go_wp2_with fail
    refine (known_any _).mono ?_
    rintro e w1 ⟨rfl, hb1⟩
    go_wp2_with fail
    go_ret
    exact ⟨rfl, hb1⟩
  have d0 : ((len : Int) == 0) = false := by simp; exact h0
  by_cases h1 : 300 < len
  · have d1 : decide ((300 : Int) < (len : Int)) = true := by simp; omega
    go_enter Try.func9, Try.ntmps9
    go_wp2_with fail
    refine (known_any _).mono ?_
    rintro e w1 ⟨rfl, hb1⟩
    go_wp2_with fail
    go_ret
    exact ⟨rfl, hb1⟩
  have d1 : decide ((300 : Int) < (len : Int)) = false := by simp; omega
  go_enter Try.func9, Try.ntmps9
  go_wp2_with fail
  refine (frame_fits A cs len cap fl w HL.out HF.out (by omega) HR.out HA.out).mono ?_
  rintro e w1 ⟨A1, c1, rfl, hown1, hB1⟩
  obtain ⟨hc1, hm1, hr1⟩ := own_facts hown1
  rw [HF.out] at hc1
  have HR1 := Lib.hid hr1
  have hS1 := hB1.size
  clear hr1 hown1
  go_wp2_with fail
  refine (take_own A1 cs fl len c1 w1 HF.out HL.out (by omega) hc1 hm1 HR1.out).mono ?_
  rintro e w2 ⟨A2, c2, rfl, hown2, hb2⟩
  obtain ⟨g, rfl, hg, hcell, hfroz⟩ := own_parts hown2 (by rw [HL.out]; omega)
  have hc0 := hcell 0 (by rw [HL.out]; omega)
  have hf0 := hfroz 0 (by rw [HL.out]; omega)
  have hxl := (cs.getD 0 0).toNat_lt
  unfold b8 at hc0
  generalize (cs.getD 0 0).toNat = x at hc0 hxl
  have hlt1 : len ≤ c2 := by have := (own_facts hown2).1; rw [HL.out] at this; exact this
  clear hown2 hcell hfroz
  go_wp2_with fail
  have hb3 := below_set hb2 (g := g) (off := 0) hg (.int .u8 (((x : Int) + 1) % 256))
  have hB3 := hB1.trans (hb3.mono hS1)
  refine (take_own A1 cs fl len c1 _ HF.out HL.out (by omega) hc1 hm1 (HR1.out.later hb3)).mono ?_
  rintro e w4 ⟨A4, c4, rfl, hown4, hb4⟩
  have HR4 := Lib.hid (own_facts hown4).2.2
  have hB4 := hB3.trans (hb4.mono hB3.size)
  clear hown4 hb4 hB3 hb3 hb2 HR1 hf0 hc0
  go_wp2_with fail
  refine (known_any _).mono ?_
  rintro e w5 ⟨rfl, hb5⟩
  have hB5 := hB4.trans (hb5.mono hB4.size)
  have cv4 := text_run A4 cs len c4 w5 _ HL.out (HR4.out.later hb5)
  have cv0 := text_run A cs len cap w5 _ HL.out (HR.out.later hB5)
  generalize (⟨cs.toArray⟩ : ByteArray) = sa at cv4 cv0
  go_wp2_with fail
  go_ret
  exact ⟨by simp, hB5⟩

namespace FrameOwn
set_option linter.unusedSimpArgs false in
set_option maxRecDepth 100000 in
theorem lifted (os : Os) (started : os.Started) (H : Type) (enc : TypeId × Value → H) :
    ReturnsInHanded {} Try.checked os 9 .any (Rows.frameOwnSpec.pre6 enc Try.prog Try.f9 Rows.frameOwnRow.domain false) (Rows.frameOwnSpec.post enc Try.prog Try.f9 false true false false) := by
  refine returnsInHanded_of_change (C := Try.checked) own started (by kernel_rfl) Try.func9
    (ChangeSpec.witness6 (enc := enc) (C := Try.checked) false ⟨#[], #[.slice none 0 0], []⟩ 8 (by kernel_rfl) (by kernel_rfl) (by kernel_rfl) (by kernel_rfl)) ?_
  intro W base args ds gs before hval0 hW _ _
  have hval : ∀ (j : Nat) t v, Try.f9.params[j]? = some t → args[j]? = some v → Value.okWide Try.prog W .any base t v := hval0
  have hW' := hW
  obtain ⟨p, q, hA0, hV, rfl, _, _⟩ := hW
  have hA : DataW.TrodAll enc Try.prog W 0 (fun _ => true) true Try.f9.params.toList args.toList ds p := hA0
  rw [Try.params9] at hA hval
  obtain ⟨v0, vs0, d0, ds0, p0, q0, hargs, rfl, rfl, h0, r0⟩ := trodAll_cons hA
  obtain ⟨rfl, rfl, rfl⟩ := trodAll_nil r0
  obtain rfl : args = #[v0] := by cases args; simp_all
  obtain ⟨rfl, rfl⟩ := trodVars_none hV
  obtain ⟨A0, cs0, cap0, rfl, l0, m0, b0, again0⟩ := arg_bytes (hval 0 23 v0 rfl rfl) h0
  have x0 := arg_extra h0
  clear hA0 hval0
  simp only [List.append_nil] at hW'
  refine (own_walk A0 cs0 cap0 W l0 m0 b0 x0.1).mono fun e W' ⟨he, hg⟩ => ?_
  subst he
  exact ⟨_, rfl, true_post hW' rfl (by kernel_rfl) Try.underlying4 rfl rfl (fun sp hsp => by have h := (trodAll_cons_mk (again0 W' sp hg (fun x hx => hsp x (by simp [hx]))) trodAll_mk0); simp only [List.append_nil, List.nil_append] at h; exact h) hg⟩

/-- **FrameOwn, at every input.** -/
theorem proved : Rows.FrameOwnSaid :=
  OpenClaim.holds_of_wide 9 Try.f9 rfl rfl rfl rfl rfl rfl rfl ⟨rfl, rfl, rfl, rfl, rfl⟩ rfl rfl rfl rfl rfl (by kernel_rfl) Try.func9 (by kernel_rfl)
    (of_decide_eq_true (by kernel_rfl)) (by unfold Func.isWrapper; first | (rw [if_pos (by decide +kernel)]; kernel_rfl) | (rw [if_neg (by decide +kernel)]; exact ⟨rfl, rfl⟩))
    (fun os started H enc _ => lifted os started H enc)
end FrameOwn

end Go.Proofs.Ytibmiffiinninaa
