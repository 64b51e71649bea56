/-
  Proved: HashTexts returns true for every seed, text and two numbers: Of and In of any text are what the chapter says. No condition but the card's own: the table of steps, tied to the program's text, holds at the start what that text lays.
-/
import Derived.Test.YtmomboinapgpjaaDoorHashKnown
namespace Go.Proofs.YtmomboinapgpjaaDoor
open Go.ChangeShapes Go.WideShapes Go.ChangeAt Go.RowKit Go.Proofs.HashMath

set_option maxRecDepth 100000 in
set_option maxHeartbeats 2000000 in
theorem hashTexts_walk (seed : Nat) (s : ByteArray) (n : Int) (k : Nat) (hx : seed < 18446744073709551616) (hn0 : -9223372036854775808 ≤ n) (hn1 : n ≤ 9223372036854775807) (hk : k < 65536) (w : World) (hS : Steps w) :
    Calls Tryd.prog 4 #[.int .u64 (seed : Int), .string s, .int .i64 n, .int .u16 (k : Int)] w fun e w' => e = .returned (.bool true) ∧ Below w.heap.size w w' := by
  by_cases hl : 300 < s.size
  · have d1 : decide ((300 : Int) < (s.size : Int)) = true := by simp; omega
    go_enter Tryd.func4, Tryd.ntmps4
    go_wp2_with fail
    refine (known_any _ hS).mono ?_
    rintro e w' ⟨rfl, g⟩
    go_wp2_with fail
    go_ret
    exact ⟨rfl, g⟩
  have d1 : decide ((300 : Int) < (s.size : Int)) = false := by simp; omega
  obtain ⟨o, ho⟩ : ∃ o, ofText seed s.data.toList = o := ⟨_, rfl⟩
  obtain ⟨r, hr⟩ : ∃ r, inText seed s.data.toList n = r := ⟨_, rfl⟩
  obtain ⟨q, hq⟩ : ∃ q, inText seed s.data.toList (k : Int) = q := ⟨_, rfl⟩
  have p0 : ∀ W, Steps W → Calls Tryd.prog 13 #[.int .u64 (seed : Int), .string s] W fun e w' => e = .returned (.int .u64 (o : Int)) ∧ Below W.heap.size W w' := fun W h => by rw [← ho]; exact of_any seed s W h hx (by omega)
  have P0 := Lib.hid p0
  have r0 : ∀ W, Calls Tryd.prog 14 #[.int .u64 (seed : Int), .string s] W fun e w' => e = .returned (.int .u64 (o : Int)) ∧ W = w' := fun W => by rw [← ho]; exact refOf_any seed s W hx (by omega)
  have R0 := Lib.hid r0
  have p1 : ∀ W, Steps W → Calls Tryd.prog 15 #[.int .u64 (seed : Int), .string s, .int .i64 n] W fun e w' => e = .returned (.int .i64 (r : Int)) ∧ Below W.heap.size W w' := fun W h => by rw [← hr]; exact in_any seed s n W h hx (by omega) hn0 hn1
  have P1 := Lib.hid p1
  have r1 : ∀ W, Calls Tryd.prog 16 #[.int .u64 (seed : Int), .string s, .int .i64 n] W fun e w' => e = .returned (.int .i64 (r : Int)) ∧ W = w' := fun W => by rw [← hr]; exact refIn_any seed s n W hx (by omega) hn0 hn1
  have R1 := Lib.hid r1
  have p2 : ∀ W, Steps W → Calls Tryd.prog 15 #[.int .u64 (seed : Int), .string s, .int .i64 (k : Int)] W fun e w' => e = .returned (.int .i64 (q : Int)) ∧ Below W.heap.size W w' := fun W h => by rw [← hq]; exact in_any seed s k W h hx (by omega) (by omega) (by omega)
  have P2 := Lib.hid p2
  have r2 : ∀ W, Calls Tryd.prog 16 #[.int .u64 (seed : Int), .string s, .int .i64 (k : Int)] W fun e w' => e = .returned (.int .i64 (q : Int)) ∧ W = w' := fun W => by rw [← hq]; exact refIn_any seed s k W hx (by omega) (by omega) (by omega)
  have R2 := Lib.hid r2
  clear p0 p1 p2 r0 r1 r2 ho hr hq
  have b0 : Below w.heap.size w w := Below.refl _ _
  go_enter Tryd.func4, Tryd.ntmps4
  go_wp2_with fail
  refine (known_any _ (hS.later b0)).mono ?_
  rintro e w' ⟨rfl, g⟩
  have b1 := b0.trans (g.mono b0.size)
  clear b0 g
  go_wp2_with fail
  refine (P0.out _ (hS.later b1)).mono ?_
  rintro e w' ⟨rfl, g⟩
  have b2 := b1.trans (g.mono b1.size)
  clear b1 g
  go_wp2_with fail
  refine (R0.out _).mono ?_
  rintro e w' ⟨rfl, rfl⟩
  go_wp2_with fail
  refine (P1.out _ (hS.later b2)).mono ?_
  rintro e w' ⟨rfl, g⟩
  have b3 := b2.trans (g.mono b2.size)
  clear b2 g
  go_wp2_with fail
  refine (R1.out _).mono ?_
  rintro e w' ⟨rfl, rfl⟩
  go_wp2_with fail
  refine (P2.out _ (hS.later b3)).mono ?_
  rintro e w' ⟨rfl, g⟩
  have b4 := b3.trans (g.mono b3.size)
  clear b3 g
  go_wp2_with fail
  refine (R2.out _).mono ?_
  rintro e w' ⟨rfl, rfl⟩
  go_wp2_with fail
  go_ret
  exact ⟨rfl, b4⟩

namespace HashTexts
set_option linter.unusedSimpArgs false in
set_option maxRecDepth 100000 in
theorem lifted (os : Os) (started : os.Started) (H : Type) (enc : TypeId × Value → H) :
    ReturnsInHanded {} Tryd.checked os 4 .any (fun w args => (Rows.hashTextsSpec.pre enc Tryd.prog Tryd.f4 [] false w args ∧ laidMetH Tryd.prog laidL w) ∧ sizedMet enc Tryd.prog Tryd.f4 (OpenSpec.ofChange Rows.hashTextsSpec) false w args)
      (Rows.hashTextsSpec.post enc Tryd.prog Tryd.f4 false true false false) := by
  refine returnsInHanded_of_change_and (C := Tryd.checked) (X := fun w _ => laidMetH Tryd.prog laidL w) (fun _ _ _ hh h => h.of_heap hh) own started (by kernel_rfl) Tryd.func4
    (ChangeSpec.witness_shaped (enc := enc) (C := Tryd.checked) (os := os) (X := fun w _ => laidMetH Tryd.prog laidL w) false (World.doorLaid Tryd.prog 400 os) #[.int .u64 0, .string ⟨#[]⟩, .int .i64 0, .int .u16 0] 8 rfl (World.shaped_of_RefB (by kernel_rfl) (by kernel_rfl)) (by kernel_rfl) (by kernel_rfl) (by kernel_rfl) (door_met os _)) ?_
  intro W base args ds gs before hval0 hW _ _ hL _
  have hS := of_laid hL
  have hval : ∀ (j : Nat) t v, Tryd.f4.params[j]? = some t → args[j]? = some v → Value.okWide Tryd.prog W .any base t v := hval0
  have hW' := hW
  obtain ⟨p, q, hA0, hV, rfl, _, _⟩ := hW
  have hA : DataW.TrodAll enc Tryd.prog W 0 (fun _ => true) true Tryd.f4.params.toList args.toList ds p := hA0
  rw [Tryd.params4] at hA hval
  obtain ⟨v0, vs0, d0, ds0, p0, q0, hargs, rfl, rfl, h0, r0⟩ := trodAll_cons hA
  obtain ⟨v1, vs1, d1, ds1, p1, q1, rfl, rfl, rfl, h1, r1⟩ := trodAll_cons r0
  obtain ⟨v2, vs2, d2, ds2, p2, q2, rfl, rfl, rfl, h2, r2⟩ := trodAll_cons r1
  obtain ⟨v3, vs3, d3, ds3, p3, q3, rfl, rfl, rfl, h3, r3⟩ := trodAll_cons r2
  obtain ⟨rfl, rfl, rfl⟩ := trodAll_nil r3
  obtain rfl : args = #[v0, v1, v2, v3] := by cases args; simp_all
  obtain ⟨rfl, rfl⟩ := trodVars_none hV
  obtain ⟨a0, rfl, rfl, rfl, w0⟩ := open_int Tryd.underlying22 (hval 0 22 v0 rfl rfl) h0
  have k0 := wf_u64 w0
  obtain ⟨n0, rfl⟩ : ∃ n : Nat, a0 = n := ⟨a0.toNat, by omega⟩
  obtain ⟨s1, rfl, rfl, rfl, w1⟩ := ChangeMaps.open_string Tryd.underlying9 (hval 1 9 v1 rfl rfl) h1
  obtain ⟨a2, rfl, rfl, rfl, w2⟩ := open_int Tryd.underlying3 (hval 2 3 v2 rfl rfl) h2
  have k2 := wf_i64 w2
  obtain ⟨a3, rfl, rfl, rfl, w3⟩ := open_int Tryd.underlying26 (hval 3 26 v3 rfl rfl) h3
  have k3 := wf_u16 w3
  obtain ⟨n3, rfl⟩ : ∃ n : Nat, a3 = n := ⟨a3.toNat, by omega⟩
  clear hA0 hval0
  simp only [List.append_nil] at hW'
  refine (hashTexts_walk n0 s1 a2 n3 (by omega) k2.1 k2.2 (by omega) W hS).mono fun e W' ⟨he, hg⟩ => ?_
  subst he
  exact ⟨_, rfl, true_last hW' rfl (by kernel_rfl) Tryd.underlying4 rfl rfl rfl (of_decide_eq_true (by kernel_rfl)) hg⟩

/-- The row. -/
theorem said : Rows.HashTextsSaid :=
  OpenClaim.holds_of_wide 4 Tryd.f4 rfl rfl rfl rfl rfl rfl rfl ⟨rfl, rfl, rfl, rfl, rfl⟩ rfl rfl rfl rfl rfl (by kernel_rfl) Tryd.func4 (by kernel_rfl)
    (of_decide_eq_true (by kernel_rfl)) (by unfold Func.isWrapper; first | (rw [if_pos (by decide +kernel)]; kernel_rfl) | (rw [if_neg (by decide +kernel)]; exact ⟨rfl, rfl⟩))
    (fun os started H enc _ => lifted os started H enc)
/-- **HashTexts, at every input: the card, its listed variables tied to the program's text.** -/
theorem proved : Rows.HashTextsCardSaid :=
  Claim7.holds_tied_plain_at .later [] [.wider] true Rows.hashTextsCard.stood.harness false
    said (fun _ h => by cases h) (by kernel_rfl) (fun _ h => by cases h) hashTexts_row_tie rfl ⟨rfl, rfl⟩ (by kernel_rfl) rfl
    (fun f fn hf hfn => by
      obtain rfl : f = 4 := Option.some.inj ((show Tryd.prog.funcNamed "telemeter/telemeterlaw06.HashTexts" = some 4 by kernel_rfl).symm.trans hf) |>.symm
      obtain rfl : fn = Tryd.f4 := (Option.some.inj (Tryd.func4.symm.trans hfn)).symm
      exact ⟨by kernel_rfl, fun j t ht => by
        rw [Tryd.params4] at ht
        have hm : t ∈ [22, 9, 3, 26] := by simpa using Array.mem_of_getElem? ht
        have hall : ([22, 9, 3, 26].all fun u => !Tryd.prog.wantsStandIn u) = true := by kernel_rfl
        exact (show Tryd.prog.wantsStandIn t = false by simpa using List.all_eq_true.1 hall t hm)⟩)
    (by kernel_rfl)
end HashTexts

end Go.Proofs.YtmomboinapgpjaaDoor
