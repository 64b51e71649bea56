/-
  Proved: CtxLong returns true for all choices: a state of 32 members may be, of one more not; nor one of more than 512 bytes. No condition.
-/
import Derived.Test.YtkfidolbbnmjfaaDoorCtxKnown
import Derived.Test.YtkfidolbbnmjfaaDoorCtxArg
namespace Go.Proofs.YtkfidolbbnmjfaaDoor
open Go.ChangeShapes Go.WideShapes Go.ChangeAt Go.RowKit Go.Proofs.CtxState

def longS : Nat → List UInt8
  | 0 => []
  | i + 1 => (if i = 0 then longS i else longS i ++ [44]) ++ [107] ++ [UInt8.ofNat (97 + i % 26), UInt8.ofNat (97 + i / 26)] ++ [61, 49]
def longT (y : Nat) : List UInt8 := [97, 61] ++ List.replicate y 120 ++ [44, 98, 61] ++ List.replicate 150 120 ++ [44, 99, 61] ++ List.replicate 200 120
theorem long1 : ∀ m : Fin 40, (readSt (longS m.val)).1 = if m.val ≤ 32 then 0 else 3 := by decide +kernel
theorem long2 : ∀ x : Fin 150, (readSt (longT (x.val + 50))).1 = if x.val ≤ 104 then 0 else 3 := by decide +kernel
theorem longS_len : ∀ m : Nat, (longS m).length ≤ 6 * m
  | 0 => by simp [longS]
  | m + 1 => by
    have := longS_len m
    unfold longS
    split <;> simp <;> omega
theorem longT_len (y : Nat) : (longT y).length = y + 358 := by unfold longT; simp only [List.length_append, List.length_replicate, List.length_cons, List.length_nil]; omega

theorem conv_two (W : World) (g : Nat) (P Q : Nat) (hP : P < 256) (hQ : Q < 256) (h0 : W.cell? ⟨g, 0, none⟩ = some (.int .u8 (P : Int))) (h1 : W.cell? ⟨g, 1, none⟩ = some (.int .u8 (Q : Int))) :
    (convert 23 9 (.slice (some ⟨g, 0, none⟩) 2 2)).run Tryd.prog W = .ok (.string ⟨#[UInt8.ofNat P, UInt8.ofNat Q]⟩) W := by
  have eP : ((UInt8.ofNat P).toNat : Int) = (P : Int) := by simp; omega
  have eQ : ((UInt8.ofNat Q).toNat : Int) = (Q : Int) := by simp; omega
  refine run_convert_bytes_back W 23 9 5 ⟨g, 0, none⟩ 2 [UInt8.ofNat P, UInt8.ofNat Q] Tryd.underlying23 Tryd.underlying5 Tryd.underlying9 (fun j hj => ?_)
  have hj2 : j < 2 := hj
  rcases (by omega : j = 0 ∨ j = 1) with rfl | rfl
  · rw [show ([UInt8.ofNat P, UInt8.ofNat Q] : List UInt8)[0] = UInt8.ofNat P from rfl, eP]; exact h0
  · rw [show ([UInt8.ofNat P, UInt8.ofNat Q] : List UInt8)[1] = UInt8.ofNat Q from rfl, eQ]; exact h1

set_option maxRecDepth 100000 in
set_option maxHeartbeats 2000000 in
theorem fill_any (n : Nat) (hn : n ≤ 1000) (w : World) : Calls Tryd.prog 21 #[.int .i64 (n : Int)] w fun e w' => e = .returned (.string (bs (List.replicate n 120))) ∧ w = w' := by
  go_enter Tryd.func21, Tryd.ntmps21
  go_wp2_with fail
  go_loopw [3, 4] (fun a b wr => ∃ (i : Nat) (z : ByteArray), i ≤ n ∧ a = .string z ∧ b = .int .i64 (i : Int) ∧ Hid (z = bs (List.replicate i 120)) ∧ wr = w) (fun _ b _ => n - (intOf b).toNat)
  case atStart => exact ⟨0, ⟨#[]⟩, by omega, rfl, rfl, rfl, rfl⟩
  case round =>
    obtain ⟨i, z, hi, rfl, rfl, hz, rfl⟩ := hrel
    by_cases hlt : i < n
    · have dl : decide ((i : Int) < (n : Int)) = true := by simp; omega
      have dl' : decide (i < n) = true := by simp; omega
      obtain ⟨z2, hz2⟩ : ∃ z2, z ++ (⟨#[120]⟩ : ByteArray) = z2 := ⟨_, rfl⟩
      have q : ¬ 9223372036854775807 < z.size + 1 := by rw [hz.out, size_bs, List.length_replicate]; omega
      have hr : z2 = bs (List.replicate (i + 1) 120) := by rw [← hz2, hz.out, List.replicate_succ', ← addStr]; rfl
      have HR := Lib.hid hr
      clear hr
      go_wp2_with fail
      go_roundw
      case rel => exact ⟨i + 1, z2, by omega, rfl, by go_num, HR, by trivial⟩
      case measure => simp [intOf]; omega
    · have dl : decide ((i : Int) < (n : Int)) = false := by simp; omega
      have dl' : decide (i < n) = false := by simp; omega
      obtain rfl : i = n := by omega
      go_wp2_with fail
      go_ret
      exact ⟨by rw [← hz.out]; rfl, rfl⟩

theorem long_step {i : Nat} (hi : i < 40) : ∃ p P q Q : Nat, (i : Int) % 26 = (p : Int) ∧ (97 : Int) + (p : Int) = (P : Int) ∧ IntKind.u8.wrap (P : Int) = (P : Int) ∧ (i : Int) / 26 = (q : Int) ∧ (97 : Int) + (q : Int) = (Q : Int) ∧ IntKind.u8.wrap (Q : Int) = (Q : Int) ∧
    P = 97 + i % 26 ∧ Q = 97 + i / 26 ∧ P < 256 ∧ Q < 256 :=
  ⟨i % 26, 97 + i % 26, i / 26, 97 + i / 26, by omega, by omega, by rw [IntKind.wrap_u8]; omega, by omega, by omega, by rw [IntKind.wrap_u8]; omega, rfl, rfl, by omega, by omega⟩
/-- One member more: the texts on the way. -/
theorem long_texts (z : ByteArray) (b : List UInt8) (hz : z = bs b) (hb : b.length ≤ 241) (P Q : Nat) : ∃ z1 z2 z3, z ++ (⟨#[107]⟩ : ByteArray) = z1 ∧ z1 ++ (⟨#[UInt8.ofNat P, UInt8.ofNat Q]⟩ : ByteArray) = z2 ∧ z2 ++ (⟨#[61, 49]⟩ : ByteArray) = z3 ∧
    ¬ 9223372036854775807 < z.size + 1 ∧ ¬ 9223372036854775807 < z1.size + 2 ∧ ¬ 9223372036854775807 < z2.size + 2 ∧ z3 = bs (b ++ [107] ++ [UInt8.ofNat P, UInt8.ofNat Q] ++ [61, 49]) := by
  subst hz
  have e1 : bs b ++ (⟨#[107]⟩ : ByteArray) = bs (b ++ [107]) := by rw [← addStr]; rfl
  have e2 : bs (b ++ [107]) ++ (⟨#[UInt8.ofNat P, UInt8.ofNat Q]⟩ : ByteArray) = bs (b ++ [107] ++ [UInt8.ofNat P, UInt8.ofNat Q]) := by rw [← addStr]; rfl
  have e3 : bs (b ++ [107] ++ [UInt8.ofNat P, UInt8.ofNat Q]) ++ (⟨#[61, 49]⟩ : ByteArray) = bs (b ++ [107] ++ [UInt8.ofNat P, UInt8.ofNat Q] ++ [61, 49]) := by rw [← addStr]; rfl
  refine ⟨_, _, _, e1, e2, e3, ?_, ?_, ?_, rfl⟩ <;> (rw [size_bs]; (try simp only [List.length_append, List.length_cons, List.length_nil]); omega)
theorem long_text2 {y : Nat} (hy : y ≤ 200) : ∃ t1 t2 t3 t4 t5, (⟨#[97, 61]⟩ : ByteArray) ++ bs (List.replicate y 120) = t1 ∧ t1 ++ (⟨#[44, 98, 61]⟩ : ByteArray) = t2 ∧ t2 ++ bs (List.replicate 150 120) = t3 ∧ t3 ++ (⟨#[44, 99, 61]⟩ : ByteArray) = t4 ∧ t4 ++ bs (List.replicate 200 120) = t5 ∧
    ¬ 9223372036854775807 < 2 + (bs (List.replicate y 120)).size ∧ ¬ 9223372036854775807 < t1.size + 3 ∧ ¬ 9223372036854775807 < t2.size + (bs (List.replicate 150 120)).size ∧ ¬ 9223372036854775807 < t3.size + 3 ∧ ¬ 9223372036854775807 < t4.size + (bs (List.replicate 200 120)).size ∧ t5 = bs (longT y) := by
  have e1 : (⟨#[97, 61]⟩ : ByteArray) ++ bs (List.replicate y 120) = bs ([97, 61] ++ List.replicate y 120) := by rw [← addStr]; rfl
  have e2 : bs ([97, 61] ++ List.replicate y 120) ++ (⟨#[44, 98, 61]⟩ : ByteArray) = bs ([97, 61] ++ List.replicate y 120 ++ [44, 98, 61]) := by rw [← addStr]; rfl
  have e3 := addStr ([97, 61] ++ List.replicate y 120 ++ [44, 98, 61]) (List.replicate 150 120)
  have e4 : bs ([97, 61] ++ List.replicate y 120 ++ [44, 98, 61] ++ List.replicate 150 120) ++ (⟨#[44, 99, 61]⟩ : ByteArray) = bs ([97, 61] ++ List.replicate y 120 ++ [44, 98, 61] ++ List.replicate 150 120 ++ [44, 99, 61]) := by rw [← addStr]; rfl
  have e5 := addStr ([97, 61] ++ List.replicate y 120 ++ [44, 98, 61] ++ List.replicate 150 120 ++ [44, 99, 61]) (List.replicate 200 120)
  refine ⟨_, _, _, _, _, e1, e2, e3, e4, e5, ?_, ?_, ?_, ?_, ?_, rfl⟩ <;> (simp only [size_bs, List.length_append, List.length_cons, List.length_nil, List.length_replicate]; omega)
theorem long_num {n k : Nat} (_ : n < 256) (_ : k < 65536) : ∃ m x y : Nat, (n : Int) % 40 = (m : Int) ∧ (k : Int) % 150 = (x : Int) ∧ (x : Int) + 50 = (y : Int) ∧ wrap64 (y : Int) = (y : Int) ∧ m < 40 ∧ x < 150 ∧ y = x + 50 :=
  ⟨n % 40, k % 150, k % 150 + 50, by omega, by omega, by omega, by unfold wrap64; omega, by omega, by omega, rfl⟩

set_option maxRecDepth 100000 in
set_option maxHeartbeats 8000000 in
theorem long_walk (n k : Nat) (hn : n < 256) (hk : k < 65536) (w : World) (hS : Shape w) :
    Calls Tryd.prog 9 #[.int .u8 (n : Int), .int .u16 (k : Int)] w fun e w' => e = .returned (.bool true) ∧ Below w.heap.size w w' := by
  obtain ⟨m, x, y, hm, hx, hy, hwy, hm40, hx150, hyx⟩ := long_num hn hk
  have HS := Lib.hid hS
  have HX := Lib.hid hx150
  have HYX := Lib.hid hyx
  have HM := Lib.hid hm40
  clear hS hn hk hx150 hyx hm40
  go_enter Tryd.func9, Tryd.ntmps9
  go_wp2_with fail
  go_loopw [6, 7] (fun a b wr => ∃ (i : Nat) (z : ByteArray), i ≤ m ∧ a = .string z ∧ b = .int .i64 (i : Int) ∧ Hid (z = bs (longS i)) ∧ Hid (Below w.heap.size w wr)) (fun _ b _ => m - (intOf b).toNat)
  case atStart => exact ⟨0, ⟨#[]⟩, by omega, rfl, rfl, rfl, Below.refl _ _⟩
  case round =>
    obtain ⟨i, z, hi, rfl, rfl, hz, hB⟩ := hrel
    by_cases hlt : i < m
    · have dl : decide ((i : Int) < (m : Int)) = true := by simp; omega
      have dl' : decide (i < m) = true := by simp; omega
      have hi40 : i < 40 := Nat.lt_trans hlt HM.out
      obtain ⟨p, P, q, Q, n1, n2, n3, n4, n5, n6, eP, eQ, lP, lQ⟩ := long_step hi40
      have hlen := longS_len i
      have hcv := conv_two (wr.alloc (.cells #[.int .u8 (P : Int), .int .u8 (Q : Int)] 5)) wr.heap.size P Q lP lQ ((blk_new wr #[.int .u8 (P : Int), .int .u8 (Q : Int)] 5).cell 0 rfl) ((blk_new wr #[.int .u8 (P : Int), .int .u8 (Q : Int)] 5).cell 1 rfl)
      by_cases h0 : i = 0
      · have dz : decide ((0 : Int) < (i : Int)) = false := by simp; omega
        have dz' : decide (0 < i) = false := by simp; omega
        obtain ⟨z1, z2, z3, t1, t2, t3, q1, q2, q3, ez⟩ := long_texts z (longS i) hz.out (by omega) P Q
        have hr : z3 = bs (longS (i + 1)) := by rw [ez, eP, eQ, longS, if_pos h0]
        have HR := Lib.hid hr
        clear hr ez eP eQ lP lQ hlen hi40 h0
        go_wp2_with fail
        go_roundw
        case rel => exact ⟨i + 1, z3, by omega, rfl, by go_num, HR, hB.out.alloc hB.out.size _⟩
        case measure => simp [intOf]; omega
      · have dz : decide ((0 : Int) < (i : Int)) = true := by simp; omega
        have dz' : decide (0 < i) = true := by simp; omega
        obtain ⟨zc, hzc⟩ : ∃ zc, z ++ (⟨#[44]⟩ : ByteArray) = zc := ⟨_, rfl⟩
        have ezc : zc = bs (longS i ++ [44]) := by rw [← hzc, hz.out, ← addStr]; rfl
        have q0 : ¬ 9223372036854775807 < z.size + 1 := by rw [hz.out, size_bs]; omega
        obtain ⟨z1, z2, z3, t1, t2, t3, q1, q2, q3, ez⟩ := long_texts zc (longS i ++ [44]) ezc (by rw [List.length_append, List.length_singleton]; omega) P Q
        have hr : z3 = bs (longS (i + 1)) := by rw [ez, eP, eQ, longS, if_neg h0]
        have HR := Lib.hid hr
        clear hr ez eP eQ lP lQ hlen hi40 h0 ezc
        go_wp2_with fail
        go_roundw
        case rel => exact ⟨i + 1, z3, by omega, rfl, by go_num, HR, hB.out.alloc hB.out.size _⟩
        case measure => simp [intOf]; omega
    · have dl : decide ((i : Int) < (m : Int)) = false := by simp; omega
      have dl' : decide (i < m) = false := by simp; omega
      obtain rfl : i = m := by omega
      have hR := fun W => read_any z W
      rw [hz.out, list_bs, ← hz.out] at hR
      have h1 := long1 ⟨i, HM.out⟩
      obtain ⟨⟨er, ⟨M0, M1, M2, M3, M4⟩, oth⟩, hrs⟩ : ∃ R, readSt (longS i) = R := ⟨_, rfl⟩
      rw [hrs] at hR
      rw [show readSt (longS (⟨i, HM.out⟩ : Fin 40).val) = _ from hrs] at h1
      dsimp only [mkRow] at hR h1
      obtain ⟨t1, t2, t3, t4, t5, a1, a2, a3, a4, a5, q1, q2, q3, q4, q5, et⟩ := long_text2 (y := y) (by have := HX.out; have := HYX.out; omega)
      have hR2 := fun W => read_any t5 W
      rw [et, list_bs, ← et] at hR2
      have h2 := long2 ⟨x, HX.out⟩
      dsimp only at h2
      rw [← HYX.out] at h2
      have hlt5 : t5.size = y + 358 := by rw [et, size_bs, longT_len]
      obtain ⟨⟨er2, ⟨N0, N1, N2, N3, N4⟩, oth2⟩, hrs2⟩ : ∃ R, readSt (longT y) = R := ⟨_, rfl⟩
      rw [hrs2] at hR2
      rw [hrs2] at h2
      dsimp only [mkRow] at hR2 h2
      have F1 := fun W => fill_any y (by have := HX.out; have := HYX.out; omega) W
      have F2 := fun W => fill_any 150 (by omega) W
      have F3 := fun W => fill_any 200 (by omega) W
      obtain ⟨f1, hf1⟩ : ∃ f, bs (List.replicate y 120) = f := ⟨_, rfl⟩
      obtain ⟨f2, hf2⟩ : ∃ f, bs (List.replicate 150 120) = f := ⟨_, rfl⟩
      obtain ⟨f3, hf3⟩ : ∃ f, bs (List.replicate 200 120) = f := ⟨_, rfl⟩
      rw [hf1] at F1 a1 q1
      rw [hf2] at F2 a3 q3
      rw [hf3] at F3 a5 q5
      have G1 := Lib.hid F1
      have G2 := Lib.hid F2
      have G3 := Lib.hid F3
      have HR1 := Lib.hid hR
      have HR2 := Lib.hid hR2
      have w1 : (er = 0 ∧ decide ((i : Int) ≤ 32) = true) ∨ (er = 3 ∧ decide ((i : Int) ≤ 32) = false) := by
        by_cases hc : i ≤ 32
        · rw [if_pos hc] at h1; exact .inl ⟨h1, by simp; omega⟩
        · rw [if_neg hc] at h1; exact .inr ⟨h1, by simp; omega⟩
      have w2 : (er2 = 0 ∧ decide ((t5.size : Int) ≤ 512) = true) ∨ (er2 = 3 ∧ decide ((t5.size : Int) ≤ 512) = false) := by
        rw [hlt5, HYX.out]
        by_cases hc : x ≤ 104
        · rw [if_pos hc] at h2; exact .inl ⟨h2, by simp; omega⟩
        · rw [if_neg hc] at h2; exact .inr ⟨h2, by simp; omega⟩
      have W1 := Lib.hid w1
      have W2 := Lib.hid w2
      clear F1 F2 F3 hR hR2 h1 h2 hrs hrs2 hf1 hf2 hf3 et hlt5 w1 w2 hz
      go_wp2_with fail
      refine (HR1.out _).mono ?_
      rintro e w2 ⟨rfl, hb2⟩
      have HB2 := Lib.hid ((hB.out.trans (hb2.mono hB.out.size)).alloc (hB.out.trans (hb2.mono hB.out.size)).size (.cells #[.bool M0, .int .u64 (M1 : Int), .bool M2, .int .u64 (M3 : Int)] 29))
      clear hb2 hB
      go_wp2_with fail
      refine (G1.out _).mono ?_
      rintro e w3 ⟨rfl, rfl⟩
      go_wp2_with fail
      refine (G2.out _).mono ?_
      rintro e w3 ⟨rfl, rfl⟩
      go_wp2_with fail
      refine (G3.out _).mono ?_
      rintro e w3 ⟨rfl, rfl⟩
      go_wp2_with fail
      refine (HR2.out _).mono ?_
      rintro e w4 ⟨rfl, hb4⟩
      have HB4 := Lib.hid ((HB2.out.trans (hb4.mono HB2.out.size)).alloc (HB2.out.trans (hb4.mono HB2.out.size)).size (.cells #[.bool N0, .int .u64 (N1 : Int), .bool N2, .int .u64 (N3 : Int)] 29))
      clear hb4 HB2
      go_wp2_with fail
      refine (known_any _ (HS.out.later HB4.out)).mono ?_
      rintro e w5 ⟨rfl, hb5⟩
      have HB5 := Lib.hid (HB4.out.trans (hb5.mono HB4.out.size))
      clear hb5 HB4
      rcases W1.out with ⟨rfl, c1⟩ | ⟨rfl, c1⟩ <;> rcases W2.out with ⟨rfl, c2⟩ | ⟨rfl, c2⟩ <;>
      · go_wp2_with fail
        go_ret
        exact ⟨rfl, HB5.out⟩

namespace CtxLong
set_option linter.unusedSimpArgs false in
set_option maxRecDepth 100000 in
theorem lifted (os : Os) (started : os.Started) (H : Type) (enc : TypeId × Value → H) :
    ReturnsInHanded {} Tryd.checked os 9 .any (fun w args => (Rows.ctxLongSpec.pre enc Tryd.prog Tryd.f9 [] false w args ∧ laidMetH Tryd.prog laidL w) ∧ sizedMet enc Tryd.prog Tryd.f9 (OpenSpec.ofChange Rows.ctxLongSpec) false w args)
      (Rows.ctxLongSpec.post enc Tryd.prog Tryd.f9 false true false false) := by
  refine returnsInHanded_of_change_and (C := Tryd.checked) (X := fun w _ => laidMetH Tryd.prog laidL w) (fun _ _ _ hh h => h.of_heap hh) own started (by kernel_rfl) Tryd.func9
    (ChangeSpec.witness_shaped (enc := enc) (C := Tryd.checked) (os := os) (X := fun w _ => laidMetH Tryd.prog laidL w) false (World.laidAll Tryd.prog os laidL) #[.int .u8 0, .int .u16 0] 8 (World.laidAll_os _ _ _) (World.shaped_of_ZipB (by kernel_rfl) (by kernel_rfl)) (by kernel_rfl) (by kernel_rfl) (by kernel_rfl) (door_met os _)) ?_
  intro W base args ds gs before hval0 hW _ _ hL _
  have hS := of_laid hL
  have hval : ∀ (j : Nat) t v, Tryd.f9.params[j]? = some t → args[j]? = some v → Value.okWide Tryd.prog W .any base t v := hval0
  have hW' := hW
  obtain ⟨p, q, hA0, hV, rfl, _, _⟩ := hW
  have hA : DataW.TrodAll enc Tryd.prog W 0 (fun _ => true) true Tryd.f9.params.toList args.toList ds p := hA0
  rw [Tryd.params9] at hA hval
  obtain ⟨v0, vs0, d0, ds0, p0, q0, hargs, rfl, rfl, h0, r0⟩ := trodAll_cons hA
  obtain ⟨v1, vs1, d1, ds1, p1, q1, rfl, rfl, rfl, h1, r1⟩ := trodAll_cons r0
  obtain ⟨rfl, rfl, rfl⟩ := trodAll_nil r1
  obtain rfl : args = #[v0, v1] := by cases args; simp_all
  obtain ⟨rfl, rfl⟩ := trodVars_none hV
  obtain ⟨a0, rfl, rfl, rfl, w0⟩ := open_int Tryd.underlying5 (hval 0 5 v0 rfl rfl) h0
  have k0 := wf_u8 w0
  obtain ⟨n0, rfl⟩ : ∃ u : UInt8, a0 = (u.toNat : Int) := ⟨UInt8.ofNat a0.toNat, by simp; omega⟩
  obtain ⟨a1, rfl, rfl, rfl, w1⟩ := open_int Tryd.underlying24 (hval 1 24 v1 rfl rfl) h1
  have k1 := wf_u16 w1
  obtain ⟨n1, rfl⟩ : ∃ n : Nat, a1 = n := ⟨a1.toNat, by omega⟩
  clear hA0 hval0
  simp only [List.append_nil] at hW'
  refine (long_walk n0.toNat n1 n0.toNat_lt (by omega) W hS).mono fun e W' ⟨he, hg⟩ => ?_
  subst he
  exact ⟨_, rfl, true_last hW' rfl (by kernel_rfl) Tryd.underlying4 rfl rfl rfl (of_decide_eq_true (by kernel_rfl)) hg⟩

/-- The row. -/
theorem said : Rows.CtxLongSaid :=
  OpenClaim.holds_of_wide 9 Tryd.f9 rfl rfl rfl rfl rfl rfl rfl ⟨rfl, rfl, rfl, rfl, rfl⟩ rfl rfl rfl rfl rfl (by kernel_rfl) Tryd.func9 (by kernel_rfl)
    (of_decide_eq_true (by kernel_rfl)) (by unfold Func.isWrapper; first | (rw [if_pos (by decide +kernel)]; kernel_rfl) | (rw [if_neg (by decide +kernel)]; exact ⟨rfl, rfl⟩))
    (fun os started H enc _ => lifted os started H enc)
/-- **CtxLong, at every input: the card, its listed variables tied to the program's text.** -/
theorem proved : Rows.CtxLongCardSaid :=
  Claim7.holds_tied_plain_at .later [] [.data, .data, .pinned] true Rows.ctxLongCard.stood.harness false
    said (fun _ h => by cases h) (by kernel_rfl) (fun _ h => by cases h) ctxLong_row_tie rfl ⟨rfl, rfl⟩ (by kernel_rfl) rfl
    (fun f fn hf hfn => by
      obtain rfl : f = 9 := Option.some.inj ((show Tryd.prog.funcNamed "telemeter/telemeterlaw04.CtxLong" = some 9 by kernel_rfl).symm.trans hf) |>.symm
      obtain rfl : fn = Tryd.f9 := (Option.some.inj (Tryd.func9.symm.trans hfn)).symm
      exact ⟨by kernel_rfl, fun j t ht => by
        rw [Tryd.params9] at ht
        have hm : t ∈ [5, 24] := by simpa using Array.mem_of_getElem? ht
        have hall : ([5, 24].all fun u => !Tryd.prog.wantsStandIn u) = true := by kernel_rfl
        exact (show Tryd.prog.wantsStandIn t = false by simpa using List.all_eq_true.1 hall t hm)⟩)
    (by kernel_rfl)
end CtxLong

end Go.Proofs.YtkfidolbbnmjfaaDoor
