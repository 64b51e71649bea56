/-
  Proved: CtxOthers returns true for all choices and numbers: members that are not ours stay, in their order, behind ours. No condition.
-/
import Derived.Test.YtkfidolbbnmjfaaDoorCtxKnown
import Derived.Test.YtkfidolbbnmjfaaDoorCtxArg
namespace Go.Proofs.YtkfidolbbnmjfaaDoor
open Go.ChangeShapes Go.WideShapes Go.ChangeAt Go.RowKit Go.Proofs.CtxState

def othS : Nat → List UInt8
  | 0 => []
  | i + 1 => (if i = 0 then othS i else othS i ++ [44]) ++ ([107] ++ [UInt8.ofNat (97 + i)] ++ [61] ++ [UInt8.ofNat (49 + i)])
def othL (m : Nat) : List (List UInt8) := (List.range m).map fun i => [107, UInt8.ofNat (97 + i), 61, UInt8.ofNat (49 + i)]
def othT (m : Nat) (b : Bool) : List UInt8 := if decide (0 < m) && b then [111, 116, 61, 120, 58, 49, 44] ++ othS m else othS m
def tailS (m : Nat) : List UInt8 := if 0 < m then [44] ++ othS m else []
theorem oth1 : ∀ (m : Fin 9) (b : Bool), withOf (othT m.val b) false 0 false 0 = (othS m.val, 0) := by decide +kernel
theorem oth2 : ∀ (m : Fin 9) (b : Bool), (readSt (othT m.val b)).1 = 0 ∧ (readSt (othT m.val b)).2.2 = othL m.val := by decide +kernel
theorem oth3 : ∀ m : Fin 9, Lib.joinTail [44] (othL m.val) = tailS m.val ∧ (tailS m.val).length ≤ 45 ∧ (tailS m.val).count 44 ≤ 9 ∧ (othS m.val).length ≤ 45 := by decide +kernel
theorem hexd_not : ∀ d : Fin 16, CtxMath.hexd d.val ≠ 44 := by decide
theorem last_count (n size : Nat) : (CtxMath.last n size).count 44 = 0 := by
  rw [List.count_eq_zero]
  intro h
  have h1 := List.mem_of_mem_drop h
  obtain ⟨j, _, hj⟩ := List.mem_map.1 h1
  exact hexd_not ⟨CtxMath.dig n j, CtxMath.dig_lt _ _⟩ hj
theorem oth4 (m : Nat) (hm : m < 9) (b : Bool) (r : Nat) (hr : r < 72057594037927936) : withOf (othT m b) false 0 true r = ([111, 116, 61, 114, 118, 58] ++ CtxMath.last r 14 ++ tailS m, 0) := by
  obtain ⟨h1, h2⟩ := oth2 ⟨m, hm⟩ b
  obtain ⟨h3, h4, h5, _⟩ := oth3 ⟨m, hm⟩
  dsimp only at h1 h2 h3 h4 h5
  have hl := CtxMath.last_len r 14 (by omega)
  have ha : areM false 0 true r = true := by simp [areM, hr]
  have hj : Lib.join (membersW false 0 true r (othL m)) [44] = [111, 116, 61, 114, 118, 58] ++ CtxMath.last r 14 ++ tailS m := by
    show Lib.join (laidM false 0 true r :: othL m) [44] = _
    rw [Lib.join_cons, h3]
    have hlm : laidM false 0 true r = [111, 116, 61, 114, 118, 58] ++ CtxMath.last r 14 := by
      show [111, 116, 61] ++ Lib.join [[114, 118, 58] ++ CtxMath.last r 14] [59] = _
      rw [Lib.join_one]; rfl
    rw [hlm]
  have ht : tooLong ([111, 116, 61, 114, 118, 58] ++ CtxMath.last r 14 ++ tailS m) = false := by
    unfold tooLong
    rw [List.count_append, List.count_append, last_count]
    have hc : ([111, 116, 61, 114, 118, 58] : List UInt8).count 44 = 0 := by decide
    rw [hc]
    simp only [List.length_append, List.length_cons, List.length_nil, Bool.or_eq_false_iff, decide_eq_false_iff_not]
    omega
  unfold withOf
  rw [if_neg (by rw [h1]; simp), if_neg (by rw [ha]; simp), h2, hj, ht]
  rfl

theorem conv_oneN (W : World) (g : Nat) (P : Nat) (hP : P < 256) (h0 : W.cell? ⟨g, 0, none⟩ = some (.int .u8 (P : Int))) :
    (convert 23 9 (.slice (some ⟨g, 0, none⟩) 1 1)).run Tryd.prog W = .ok (.string ⟨#[UInt8.ofNat P]⟩) W := by
  have eP : ((UInt8.ofNat P).toNat : Int) = (P : Int) := by simp; omega
  refine run_convert_bytes_back W 23 9 5 ⟨g, 0, none⟩ 1 [UInt8.ofNat P] Tryd.underlying23 Tryd.underlying5 Tryd.underlying9 (fun j hj => ?_)
  obtain rfl : j = 0 := by simpa using hj
  rw [show ([UInt8.ofNat P] : List UInt8)[0] = UInt8.ofNat P from rfl, eP]
  exact h0
theorem oth_step {i : Nat} (hi : i < 9) : ∃ P Q : Nat, (97 : Int) + (i : Int) = (P : Int) ∧ IntKind.u8.wrap (P : Int) = (P : Int) ∧ (49 : Int) + (i : Int) = (Q : Int) ∧ IntKind.u8.wrap (Q : Int) = (Q : Int) ∧ P = 97 + i ∧ Q = 49 + i ∧ P < 256 ∧ Q < 256 :=
  ⟨97 + i, 49 + i, by omega, by rw [IntKind.wrap_u8]; omega, by omega, by rw [IntKind.wrap_u8]; omega, rfl, rfl, by omega, by omega⟩
theorem oth_texts (P Q : Nat) (z : ByteArray) (b : List UInt8) (hz : z = bs b) (hb : b.length ≤ 100) : ∃ z1 z2 z3 z4, (⟨#[107]⟩ : ByteArray) ++ (⟨#[UInt8.ofNat P]⟩ : ByteArray) = z1 ∧ z1 ++ (⟨#[61]⟩ : ByteArray) = z2 ∧ z2 ++ (⟨#[UInt8.ofNat Q]⟩ : ByteArray) = z3 ∧ z ++ z3 = z4 ∧
    ¬ 9223372036854775807 < z1.size + 1 ∧ ¬ 9223372036854775807 < z2.size + 1 ∧ ¬ 9223372036854775807 < z.size + z3.size ∧ z4 = bs (b ++ ([107] ++ [UInt8.ofNat P] ++ [61] ++ [UInt8.ofNat Q])) := by
  subst hz
  have e1 : (⟨#[107]⟩ : ByteArray) ++ (⟨#[UInt8.ofNat P]⟩ : ByteArray) = bs ([107] ++ [UInt8.ofNat P]) := by rw [← addStr]; rfl
  have e2 : bs ([107] ++ [UInt8.ofNat P]) ++ (⟨#[61]⟩ : ByteArray) = bs ([107] ++ [UInt8.ofNat P] ++ [61]) := by rw [← addStr]; rfl
  have e3 : bs ([107] ++ [UInt8.ofNat P] ++ [61]) ++ (⟨#[UInt8.ofNat Q]⟩ : ByteArray) = bs ([107] ++ [UInt8.ofNat P] ++ [61] ++ [UInt8.ofNat Q]) := by rw [← addStr]; rfl
  refine ⟨_, _, _, _, e1, e2, e3, addStr _ _, ?_, ?_, ?_, rfl⟩ <;> (simp only [size_bs, List.length_append, List.length_cons, List.length_nil]; omega)
theorem othS_len : ∀ m : Nat, (othS m).length ≤ 5 * m
  | 0 => by simp [othS]
  | m + 1 => by
    have := othS_len m
    unfold othS
    split <;> simp <;> omega
theorem oth_num {n k : Nat} (r0 : Nat) (_ : n < 256) (_ : k < 256) : ∃ m e r : Nat, (n : Int) % 9 = (m : Int) ∧ (k : Int) % 2 = (e : Int) ∧ (r0 : Int) % 72057594037927936 = (r : Int) ∧ m < 9 ∧ e < 2 ∧ r < 72057594037927936 :=
  ⟨n % 9, k % 2, r0 % 72057594037927936, by omega, by omega, by omega, by omega, by omega, Nat.mod_lt _ (by decide)⟩
/-- The second answer: its parts. -/
theorem oth_ans (m r : Nat) (hm : m < 9) : ∃ (u tl : ByteArray) (T : Nat), bs ([111, 116, 61, 114, 118, 58] ++ CtxMath.last r 14 ++ tailS m) = u ∧ bs (tailS m) = tl ∧ u.size = 20 + T ∧ tl.size = T ∧ u.extract 20 (20 + T) = tl ∧ T ≤ 45 := by
  obtain ⟨_, h4, _, _⟩ := oth3 ⟨m, hm⟩
  dsimp only at h4
  have hl := CtxMath.last_len r 14 (by omega)
  have hA : ([111, 116, 61, 114, 118, 58] ++ CtxMath.last r 14).length = 20 := by simp [hl]
  refine ⟨_, _, (tailS m).length, rfl, rfl, ?_, size_bs _, ?_, h4⟩
  · rw [size_bs, List.length_append, hA]
  · have e := drop_bs (bs ([111, 116, 61, 114, 118, 58] ++ CtxMath.last r 14 ++ tailS m)) 20
    rw [size_bs, List.length_append, hA, list_bs] at e
    rw [e, List.drop_append_of_le_length (by omega), List.drop_of_length_le (by omega)]
    rfl
theorem oth_more {m : Nat} (hm : m < 9) (z : ByteArray) (hz : z = bs (othS m)) : ¬ 9223372036854775807 < 7 + z.size ∧ ¬ 9223372036854775807 < 1 + z.size := by
  have hl := (oth3 ⟨m, hm⟩).2.2.2
  dsimp only at hl
  have hs : z.size ≤ 45 := by rw [hz, size_bs]; exact hl
  exact ⟨by omega, by omega⟩
set_option maxRecDepth 100000 in
set_option maxHeartbeats 8000000 in
theorem others_walk (n k r0 : Nat) (hn : n < 256) (hk : k < 256) (w : World) (hS : Shape w) :
    Calls Tryd.prog 3 #[.int .u8 (n : Int), .int .u8 (k : Int), .int .u64 (r0 : Int)] w fun e w' => e = .returned (.bool true) ∧ Below w.heap.size w w' := by
  obtain ⟨m, e, r, hm, he, hr, hm9, he2, hr56⟩ := oth_num r0 hn hk
  have HS := Lib.hid hS
  have HM := Lib.hid hm9
  have HE := Lib.hid he2
  have HR := Lib.hid hr56
  clear hS hn hk hm9 he2 hr56
  go_enter Tryd.func3, Tryd.ntmps3
  go_wp2_with fail
  go_loopw [7, 8, 10] (fun a c b wr => ∃ (i : Nat) (z : ByteArray), i ≤ m ∧ a = .string z ∧ c = .string z ∧ b = .int .i64 (i : Int) ∧ Hid (z = bs (othS i)) ∧ Hid (Below w.heap.size w wr)) (fun _ _ b _ => m - (intOf b).toNat)
  case atStart => exact ⟨0, ⟨#[]⟩, by omega, rfl, rfl, rfl, rfl, Below.refl _ _⟩
  case round =>
    obtain ⟨i, z, hi, rfl, rfl, rfl, hz, hB⟩ := hrel
    by_cases hlt : i < m
    · have dl : decide ((i : Int) < (m : Int)) = true := by simp; omega
      have dl' : decide (i < m) = true := by simp; omega
      have hi9 : i < 9 := Nat.lt_trans hlt HM.out
      obtain ⟨P, Q, n2, n3, n5, n6, eP, eQ, lP, lQ⟩ := oth_step hi9
      have hlen := othS_len i
      have hcv := conv_oneN (wr.alloc (.cells #[.int .u8 (P : Int)] 5)) wr.heap.size P lP ((blk_new wr #[.int .u8 (P : Int)] 5).cell 0 rfl)
      have hcw := conv_oneN ((wr.alloc (.cells #[.int .u8 (P : Int)] 5)).alloc (.cells #[.int .u8 (Q : Int)] 5)) (wr.heap.size + 1) Q lQ (by have := (blk_new (wr.alloc (.cells #[.int .u8 (P : Int)] 5)) #[.int .u8 (Q : Int)] 5).cell 0 rfl; rwa [World.size_alloc] at this)
      have hBn : Hid (Below w.heap.size w ((wr.alloc (.cells #[.int .u8 (P : Int)] 5)).alloc (.cells #[.int .u8 (Q : Int)] 5))) := (hB.out.alloc hB.out.size _).alloc (by simp; have := hB.out.size; omega) _
      by_cases h0 : i = 0
      · have dz : decide ((0 : Int) < (i : Int)) = false := by simp; omega
        have dz' : decide (0 < i) = false := by simp; omega
        obtain ⟨z1, z2, z3, z4, t1, t2, t3, t4, q1, q2, q3, ez⟩ := oth_texts P Q z (othS i) hz.out (by omega)
        have hr : z4 = bs (othS (i + 1)) := by rw [ez, eP, eQ, othS, if_pos h0]
        have HRR := Lib.hid hr
        clear hr ez eP eQ lP lQ hlen hi9 h0
        go_wp2_with fail
        go_roundw
        case rel => exact ⟨i + 1, z4, by omega, rfl, rfl, by go_num, HRR, hBn⟩
        case measure => simp [intOf]; omega
      · have dz : decide ((0 : Int) < (i : Int)) = true := by simp; omega
        have dz' : decide (0 < i) = true := by simp; omega
        obtain ⟨zc, hzc⟩ : ∃ zc, z ++ (⟨#[44]⟩ : ByteArray) = zc := ⟨_, rfl⟩
        have ezc : zc = bs (othS i ++ [44]) := by rw [← hzc, hz.out, ← addStr]; rfl
        have q0 : ¬ 9223372036854775807 < z.size + 1 := by rw [hz.out, size_bs]; omega
        obtain ⟨z1, z2, z3, z4, t1, t2, t3, t4, q1, q2, q3, ez⟩ := oth_texts P Q zc (othS i ++ [44]) ezc (by rw [List.length_append, List.length_singleton]; omega)
        have hr : z4 = bs (othS (i + 1)) := by rw [ez, eP, eQ, othS, if_neg h0]
        have HRR := Lib.hid hr
        clear hr ez eP eQ lP lQ hlen hi9 h0 ezc
        go_wp2_with fail
        go_roundw
        case rel => exact ⟨i + 1, z4, by omega, rfl, rfl, by go_num, HRR, hBn⟩
        case measure => simp [intOf]; omega
    · have dl : decide ((i : Int) < (m : Int)) = false := by simp; omega
      have dl' : decide (i < m) = false := by simp; omega
      obtain rfl : i = m := by omega
      obtain ⟨u, tl, T, hu, ht, hU, hT, hcut, hT45⟩ := oth_ans i r HM.out
      obtain ⟨qz, qy⟩ := oth_more HM.out z hz.out
      have zz : (z.toList == z.toList) = true := by simp
      have tt : (tl.toList == tl.toList) = true := by simp
      obtain ⟨sT, hsT⟩ : ∃ sT, (⟨#[111, 116, 61, 120, 58, 49, 44]⟩ : ByteArray) ++ z = sT := ⟨_, rfl⟩
      have esT : sT = bs ([111, 116, 61, 120, 58, 49, 44] ++ othS i) := by rw [← hsT, hz.out, ← addStr]; rfl
      have W1 : ∀ (x : ByteArray) (b : Bool), x = bs (othT i b) → ∀ W, Calls Tryd.prog 10 #[.string x, .agg #[.bool false, .int .u64 0, .bool false, .int .u64 0]] W fun e w' => e = .returned (.tuple #[.string z, .int .u16 0]) ∧ Below W.heap.size W w' := fun x b hx W =>
        (with_any x false 0 false 0 W).mono fun _ _ ⟨h1, h2⟩ => ⟨by rw [h1, hx, list_bs, oth1 ⟨i, HM.out⟩ b, hz.out]; rfl, h2⟩
      have W2 : ∀ (x : ByteArray) (b : Bool), x = bs (othT i b) → ∀ W, Calls Tryd.prog 10 #[.string x, .agg #[.bool false, .int .u64 0, .bool true, .int .u64 (r : Int)]] W fun e w' => e = .returned (.tuple #[.string u, .int .u16 0]) ∧ Below W.heap.size W w' := fun x b hx W =>
        (with_any x false 0 true r W).mono fun _ _ ⟨h1, h2⟩ => ⟨by rw [h1, hx, list_bs, oth4 i HM.out b r HR.out, ← hu]; rfl, h2⟩
      have HZ := hz
      by_cases h0 : 0 < i
      · have dz : decide (0 < i) = true := by simp [h0]
        have htl : (⟨#[44]⟩ : ByteArray) ++ z = tl := by rw [← ht, hz.out, tailS, if_pos h0, ← addStr]; rfl
        by_cases hee : e = 0
        · have de : ((e : Int) == 0) = true := by rw [hee]; rfl
          have V1 := Lib.hid (W1 sT true (by rw [esT, othT, dz]; rfl))
          have V2 := Lib.hid (W2 sT true (by rw [esT, othT, dz]; rfl))
          clear W1 W2 esT hee hz hu ht h0
          go_wp2_with fail
          refine (V1.out _).mono ?_
          rintro e1 w1 ⟨rfl, hb1⟩
          have HB1 := Lib.hid (hB.out.trans (hb1.mono hB.out.size))
          clear hb1
          go_wp2_with fail
          refine (V2.out _).mono ?_
          rintro e2 w2 ⟨rfl, hb2⟩
          have HB2 := Lib.hid (HB1.out.trans (hb2.mono HB1.out.size))
          clear hb2
          go_wp2_with fail
          refine (known_any _ (HS.out.later HB2.out)).mono ?_
          rintro e3 w3 ⟨rfl, hb3⟩
          have HB3 := Lib.hid (HB2.out.trans (hb3.mono HB2.out.size))
          clear hb3
          go_wp2_with fail
          go_ret
          exact ⟨rfl, HB3.out⟩
        · have de : ((e : Int) == 0) = false := by simp [hee]
          have V1 := Lib.hid (W1 z false (by rw [hz.out, othT, Bool.and_false]; rfl))
          have V2 := Lib.hid (W2 z false (by rw [hz.out, othT, Bool.and_false]; rfl))
          clear W1 W2 esT hee hz hu ht h0
          go_wp2_with fail
          refine (V1.out _).mono ?_
          rintro e1 w1 ⟨rfl, hb1⟩
          have HB1 := Lib.hid (hB.out.trans (hb1.mono hB.out.size))
          clear hb1
          go_wp2_with fail
          refine (V2.out _).mono ?_
          rintro e2 w2 ⟨rfl, hb2⟩
          have HB2 := Lib.hid (HB1.out.trans (hb2.mono HB1.out.size))
          clear hb2
          go_wp2_with fail
          refine (known_any _ (HS.out.later HB2.out)).mono ?_
          rintro e3 w3 ⟨rfl, hb3⟩
          have HB3 := Lib.hid (HB2.out.trans (hb3.mono HB2.out.size))
          clear hb3
          go_wp2_with fail
          go_ret
          exact ⟨rfl, HB3.out⟩
      · have dz : decide (0 < i) = false := by simp [h0]
        have htl : tl = ⟨#[]⟩ := by rw [← ht, tailS, if_neg h0]; rfl
        have V1 := Lib.hid (W1 z false (by rw [hz.out, othT, Bool.and_false]; rfl))
        have V2 := Lib.hid (W2 z false (by rw [hz.out, othT, Bool.and_false]; rfl))
        subst htl
        have hT0 : T = 0 := by rw [← hT]; rfl
        subst hT0
        clear W1 W2 esT hz hu ht h0 hT
        go_wp2_with fail
        refine (V1.out _).mono ?_
        rintro e1 w1 ⟨rfl, hb1⟩
        have HB1 := Lib.hid (hB.out.trans (hb1.mono hB.out.size))
        clear hb1
        go_wp2_with fail
        refine (V2.out _).mono ?_
        rintro e2 w2 ⟨rfl, hb2⟩
        have HB2 := Lib.hid (HB1.out.trans (hb2.mono HB1.out.size))
        clear hb2
        go_wp2_with fail
        refine (known_any _ (HS.out.later HB2.out)).mono ?_
        rintro e3 w3 ⟨rfl, hb3⟩
        have HB3 := Lib.hid (HB2.out.trans (hb3.mono HB2.out.size))
        clear hb3
        go_wp2_with fail
        go_ret
        exact ⟨rfl, HB3.out⟩

namespace CtxOthers
set_option linter.unusedSimpArgs false in
set_option maxRecDepth 100000 in
theorem lifted (os : Os) (started : os.Started) (H : Type) (enc : TypeId × Value → H) :
    ReturnsInHanded {} Tryd.checked os 3 .any (fun w args => (Rows.ctxOthersSpec.pre enc Tryd.prog Tryd.f3 [] false w args ∧ laidMetH Tryd.prog laidL w) ∧ sizedMet enc Tryd.prog Tryd.f3 (OpenSpec.ofChange Rows.ctxOthersSpec) false w args)
      (Rows.ctxOthersSpec.post enc Tryd.prog Tryd.f3 false true false false) := by
  refine returnsInHanded_of_change_and (C := Tryd.checked) (X := fun w _ => laidMetH Tryd.prog laidL w) (fun _ _ _ hh h => h.of_heap hh) own started (by kernel_rfl) Tryd.func3
    (ChangeSpec.witness_shaped (enc := enc) (C := Tryd.checked) (os := os) (X := fun w _ => laidMetH Tryd.prog laidL w) false (World.laidAll Tryd.prog os laidL) #[.int .u8 0, .int .u8 0, .int .u64 0] 8 (World.laidAll_os _ _ _) (World.shaped_of_ZipB (by kernel_rfl) (by kernel_rfl)) (by kernel_rfl) (by kernel_rfl) (by kernel_rfl) (door_met os _)) ?_
  intro W base args ds gs before hval0 hW _ _ hL _
  have hS := of_laid hL
  have hval : ∀ (j : Nat) t v, Tryd.f3.params[j]? = some t → args[j]? = some v → Value.okWide Tryd.prog W .any base t v := hval0
  have hW' := hW
  obtain ⟨p, q, hA0, hV, rfl, _, _⟩ := hW
  have hA : DataW.TrodAll enc Tryd.prog W 0 (fun _ => true) true Tryd.f3.params.toList args.toList ds p := hA0
  rw [Tryd.params3] at hA hval
  obtain ⟨v0, vs0, d0, ds0, p0, q0, hargs, rfl, rfl, h0, r0⟩ := trodAll_cons hA
  obtain ⟨v1, vs1, d1, ds1, p1, q1, rfl, rfl, rfl, h1, r1⟩ := trodAll_cons r0
  obtain ⟨v2, vs2, d2, ds2, p2, q2, rfl, rfl, rfl, h2, r2⟩ := trodAll_cons r1
  obtain ⟨rfl, rfl, rfl⟩ := trodAll_nil r2
  obtain rfl : args = #[v0, v1, v2] := by cases args; simp_all
  obtain ⟨rfl, rfl⟩ := trodVars_none hV
  obtain ⟨a0, rfl, rfl, rfl, w0⟩ := open_int Tryd.underlying5 (hval 0 5 v0 rfl rfl) h0
  have k0 := wf_u8 w0
  obtain ⟨n0, rfl⟩ : ∃ u : UInt8, a0 = (u.toNat : Int) := ⟨UInt8.ofNat a0.toNat, by simp; omega⟩
  obtain ⟨a1, rfl, rfl, rfl, w1⟩ := open_int Tryd.underlying5 (hval 1 5 v1 rfl rfl) h1
  have k1 := wf_u8 w1
  obtain ⟨n1, rfl⟩ : ∃ u : UInt8, a1 = (u.toNat : Int) := ⟨UInt8.ofNat a1.toNat, by simp; omega⟩
  obtain ⟨a2, rfl, rfl, rfl, w2⟩ := open_int Tryd.underlying22 (hval 2 22 v2 rfl rfl) h2
  have k2 := wf_u64 w2
  obtain ⟨n2, rfl⟩ : ∃ n : Nat, a2 = n := ⟨a2.toNat, by omega⟩
  clear hA0 hval0
  simp only [List.append_nil] at hW'
  refine (others_walk n0.toNat n1.toNat n2 n0.toNat_lt n1.toNat_lt W hS).mono fun e W' ⟨he, hg⟩ => ?_
  subst he
  exact ⟨_, rfl, true_last hW' rfl (by kernel_rfl) Tryd.underlying4 rfl rfl rfl (of_decide_eq_true (by kernel_rfl)) hg⟩

/-- The row. -/
theorem said : Rows.CtxOthersSaid :=
  OpenClaim.holds_of_wide 3 Tryd.f3 rfl rfl rfl rfl rfl rfl rfl ⟨rfl, rfl, rfl, rfl, rfl⟩ rfl rfl rfl rfl rfl (by kernel_rfl) Tryd.func3 (by kernel_rfl)
    (of_decide_eq_true (by kernel_rfl)) (by unfold Func.isWrapper; first | (rw [if_pos (by decide +kernel)]; kernel_rfl) | (rw [if_neg (by decide +kernel)]; exact ⟨rfl, rfl⟩))
    (fun os started H enc _ => lifted os started H enc)
/-- **CtxOthers, at every input: the card, its listed variables tied to the program's text.** -/
theorem proved : Rows.CtxOthersCardSaid :=
  Claim7.holds_tied_plain_at .later [] [.data, .data, .pinned] true Rows.ctxOthersCard.stood.harness false
    said (fun _ h => by cases h) (by kernel_rfl) (fun _ h => by cases h) ctxOthers_row_tie rfl ⟨rfl, rfl⟩ (by kernel_rfl) rfl
    (fun f fn hf hfn => by
      obtain rfl : f = 3 := Option.some.inj ((show Tryd.prog.funcNamed "telemeter/telemeterlaw04.CtxOthers" = some 3 by kernel_rfl).symm.trans hf) |>.symm
      obtain rfl : fn = Tryd.f3 := (Option.some.inj (Tryd.func3.symm.trans hfn)).symm
      exact ⟨by kernel_rfl, fun j t ht => by
        rw [Tryd.params3] at ht
        have hm : t ∈ [5, 5, 22] := by simpa using Array.mem_of_getElem? ht
        have hall : ([5, 5, 22].all fun u => !Tryd.prog.wantsStandIn u) = true := by kernel_rfl
        exact (show Tryd.prog.wantsStandIn t = false by simpa using List.all_eq_true.1 hall t hm)⟩)
    (by kernel_rfl)
end CtxOthers

end Go.Proofs.YtkfidolbbnmjfaaDoor
