/-
  Proved: WindowTurns returns true for every seed, length, keys and while: what is counted in a while is told no lower in the next one, and not at all in the one behind that. No condition but the card's own: hash's table of steps, tied to the program's text, holds at the start what that text lays.
-/
import Derived.Test.YtgaoggniaajflaaDoorWinKnown
namespace Go.Proofs.YtgaoggniaajflaaDoor
open Go.ChangeShapes Go.WideShapes Go.ChangeAt Go.RowKit Go.Proofs.HashMath Go.Proofs.SkMath

theorem tF_of {long now t t' : Nat} {f : Nat → Nat → Nat} (h : t / long = t' / long) : tF long now t f = tF long now t' f := by unfold tF; rw [h]
theorem tG_ahead {long now t t' q : Nat} {f g : Nat → Nat → Nat} (h : now / long ≤ q) (ht : t / long = q) (ht' : t' / long = q + 1) : tG long now t' f g = tF long now t f := by
  unfold tG tF
  rw [ht, ht', if_neg (by omega)]
  by_cases e : q = now / long
  · rw [if_pos (by omega), if_pos e]
  · rw [if_neg (by omega), if_neg e]
theorem tF_far {long now t' q : Nat} {f : Nat → Nat → Nat} (h : now / long ≤ q) (ht' : t' / long = q + 1) : tF long now t' f = Z := by
  unfold tF
  rw [if_neg (by omega)]
theorem in_while {n q j : Nat} (h : j < n) : (n * q + j) / n = q := by
  rw [Nat.mul_add_div (by omega), Nat.div_eq_of_lt h, Nat.add_zero]
theorem b_geq {x y : Nat} (h : y ≤ x) : decide (y ≤ x) = true := by simp [h]

/-- What the loop has counted. -/
def Cnt (n0 : Nat) (w wr : World) (V seed n q k many : Nat) (key : ByteArray) : Prop :=
  ∃ bs now f g, Wn n0 w wr bs V 3 16 seed n now f g ∧ now ≤ n * q + min k (n - 1) ∧ now / n ≤ q ∧ (∀ i j, tF n now (n * q) f i j ≤ k) ∧ ∀ i, i < 3 → many ≤ tF n now (n * q) f i (placeOf (sd seed q) key.data.toList 16 i)

set_option maxRecDepth 100000 in
set_option maxHeartbeats 2000000 in
theorem windowTurns_walk (seed long : Nat) (A0 : Option Addr) (cs : List UInt8) (cap kk at0 : Nat) (hx : seed < 18446744073709551616) (ha : long ≤ 255) (hkk : kk ≤ 255) (hat : at0 ≤ 255) (hcap : cs.length ≤ cap) (w : World) (hH : Holds8 w.heap.size w A0 cs) (hS : Steps w) :
    Calls Tryd.prog 5 #[.int .u64 (seed : Int), .int .u8 (long : Int), .slice A0 cs.length cap, .int .u8 (kk : Int), .int .u8 (at0 : Int)] w fun e w' => e = .returned (.bool true) ∧ Below w.heap.size w w' := by
  obtain ⟨N, hN⟩ : ∃ N, cs.length = N := ⟨_, rfl⟩
  rw [hN] at hcap ⊢
  obtain ⟨n, hn, hn1, hn2⟩ : ∃ n : Nat, (1 : Int) + (long : Int) % 20 = (n : Int) ∧ 1 ≤ n ∧ n ≤ 30 := ⟨1 + long % 20, by omega, by omega, by omega⟩
  obtain ⟨q, hq, hq9⟩ : ∃ q : Nat, (kk : Int) % 9 = (q : Int) ∧ q ≤ 8 := ⟨kk % 9, by omega, by omega⟩
  obtain ⟨a, ha12, hal⟩ : ∃ a : Nat, (at0 : Int) % 12 = (a : Int) ∧ a ≤ 11 := ⟨at0 % 12, by omega, by omega⟩
  have ham : a % 12 = a := Nat.mod_eq_of_lt (by omega)
  obtain ⟨fr, hfr, hfr'⟩ : ∃ fr : Nat, (n : Int) * (q : Int) = (fr : Int) ∧ n * q = fr := ⟨n * q, by simp, rfl⟩
  have hfrl : fr ≤ 240 := by rw [← hfr']; exact Nat.mul_le_mul hn2 hq9
  obtain ⟨n1, hn1', hn1e⟩ : ∃ n1 : Nat, (n : Int) - 1 = (n1 : Int) ∧ n1 = n - 1 := ⟨n - 1, by omega, rfl⟩
  obtain ⟨t1, ht1, ht1'⟩ : ∃ t1 : Nat, (fr : Int) + (n : Int) = (t1 : Int) ∧ t1 = fr + n := ⟨fr + n, by omega, rfl⟩
  obtain ⟨nn, hnn, hnn'⟩ : ∃ nn : Nat, (2 : Int) * (n : Int) = (nn : Int) ∧ nn = 2 * n := ⟨2 * n, by omega, rfl⟩
  obtain ⟨t2, ht2, ht2'⟩ : ∃ t2 : Nat, (fr : Int) + (nn : Int) = (t2 : Int) ∧ t2 = fr + 2 * n := ⟨fr + 2 * n, by omega, rfl⟩
  have g0 : fr / n = q := by rw [← hfr', Nat.mul_div_cancel_left _ (by omega)]
  have g1 : t1 / n = q + 1 := by rw [ht1', ← hfr', Nat.mul_add_div (by omega), Nat.div_self (by omega)]
  have g2 : t2 / n = q + 1 + 1 := by rw [ht2', ← hfr', Nat.mul_comm 2 n, Nat.mul_add_div (by omega), Nat.mul_div_cancel_left _ (by omega)]
  have hlt := hS.lt
  obtain ⟨n0, hn0⟩ : ∃ n0, w.heap.size = n0 := ⟨_, rfl⟩
  rw [hn0] at hH hlt ⊢
  have hNew := wn_new (w := w) (W := w) 3 16 seed n hS hlt (by omega) (Below.refl _ _) (by omega) (by omega) (by omega) (by omega) hx hn1 (by omega)
  have HNEW := Lib.hid hNew
  have HN := Lib.hid hN
  have HH := Lib.hid hH
  have HFR := Lib.hid hfr'
  have HT1 := Lib.hid ht1'
  have HT2 := Lib.hid ht2'
  have HN1 := Lib.hid hn1e
  have G0 := Lib.hid g0
  have G1 := Lib.hid g1
  have G2 := Lib.hid g2
  have HAM := Lib.hid ham
  clear hNew hN hn0 hH hS hfr' ht1' ht2' hn1e g0 g1 g2 hnn' ham
  by_cases hbig : 60 < N
  · have d1 : decide ((60 : Int) < (N : Int)) = true := by simp; omega
    go_enter Tryd.func5, Tryd.ntmps5
    go_wp2_with fail
    refine HNEW.out.mono ?_
    rintro e w1 ⟨bs, V, rfl, _, _, hw⟩
    have HW := Lib.hid hw
    clear hw
    go_wp2_with fail
    refine (known8_any _ HW.out.steps).mono ?_
    rintro e w2 ⟨rfl, g2⟩
    have hB := Lib.hid (HW.out.later g2).b
    clear g2
    go_wp2_with fail
    go_ret
    exact ⟨rfl, hB.out⟩
  have d1 : decide ((60 : Int) < (N : Int)) = false := by simp; omega
  go_enter Tryd.func5, Tryd.ntmps5
  go_wp2_with fail
  refine HNEW.out.mono ?_
  rintro e w1 ⟨bs, V, rfl, _, _, hw⟩
  have HW := Lib.hid hw
  clear hw
  go_wp2_with fail
  clear hq
  go_loopw [14, 15] (fun mv kv wr => ∃ k many : Nat, k ≤ N ∧ kv = .int .i64 (k : Int) ∧ mv = .int .u64 (many : Int) ∧ many ≤ k ∧ Hid (Cnt n0 w wr V seed n q k many (keyT a))) (fun _ kv _ => N - (intOf kv).toNat)
  case atStart => exact ⟨0, 0, by omega, rfl, rfl, by omega, Lib.hid ⟨_, _, _, _, HW.out, Nat.zero_le _, by simp, fun i j => by rw [tF_Z]; exact Nat.le_refl _, fun _ _ => Nat.zero_le _⟩⟩
  case round =>
    obtain ⟨k, many, hk, rfl, rfl, hmk, HF⟩ := hrel
    by_cases hlt : k < N
    · have dl : decide ((k : Int) < (N : Int)) = true := by simp; omega
      obtain ⟨bs3, now, f, g, hw, hno, hnq, hfk, hfm⟩ := HF.out
      obtain ⟨bb, off, rfl, hbl, hc⟩ := HH.out (by rw [HN.out]; omega)
      have hcl := hc k (by rw [HN.out]; exact hlt)
      have HCL0 := Lib.hid hcl
      rw [← hw.b.cell (p := ⟨bb, off + k, none⟩) hbl] at hcl
      obtain ⟨c, hcv⟩ : ∃ c, cs.getD k 0 = c := ⟨_, rfl⟩
      rw [hcv] at hcl HCL0
      unfold b8 at hcl HCL0
      have hcu := c.toNat_lt
      obtain ⟨y, hy⟩ : ∃ y : Nat, (c.toNat : Int) = (y : Int) := ⟨_, rfl⟩
      have hyl : y ≤ 255 := by omega
      rw [hy] at hcl HCL0
      obtain ⟨z, hz, hz'⟩ : ∃ z : Nat, (y : Int) % 12 = (z : Int) ∧ y % 12 = z := ⟨y % 12, by omega, rfl⟩
      obtain ⟨j, hj, hjn, hjk⟩ : ∃ j : Nat, (if n1 < k then (n1 : Int) else (k : Int)) = (j : Int) ∧ j < n ∧ j = min k (n - 1) := by
        have := HN1.out
        refine ⟨min k (n - 1), ?_, by omega, rfl⟩
        split <;> omega
      obtain ⟨t, ht, ht'⟩ : ∃ t : Nat, (fr : Int) + (j : Int) = (t : Int) ∧ t = fr + j := ⟨fr + j, by omega, rfl⟩
      have htl : t ≤ 300 := by omega
      have htq : t / n = q := by rw [ht', ← HFR.out]; exact in_while hjn
      have hnt : now ≤ t := by have := HFR.out; omega
      have hmk1 : IntKind.u64.wrap ((many : Int) + 1) = ((many + 1 : Nat) : Int) := by rw [IntKind.wrap_u64]; omega
      obtain ⟨m1, hm1⟩ : ∃ m1, many + 1 = m1 := ⟨_, rfl⟩
      rw [hm1] at hmk1
      have HW3 := Lib.hid hw
      have HNT := Lib.hid hnt
      have HNQ := Lib.hid hnq
      have HFK := Lib.hid hfk
      have HFM := Lib.hid hfm
      have HTQ := Lib.hid htq
      have HTE := Lib.hid (show t = n * q + min k (n - 1) by have := HFR.out; omega)
      have HM1 := Lib.hid hm1
      have HZE := Lib.hid hz'
      clear hw hc hcv hy HF hno hnq hfk hfm hjn hjk ht' htq hnt hm1 hz'
      go_wp2_with fail
      refine (key_any y _ hyl).mono ?_
      rintro e w4 ⟨rfl, g4⟩
      rw [HZE.out]
      have HW4 := Lib.hid (HW3.out.later g4)
      clear g4
      go_wp2_with fail
      refine (HW4.out.add t (keyT z) 1 HNT.out (by omega) (keyT_size _) (by omega)).mono ?_
      rintro e w5 ⟨rfl, bs5, _, _, hw5⟩
      have hcl5 : w5.cell? ⟨bb, off + k, none⟩ = some (.int .u8 (y : Int)) := (hw5.b.cell (p := ⟨bb, off + k, none⟩) hbl).trans HCL0.out
      obtain ⟨f', hf'⟩ : ∃ f', tF n now t f = f' := ⟨_, rfl⟩
      have hff : tF n now (n * q) f = f' := by rw [← hf']; exact tF_of (by rw [HTQ.out, HFR.out]; exact G0.out)
      rw [hf', HTQ.out] at hw5
      have hfk := HFK.out
      have hfm := HFM.out
      rw [hff] at hfk hfm
      have hup : ∀ i j, addW (sd seed q) (keyT z) 16 3 1 f' i j ≤ k + 1 := add_all hfk
      have hstay : ∀ f2, tF n t (n * q) f2 = f2 := fun f2 => if_pos (by rw [HTQ.out, HFR.out]; exact G0.out)
      have HW5 := Lib.hid hw5
      by_cases hza : z = a
      · subst hza
        have dza : ((z : Int) == (z : Int)) = true := by simp
        have HREL := Lib.hid (show ∀ w', Below w5.heap.size w5 w' → Cnt n0 w w' V seed n q (k + 1) m1 (keyT z) from fun w' hb => ⟨bs5, t, _, _, HW5.out.later hb, by have := HTE.out; omega, by rw [HTQ.out]; exact Nat.le_refl _, fun i j => by rw [hstay]; exact hup i j, fun i hi => by
          rw [hstay, ← HM1.out]
          exact add_has (by omega) hfm hi⟩)
        clear hw5 hf' hff hfk hfm hup hstay HW5
        go_wp2_with fail
        go_roundw
        case rel => exact ⟨k + 1, m1, by omega, by go_num, rfl, by have := HM1.out; omega, Lib.hid (HREL.out _ (Below.refl _ _))⟩
        case measure => simp [intOf]; omega
      · have dza : ((z : Int) == (a : Int)) = false := by simp; omega
        have HREL := Lib.hid (show ∀ w', Below w5.heap.size w5 w' → Cnt n0 w w' V seed n q (k + 1) many (keyT a) from fun w' hb => ⟨bs5, t, _, _, HW5.out.later hb, by have := HTE.out; omega, by rw [HTQ.out]; exact Nat.le_refl _, fun i j => by rw [hstay]; exact hup i j, fun i hi => by
          rw [hstay]
          exact Nat.le_trans (hfm i hi) (add_up _ _)⟩)
        clear hw5 hf' hff hfk hfm hup hstay HW5
        go_wp2_with fail
        go_roundw
        case rel => exact ⟨k + 1, many, by omega, by go_num, rfl, by omega, Lib.hid (HREL.out _ (Below.refl _ _))⟩
        case measure => simp [intOf]; omega
    · obtain rfl : k = N := by omega
      have dl : decide ((k : Int) < (k : Int)) = false := by simp
      obtain ⟨bs3, now, f, g, hw, hno, hnq, hfk, hfm⟩ := HF.out
      have hnt : now ≤ t1 := by have := HT1.out; have := HFR.out; omega
      have hseed : sdL seed (t1 / n) = sd seed q := by rw [G1.out, sdL_succ]
      have htg : tG n now t1 f g = tF n now (n * q) f := tG_ahead hnq (by rw [HFR.out]; exact G0.out) G1.out
      have htf : tF n now t1 f = Z := tF_far hnq G1.out
      obtain ⟨x, hxe⟩ : ∃ x, told (sd seed q) (keyT a) 16 3 (tF n now (n * q) f) = x := ⟨_, rfl⟩
      have hx1 : x ≤ k := hxe ▸ told_all (by omega) hfk
      have hx2 : many ≤ x := hxe ▸ le_least (by omega) hfm
      have hy0 : told (sdL seed (t2 / n)) (keyT a) 16 3 (tG n t1 t2 Z (tF n now (n * q) f)) = 0 := by
        have : tG n t1 t2 Z (tF n now (n * q) f) = Z := by
          unfold tG
          rw [G1.out, G2.out, if_neg (by omega), if_pos rfl]
        rw [this]
        exact told_Z (by omega)
      have dx1 : decide (many ≤ x) = true := by simp; omega
      have hwk : IntKind.u64.wrap (k : Int) = (k : Int) := by rw [IntKind.wrap_u64]; omega
      have dx2 : decide (x ≤ k) = true := by simp; omega
      have hc := fun W (hb : Below wr.heap.size wr W) => (hw.later hb).closed t1 (keyT a) hnt (by omega) (keyT_size _)
      rw [hseed, htg, htf, hxe] at hc
      have HC := Lib.hid hc
      have HB0 := Lib.hid (Below.refl wr.heap.size wr)
      have HY0 := Lib.hid hy0
      clear hw HF hno hnq hfk hfm hseed htg htf hxe hx1 hx2 hy0 hc hnt
      go_wp2_with fail
      refine (key_any a _ (by omega)).mono ?_
      rintro e w4 ⟨rfl, g4⟩
      rw [HAM.out]
      have HG4 := Lib.hid g4
      clear g4
      go_wp2_with fail
      refine (HC.out _ HG4.out).mono ?_
      rintro e w5 ⟨rfl, bs5, _, _, hw5⟩
      have HW5 := Lib.hid hw5
      clear hw5
      go_wp2_with fail
      refine (key_any a _ (by omega)).mono ?_
      rintro e w6 ⟨rfl, g6⟩
      rw [HAM.out]
      have HW6 := Lib.hid (HW5.out.later g6)
      clear g6
      go_wp2_with fail
      have hc := HW6.out.closed t2 (keyT a) (by have := HT1.out; have := HT2.out; omega) (by omega) (keyT_size _)
      rw [HY0.out] at hc
      refine hc.mono ?_
      rintro e w7 ⟨rfl, bs7, _, _, hw7⟩
      have HW7 := Lib.hid hw7
      clear hw7 hc
      go_wp2_with fail
      refine (known8_any _ HW7.out.steps).mono ?_
      rintro e w8 ⟨rfl, g8⟩
      have HB := Lib.hid (HW7.out.later g8).b
      clear g8
      go_wp2_with fail
      go_ret
      exact ⟨rfl, HB.out⟩
namespace WindowTurns
set_option linter.unusedSimpArgs false in
set_option maxRecDepth 100000 in
theorem lifted (os : Os) (started : os.Started) (H : Type) (enc : TypeId × Value → H) :
    ReturnsInHanded {} Tryd.checked os 5 .any (fun w args => (Rows.windowTurnsSpec.pre enc Tryd.prog Tryd.f5 [] false w args ∧ laidMetH Tryd.prog laidL w) ∧ sizedMet enc Tryd.prog Tryd.f5 (OpenSpec.ofChange Rows.windowTurnsSpec) false w args)
      (Rows.windowTurnsSpec.post enc Tryd.prog Tryd.f5 false true false false) := by
  refine returnsInHanded_of_change_and (C := Tryd.checked) (X := fun w _ => laidMetH Tryd.prog laidL w) (fun _ _ _ hh h => h.of_heap hh) own started (by kernel_rfl) Tryd.func5
    (ChangeSpec.witness_shaped (enc := enc) (C := Tryd.checked) (os := os) (X := fun w _ => laidMetH Tryd.prog laidL w) false (World.doorLaid Tryd.prog 400 os) #[.int .u64 0, .int .u8 0, .slice none 0 0, .int .u8 0, .int .u8 0] 8 rfl (World.shaped_of_RefB (by kernel_rfl) (by kernel_rfl)) (by kernel_rfl) (by kernel_rfl) (by kernel_rfl) (door_met os _)) ?_
  intro W base args ds gs before hval0 hW _ _ hL _
  have hS := of_laid hL
  have hval : ∀ (j : Nat) t v, Tryd.f5.params[j]? = some t → args[j]? = some v → Value.okWide Tryd.prog W .any base t v := hval0
  have hW' := hW
  obtain ⟨p, q, hA0, hV, rfl, _, _⟩ := hW
  have hA : DataW.TrodAll enc Tryd.prog W 0 (fun _ => true) true Tryd.f5.params.toList args.toList ds p := hA0
  rw [Tryd.params5] at hA hval
  obtain ⟨v0, vs0, d0, ds0, p0, q0, hargs, rfl, rfl, h0, r0⟩ := trodAll_cons hA
  obtain ⟨v1, vs1, d1, ds1, p1, q1, rfl, rfl, rfl, h1, r1⟩ := trodAll_cons r0
  obtain ⟨v2, vs2, d2, ds2, p2, q2, rfl, rfl, rfl, h2, r2⟩ := trodAll_cons r1
  obtain ⟨v3, vs3, d3, ds3, p3, q3, rfl, rfl, rfl, h3, r3⟩ := trodAll_cons r2
  obtain ⟨v4, vs4, d4, ds4, p4, q4, rfl, rfl, rfl, h4, r4⟩ := trodAll_cons r3
  obtain ⟨rfl, rfl, rfl⟩ := trodAll_nil r4
  obtain rfl : args = #[v0, v1, v2, v3, v4] := by cases args; simp_all
  obtain ⟨rfl, rfl⟩ := trodVars_none hV
  obtain ⟨a0, rfl, rfl, rfl, w0⟩ := open_int Tryd.underlying22 (hval 0 22 v0 rfl rfl) h0
  have k0 := wf_u64 w0
  obtain ⟨n0, rfl⟩ : ∃ n : Nat, a0 = n := ⟨a0.toNat, by omega⟩
  obtain ⟨a1, rfl, rfl, rfl, w1⟩ := open_int Tryd.underlying5 (hval 1 5 v1 rfl rfl) h1
  have k1 := wf_u8 w1
  obtain ⟨n1, rfl⟩ : ∃ u : UInt8, a1 = (u.toNat : Int) := ⟨UInt8.ofNat a1.toNat, by simp; omega⟩
  obtain ⟨A2, cs2, cap2, rfl, l2, m2, b2, again2⟩ := arg_bytes (hval 2 23 v2 rfl rfl) h2
  have x2 := arg_extra h2
  obtain ⟨a3, rfl, rfl, rfl, w3⟩ := open_int Tryd.underlying5 (hval 3 5 v3 rfl rfl) h3
  have k3 := wf_u8 w3
  obtain ⟨n3, rfl⟩ : ∃ u : UInt8, a3 = (u.toNat : Int) := ⟨UInt8.ofNat a3.toNat, by simp; omega⟩
  obtain ⟨a4, rfl, rfl, rfl, w4⟩ := open_int Tryd.underlying5 (hval 4 5 v4 rfl rfl) h4
  have k4 := wf_u8 w4
  obtain ⟨n4, rfl⟩ : ∃ u : UInt8, a4 = (u.toNat : Int) := ⟨UInt8.ofNat a4.toNat, by simp; omega⟩
  clear hA0 hval0
  simp only [List.append_nil] at hW'
  refine (windowTurns_walk n0 n1.toNat A2 cs2 cap2 n3.toNat n4.toNat (by omega) (by have := n1.toNat_lt; omega) (by have := n3.toNat_lt; omega) (by have := n4.toNat_lt; omega) l2 W b2 hS).mono fun e W' ⟨he, hg⟩ => ?_
  subst he
  exact ⟨_, rfl, true_last hW' rfl (by kernel_rfl) Tryd.underlying4 rfl rfl rfl (of_decide_eq_true (by kernel_rfl)) hg⟩

/-- The row. -/
theorem said : Rows.WindowTurnsSaid :=
  OpenClaim.holds_of_wide 5 Tryd.f5 rfl rfl rfl rfl rfl rfl rfl ⟨rfl, rfl, rfl, rfl, rfl⟩ rfl rfl rfl rfl rfl (by kernel_rfl) Tryd.func5 (by kernel_rfl)
    (of_decide_eq_true (by kernel_rfl)) (by unfold Func.isWrapper; first | (rw [if_pos (by decide +kernel)]; kernel_rfl) | (rw [if_neg (by decide +kernel)]; exact ⟨rfl, rfl⟩))
    (fun os started H enc _ => lifted os started H enc)
/-- **WindowTurns, at every input: the card, its listed variables tied to the program's text.** -/
theorem proved : Rows.WindowTurnsCardSaid :=
  Claim7.holds_tied_plain_at .later [] [.wider] true Rows.windowTurnsCard.stood.harness false
    said (fun _ h => by cases h) (by kernel_rfl) (fun _ h => by cases h) windowTurns_row_tie rfl ⟨rfl, rfl⟩ (by kernel_rfl) rfl
    (fun f fn hf hfn => by
      obtain rfl : f = 5 := Option.some.inj ((show Tryd.prog.funcNamed "telemeter/telemeterlaw08.WindowTurns" = some 5 by kernel_rfl).symm.trans hf) |>.symm
      obtain rfl : fn = Tryd.f5 := (Option.some.inj (Tryd.func5.symm.trans hfn)).symm
      exact ⟨by kernel_rfl, fun j t ht => by
        rw [Tryd.params5] at ht
        have hm : t ∈ [22, 5, 23, 5, 5] := by simpa using Array.mem_of_getElem? ht
        have hall : ([22, 5, 23, 5, 5].all fun u => !Tryd.prog.wantsStandIn u) = true := by kernel_rfl
        exact (show Tryd.prog.wantsStandIn t = false by simpa using List.all_eq_true.1 hall t hm)⟩)
    (by kernel_rfl)
end WindowTurns

end Go.Proofs.YtgaoggniaajflaaDoor
