/-
  Proved: RateSteady returns true for every seed, number of calls, target and number of whiles: a key alone, asked as often in each while, has in all but the first the same threshold. No condition but the card's own: hash's table of steps, tied to the program's text, holds at the start what that text lays.
-/
import Derived.Test.YtkhbodlffhfmnaaDoorRtKnown
namespace Go.Proofs.YtkhbodlffhfmnaaDoor
open Go.ChangeShapes Go.WideShapes Go.ChangeAt Go.RowKit Go.Proofs.HashMath Go.Proofs.SkMath Go.Proofs.ProbMath Go.Proofs.RtMath

def keyX : ByteArray := ⟨#[120]⟩
/-- What was counted in the while ahead of number k. -/
def ahead (many k : Nat) : Nat := if k = 0 then 0 else many
/-- In the k-th while i calls have come. -/
def Std (n0 : Nat) (w wr : World) (RT V seed many T k i : Nat) : Prop :=
  ∃ bs now f g, Rt n0 w wr bs RT V 2 16 seed many now T f g ∧ now ≤ many * k + i ∧ (1 ≤ i → now / many = k) ∧ (∀ j, j < 2 → tF many now (many * k) f j (placeOf (sd seed k) keyX.data.toList 16 j) = i) ∧ told (sdL seed k) keyX 16 2 (tG many now (many * k) f g) = ahead many k
theorem Std.later {n0 : Nat} {w wr w' : World} {RT V seed many T k i : Nat} (h : Std n0 w wr RT V seed many T k i) (hb : Below wr.heap.size wr w') : Std n0 w w' RT V seed many T k i := by
  obtain ⟨bs, now, f, g, h1, h2⟩ := h
  exact ⟨bs, now, f, g, h1.later hb, h2⟩
theorem Std.first {n0 : Nat} {w wr : World} {bs : List Nat} {RT V seed many T : Nat} (h : Rt n0 w wr bs RT V 2 16 seed many 0 T Z Z) : Std n0 w wr RT V seed many T 0 0 :=
  ⟨bs, 0, Z, Z, h, by omega, by omega, fun _ _ => by rw [tF_Z]; rfl, by rw [tG_Z]; exact told_Z (by omega)⟩
theorem at_while {n q j : Nat} (h : j < n) : (n * q + j) / n = q := by
  rw [Nat.mul_add_div (by omega), Nat.div_eq_of_lt h, Nat.add_zero]
theorem Std.next {n0 : Nat} {w wr : World} {RT V seed many T k : Nat} (h : Std n0 w wr RT V seed many T k many) (hm : 1 ≤ many) (hml : many < 18446744073709551616) : Std n0 w wr RT V seed many T (k + 1) 0 := by
  obtain ⟨bs, now, f, g, h1, h2, h3, h4, h5⟩ := h
  have hq := h3 hm
  have e0 : many * k / many = k := Nat.mul_div_cancel_left _ (by omega)
  have e1 : many * (k + 1) / many = k + 1 := Nat.mul_div_cancel_left _ (by omega)
  have eF : tF many now (many * k) f = f := if_pos (by rw [e0, hq])
  have eZ : tF many now (many * (k + 1)) f = Z := by unfold tF; rw [e1, hq, if_neg (by omega)]
  have eG : tG many now (many * (k + 1)) f g = f := by unfold tG; rw [e1, hq, if_neg (by omega), if_pos rfl]
  rw [eF] at h4
  refine ⟨bs, now, f, g, h1, by rw [Nat.mul_succ]; omega, by omega, fun j _ => by rw [eZ]; rfl, ?_⟩
  rw [eG, sdL_succ]
  unfold ahead
  rw [if_neg (by omega)]
  exact least_alone (by omega) hml h4
theorem Std.ask {n0 : Nat} {w wr : World} {RT V seed many T k i : Nat} (h : Std n0 w wr RT V seed many T k i) (t : Nat) (ht : t = many * k + i) (hi : i < many) (hml : many < 18446744073709551616) (h2 : t ≤ 1099511627776) :
    Calls Tryd.prog 18 #[.pointer (some ⟨RT, 0, none⟩), .int .i64 (t : Int), .string keyX] wr fun e w' => e = .returned (.tuple #[.int .u64 (byN T (ahead many k) : Int), .int .u16 0]) ∧ Std n0 w w' RT V seed many T k (i + 1) := by
  obtain ⟨bs, now, f, g, h1, hn, hq, h4, h5⟩ := h
  have e0 : many * k / many = k := Nat.mul_div_cancel_left _ (by omega)
  have et : t / many = k := by rw [ht]; exact at_while hi
  have eF : tF many now t f = tF many now (many * k) f := by unfold tF; rw [et, e0]
  have eG : tG many now t f g = tG many now (many * k) f g := by unfold tG; rw [et, e0]
  have ha := h1.ask t keyX (by omega) h2 (by decide)
  rw [et, eF, eG, h5] at ha
  refine ha.mono fun e w' ⟨he, bs', hx, hm, hr⟩ => ⟨he, bs', t, _, _, hr, by omega, fun _ => et, fun j hj => ?_, ?_⟩
  · have : ∀ f2, tF many t (many * k) f2 = f2 := fun f2 => if_pos (by rw [e0, et])
    rw [this]
    unfold addW
    rw [add_alone (x := i) (by omega) (by omega) h4 hj]
    exact plus_small (by omega)
  · have : ∀ f2 g2, tG many t (many * k) f2 g2 = g2 := fun f2 g2 => if_pos (by rw [e0, et])
    rw [this]
    exact h5

set_option maxRecDepth 100000 in
set_option maxHeartbeats 2000000 in
theorem rateSteady_walk (seed a tg wh : Nat) (hx : seed < 18446744073709551616) (ha : a ≤ 255) (htg : tg ≤ 255) (hwh : wh ≤ 255) (w : World) (hS : Steps w) :
    Calls Tryd.prog 7 #[.int .u64 (seed : Int), .int .u8 (a : Int), .int .u8 (tg : Int), .int .u8 (wh : Int)] w fun e w' => e = .returned (.bool true) ∧ Below w.heap.size w w' := by
  obtain ⟨n, hn, hn1, hn2⟩ : ∃ n : Nat, (1 : Int) + (a : Int) % 30 = (n : Int) ∧ 1 ≤ n ∧ n ≤ 30 := ⟨1 + a % 30, by omega, by omega, by omega⟩
  obtain ⟨u, hu, hul⟩ : ∃ u : Nat, (tg : Int) % 40 = (u : Int) ∧ u ≤ 39 := ⟨tg % 40, by omega, by omega⟩
  have huw : IntKind.u64.wrap (u : Int) = (u : Int) := by rw [IntKind.wrap_u64]; omega
  obtain ⟨T, hT, hT1, hT3⟩ : ∃ T : Nat, (1 : Int) + (u : Int) = (T : Int) ∧ 1 ≤ T ∧ T ≤ 40 := ⟨1 + u, by omega, by omega, by omega⟩
  have hTw : IntKind.u64.wrap (T : Int) = (T : Int) := by rw [IntKind.wrap_u64]; omega
  obtain ⟨K, hK, hK5⟩ : ∃ K : Nat, (2 : Int) + (wh : Int) % 4 = (K : Int) ∧ K ≤ 5 := ⟨2 + wh % 4, by omega, by omega⟩
  have hnw : IntKind.u64.wrap (n : Int) = (n : Int) := by rw [IntKind.wrap_u64]; omega
  have hlt := hS.lt
  obtain ⟨n0, hn0⟩ : ∃ n0, w.heap.size = n0 := ⟨_, rfl⟩
  rw [hn0] at hlt ⊢
  have HNEW := Lib.hid (rt_new (w := w) (W := w) 2 16 seed n T hS hlt (by omega) (Below.refl _ _) (by omega) (by omega) (by omega) (by omega) hx hn1 (by omega) hT1)
  have HBY := Lib.hid (fun W => rateBy_any T n W (by omega))
  obtain ⟨y, hy⟩ : ∃ y, byN T n = y := ⟨_, rfl⟩
  have hyy : ((y : Int) != (y : Int)) = false := by simp
  rw [hy] at HBY
  have HY := Lib.hid hy
  clear hn0 hS hy
  go_enter Tryd.func7, Tryd.ntmps7
  go_wp2_with fail
  refine HNEW.out.mono ?_
  rintro e w1 ⟨bs, V, RT, rfl, _, _, hw⟩
  have HW := Lib.hid hw
  clear hw
  go_wp2_with fail
  go_loopw [11] (fun kv wr => ∃ k : Nat, k ≤ K ∧ kv = .int .i64 (k : Int) ∧ Hid (Std n0 w wr RT V seed n T k 0)) (fun kv _ => K - (intOf kv).toNat)
  case atStart => exact ⟨0, by omega, rfl, Lib.hid (Std.first HW.out)⟩
  case round =>
    obtain ⟨k, hk, rfl, HF⟩ := hrel
    by_cases hlt : k < K
    · have dl : decide ((k : Int) < (K : Int)) = true := by simp; omega
      obtain ⟨p, hp, hp', hpl⟩ : ∃ p : Nat, (k : Int) * (n : Int) = (p : Int) ∧ p = n * k ∧ p ≤ 150 := ⟨n * k, by simp [Int.mul_comm], rfl, by have := Nat.mul_le_mul hn2 (show k ≤ 5 by omega); omega⟩
      have HP := Lib.hid hp'
      clear hp'
      go_wp2_with fail
      go_loopw [12] (fun iv wr => ∃ i : Nat, i ≤ n ∧ iv = .int .i64 (i : Int) ∧ Hid (Std n0 w wr RT V seed n T k i)) (fun iv _ => n - (intOf iv).toNat)
      case atStart => exact ⟨0, by omega, rfl, HF⟩
      case round =>
        obtain ⟨i, hi, rfl, HG⟩ := hrel
        by_cases hin : i < n
        · have di : decide ((i : Int) < (n : Int)) = true := by simp; omega
          obtain ⟨t, ht, ht'⟩ : ∃ t : Nat, (p : Int) + (i : Int) = (t : Int) ∧ t = p + i := ⟨p + i, by omega, rfl⟩
          have htl : t ≤ 200 := by omega
          have hA := HG.out.ask t (by rw [ht', HP.out]) hin (by omega) (by omega)
          unfold keyX at hA
          have HA := Lib.hid hA
          clear hA ht'
          by_cases hk0 : k = 0
          · have d0 : decide ((0 : Int) < (k : Int)) = false := by simp; omega
            have d0' : decide (0 < k) = false := by simp; omega
            have e0 : byN T (ahead n k) = 0 := by unfold ahead; rw [if_pos hk0]; exact byN_0 (Nat.zero_le _)
            rw [e0] at HA
            clear e0 hk0
            go_wp2_with fail
            refine HA.out.mono ?_
            rintro e w5 ⟨rfl, hs⟩
            have HS5 := Lib.hid hs
            clear hs
            go_wp2_with fail
            go_roundw
            case measure => simp [intOf]; omega
            case rel => exact ⟨i + 1, by omega, by go_num, HS5⟩
          · have d0 : decide ((0 : Int) < (k : Int)) = true := by simp; omega
            have d0' : decide (0 < k) = true := by simp; omega
            have e0 : byN T (ahead n k) = y := by unfold ahead; rw [if_neg hk0]; exact HY.out
            rw [e0] at HA
            clear e0 hk0
            go_wp2_with fail
            refine HA.out.mono ?_
            rintro e w5 ⟨rfl, hs⟩
            have HS5 := Lib.hid hs
            clear hs
            go_wp2_with fail
            refine (HBY.out _).mono ?_
            rintro e w6 ⟨rfl, hb⟩
            have HS6 := Lib.hid (HS5.out.later hb)
            clear hb
            go_wp2_with fail
            go_roundw
            case measure => simp [intOf]; omega
            case rel => exact ⟨i + 1, by omega, by go_num, HS6⟩
        · have di : decide ((i : Int) < (n : Int)) = false := by simp; omega
          obtain rfl : i = n := by omega
          have HN := Lib.hid (HG.out.next hn1 (by omega))
          clear hin
          go_wp2_with fail
          go_roundw
          case measure => simp [intOf]; omega
          case rel => exact ⟨k + 1, by omega, by go_num, HN⟩
    · have dl : decide ((k : Int) < (K : Int)) = false := by simp; omega
      obtain ⟨bs2, now, f, g, hr, _⟩ := HF.out
      have HR := Lib.hid hr
      clear hr
      go_wp2_with fail
      refine (known9_any _ HR.out.1.steps).mono ?_
      rintro e w6 ⟨rfl, g6⟩
      have HB := Lib.hid (HR.out.later g6).1.b
      clear g6
      go_wp2_with fail
      go_ret
      exact ⟨rfl, HB.out⟩
namespace RateSteady
set_option linter.unusedSimpArgs false in
set_option maxRecDepth 100000 in
theorem lifted (os : Os) (started : os.Started) (H : Type) (enc : TypeId × Value → H) :
    ReturnsInHanded {} Tryd.checked os 7 .any (fun w args => (Rows.rateSteadySpec.pre enc Tryd.prog Tryd.f7 [] false w args ∧ laidMetH Tryd.prog laidL w) ∧ sizedMet enc Tryd.prog Tryd.f7 (OpenSpec.ofChange Rows.rateSteadySpec) false w args)
      (Rows.rateSteadySpec.post enc Tryd.prog Tryd.f7 false true false false) := by
  refine returnsInHanded_of_change_and (C := Tryd.checked) (X := fun w _ => laidMetH Tryd.prog laidL w) (fun _ _ _ hh h => h.of_heap hh) own started (by kernel_rfl) Tryd.func7
    (ChangeSpec.witness_shaped (enc := enc) (C := Tryd.checked) (os := os) (X := fun w _ => laidMetH Tryd.prog laidL w) false (World.doorLaid Tryd.prog 400 os) #[.int .u64 0, .int .u8 0, .int .u8 0, .int .u8 0] 8 rfl (World.shaped_of_RefB (by kernel_rfl) (by kernel_rfl)) (by kernel_rfl) (by kernel_rfl) (by kernel_rfl) (door_met os _)) ?_
  intro W base args ds gs before hval0 hW _ _ hL _
  have hS := of_laid hL
  have hval : ∀ (j : Nat) t v, Tryd.f7.params[j]? = some t → args[j]? = some v → Value.okWide Tryd.prog W .any base t v := hval0
  have hW' := hW
  obtain ⟨p, q, hA0, hV, rfl, _, _⟩ := hW
  have hA : DataW.TrodAll enc Tryd.prog W 0 (fun _ => true) true Tryd.f7.params.toList args.toList ds p := hA0
  rw [Tryd.params7] at hA hval
  obtain ⟨v0, vs0, d0, ds0, p0, q0, hargs, rfl, rfl, h0, r0⟩ := trodAll_cons hA
  obtain ⟨v1, vs1, d1, ds1, p1, q1, rfl, rfl, rfl, h1, r1⟩ := trodAll_cons r0
  obtain ⟨v2, vs2, d2, ds2, p2, q2, rfl, rfl, rfl, h2, r2⟩ := trodAll_cons r1
  obtain ⟨v3, vs3, d3, ds3, p3, q3, rfl, rfl, rfl, h3, r3⟩ := trodAll_cons r2
  obtain ⟨rfl, rfl, rfl⟩ := trodAll_nil r3
  obtain rfl : args = #[v0, v1, v2, v3] := by cases args; simp_all
  obtain ⟨rfl, rfl⟩ := trodVars_none hV
  obtain ⟨a0, rfl, rfl, rfl, w0⟩ := open_int Tryd.underlying22 (hval 0 22 v0 rfl rfl) h0
  have k0 := wf_u64 w0
  obtain ⟨n0, rfl⟩ : ∃ n : Nat, a0 = n := ⟨a0.toNat, by omega⟩
  obtain ⟨a1, rfl, rfl, rfl, w1⟩ := open_int Tryd.underlying5 (hval 1 5 v1 rfl rfl) h1
  have k1 := wf_u8 w1
  obtain ⟨n1, rfl⟩ : ∃ u : UInt8, a1 = (u.toNat : Int) := ⟨UInt8.ofNat a1.toNat, by simp; omega⟩
  obtain ⟨a2, rfl, rfl, rfl, w2⟩ := open_int Tryd.underlying5 (hval 2 5 v2 rfl rfl) h2
  have k2 := wf_u8 w2
  obtain ⟨n2, rfl⟩ : ∃ u : UInt8, a2 = (u.toNat : Int) := ⟨UInt8.ofNat a2.toNat, by simp; omega⟩
  obtain ⟨a3, rfl, rfl, rfl, w3⟩ := open_int Tryd.underlying5 (hval 3 5 v3 rfl rfl) h3
  have k3 := wf_u8 w3
  obtain ⟨n3, rfl⟩ : ∃ u : UInt8, a3 = (u.toNat : Int) := ⟨UInt8.ofNat a3.toNat, by simp; omega⟩
  clear hA0 hval0
  simp only [List.append_nil] at hW'
  refine (rateSteady_walk n0 n1.toNat n2.toNat n3.toNat (by omega) (by have := n1.toNat_lt; omega) (by have := n2.toNat_lt; omega) (by have := n3.toNat_lt; omega) W hS).mono fun e W' ⟨he, hg⟩ => ?_
  subst he
  exact ⟨_, rfl, true_last hW' rfl (by kernel_rfl) Tryd.underlying4 rfl rfl rfl (of_decide_eq_true (by kernel_rfl)) hg⟩

/-- The row. -/
theorem said : Rows.RateSteadySaid :=
  OpenClaim.holds_of_wide 7 Tryd.f7 rfl rfl rfl rfl rfl rfl rfl ⟨rfl, rfl, rfl, rfl, rfl⟩ rfl rfl rfl rfl rfl (by kernel_rfl) Tryd.func7 (by kernel_rfl)
    (of_decide_eq_true (by kernel_rfl)) (by unfold Func.isWrapper; first | (rw [if_pos (by decide +kernel)]; kernel_rfl) | (rw [if_neg (by decide +kernel)]; exact ⟨rfl, rfl⟩))
    (fun os started H enc _ => lifted os started H enc)
/-- **RateSteady, at every input: the card, its listed variables tied to the program's text.** -/
theorem proved : Rows.RateSteadyCardSaid :=
  Claim7.holds_tied_plain_at .later [] [.wider] true Rows.rateSteadyCard.stood.harness false
    said (fun _ h => by cases h) (by kernel_rfl) (fun _ h => by cases h) rateSteady_row_tie rfl ⟨rfl, rfl⟩ (by kernel_rfl) rfl
    (fun f fn hf hfn => by
      obtain rfl : f = 7 := Option.some.inj ((show Tryd.prog.funcNamed "telemeter/telemeterlaw09.RateSteady" = some 7 by kernel_rfl).symm.trans hf) |>.symm
      obtain rfl : fn = Tryd.f7 := (Option.some.inj (Tryd.func7.symm.trans hfn)).symm
      exact ⟨by kernel_rfl, fun j t ht => by
        rw [Tryd.params7] at ht
        have hm : t ∈ [22, 5, 5, 5] := by simpa using Array.mem_of_getElem? ht
        have hall : ([22, 5, 5, 5].all fun u => !Tryd.prog.wantsStandIn u) = true := by kernel_rfl
        exact (show Tryd.prog.wantsStandIn t = false by simpa using List.all_eq_true.1 hall t hm)⟩)
    (by kernel_rfl)
end RateSteady

end Go.Proofs.YtkhbodlffhfmnaaDoor
