/-
  Proved: PolicyMore returns true for every two choices of a rule, all choices of spans and of more of them, and every number: with more spans each rule that held still does. No condition but the card's own: policy's table of bounds, tied to the program's text, holds at the start what that text says.
-/
import Derived.Test.YtmjbdjcpjaeemaaDoorPoApp
namespace Go.Proofs.YtmjbdjcpjaeemaaDoor
open Go.ChangeShapes Go.WideShapes Go.ChangeAt Go.RowKit

theorem apart_by {v u : Value} {n : Nat} (h1 : ∀ g, v.ownBlock = some g → g < n) (h2 : ∀ g, u.ownBlock = some g → n ≤ g) : v.ownBlock = none ∨ v.ownBlock ≠ u.ownBlock := by
  cases hv : v.ownBlock with
  | none => exact .inl rfl
  | some g =>
    refine .inr fun e => ?_
    have := h1 g hv
    have := h2 g e.symm
    omega
set_option linter.unusedSimpArgs false in
set_option linter.unusedVariables false in
set_option maxRecDepth 100000 in
set_option maxHeartbeats 4000000 in
theorem policyMore_walk (ca cb : UInt8) (A2 : Option Addr) (m : List (List UInt8)) (cap2 : Nat) (A3 : Option Addr) (k : List (List UInt8)) (cap3 : Nat) (num : Nat) (w : World) (hM : Most w) (h2 : HoldsRows w.heap.size w A2 m) (h3 : HoldsRows w.heap.size w A3 k) (hm : m.length ≤ 9223372036854775807) (hk : k.length ≤ 9223372036854775807) :
    Calls Tryd.prog 7 #[.int .u8 (ca.toNat : Int), .int .u8 (cb.toNat : Int), .slice A2 m.length cap2, .slice A3 k.length cap3, .int .u64 (num : Int)] w fun e w' => e = .returned (.bool true) ∧ Below w.heap.size w w' := by
  have hca := ca.toNat_lt
  have hcb := cb.toNat_lt
  obtain ⟨a, ha⟩ : ∃ x, ca.toNat = x := ⟨_, rfl⟩
  obtain ⟨b, hb⟩ : ∃ x, cb.toNat = x := ⟨_, rfl⟩
  rw [ha] at hca ⊢
  rw [hb] at hcb ⊢
  obtain ⟨lm, hlm⟩ : ∃ x, m.length = x := ⟨_, rfl⟩
  obtain ⟨lk, hlk⟩ : ∃ x, k.length = x := ⟨_, rfl⟩
  obtain ⟨n0, hn0⟩ : ∃ n0, w.heap.size = n0 := ⟨_, rfl⟩
  have HK := Lib.hid fun W (h : Below w.heap.size w W) => known_any W (hM.later h)
  obtain ⟨s, hs⟩ : ∃ s, wrap64 ((lm : Int) + (lk : Int)) = s := ⟨_, rfl⟩
  obtain ⟨q, hq⟩ : ∃ q, decide ((14 : Int) < s) = q := ⟨_, rfl⟩
  rw [hlm, hlk]
  cases q with
  | true =>
    clear hM h2 h3
    go_enter Tryd.func7, Tryd.ntmps7
    go_wp2_with fail
    refine (HK.out _ (Below.refl _ _)).mono ?_
    rintro e w1 ⟨rfl, hb1⟩
    go_wp2_with fail
    go_ret
    exact ⟨rfl, hb1⟩
  | false =>
    have HRU := Lib.hid fun W => rule_made a b hca hcb W
    have HS2 : Hid (∀ W, Below w.heap.size w W → Calls Tryd.prog 11 #[.slice A2 lm cap2] W fun e w' => ∃ A n cap zs, e = .returned (.slice A n cap) ∧ n ≤ 8 ∧ Hid (zs.length = n ∧ zs.map (fun z => z.1) = spansOf m ∧ SoW w' W.heap.size (.slice A n cap) zs ∧ Below W.heap.size W w')) := Lib.hid fun W hW => spans_any A2 m lm cap2 W hlm (by omega) (h2.later hW)
    have HS3 : Hid (∀ W, Below w.heap.size w W → Calls Tryd.prog 11 #[.slice A3 lk cap3] W fun e w' => ∃ A n cap zs, e = .returned (.slice A n cap) ∧ n ≤ 8 ∧ Hid (zs.length = n ∧ zs.map (fun z => z.1) = spansOf k ∧ SoW w' W.heap.size (.slice A n cap) zs ∧ Below W.heap.size W w')) := Lib.hid fun W hW => spans_any A3 k lk cap3 W hlk (by omega) (h3.later hW)
    have HIN := Lib.hid (ruleOf_in a b hcb)
    obtain ⟨⟨x0, x1, x2, x3⟩, hr⟩ : ∃ r, ruleOf a b = r := ⟨_, rfl⟩
    rw [hr] at HRU HIN
    unfold ruCells at HRU
    dsimp only at HRU
    clear hM h2 h3 hr
    go_enter Tryd.func7, Tryd.ntmps7
    go_wp2_with fail
    refine (HK.out _ (Below.refl _ _)).mono ?_
    rintro e w1 ⟨rfl, hb1⟩
    go_wp2_with fail
    refine (HRU.out _).mono ?_
    rintro e w2 ⟨rfl, hb2⟩
    obtain ⟨n2, hn2⟩ : ∃ x, w2.heap.size = x := ⟨_, rfl⟩
    have hb02 : Below w.heap.size w w2 := hb1.trans (hb2.mono hb1.size)
    have hbx := hb02.alloc hb02.size (.cells #[.int .u8 (x0 : Int), .int .i64 x1, .string x2, .string x3] 39)
    have hkx : Blk (w2.alloc (.cells #[.int .u8 (x0 : Int), .int .i64 x1, .string x2, .string x3] 39)) n2 #[.int .u8 (x0 : Int), .int .i64 x1, .string x2, .string x3] 39 := hn2 ▸ blk_new w2 _ _
    have HBX := Lib.hid hbx
    have HKX := Lib.hid hkx
    clear hb1 hb2 hb02 hbx hkx
    go_wp2_with fail
    refine (HS2.out _ HBX.out).mono ?_
    rintro e w3 ⟨Ax, nx, cx, zx, rfl, hnx, HX⟩
    obtain ⟨n3, hn3⟩ : ∃ x, w3.heap.size = x := ⟨_, rfl⟩
    have hbl : w.heap.size ≤ (w2.alloc (.cells #[.int .u8 (x0 : Int), .int .i64 x1, .string x2, .string x3] 39)).heap.size := HBX.out.size
    have HB3 : Hid (Below w.heap.size w w3) := Lib.hid (HBX.out.trans (HX.out.2.2.2.mono hbl))
    have HK3 : Hid (Blk w3 n2 #[.int .u8 (x0 : Int), .int .i64 x1, .string x2, .string x3] 39) := Lib.hid (HKX.out.later HX.out.2.2.2)
    have HX3 : Hid (SoW w3 w.heap.size (.slice Ax nx cx) zx) := Lib.hid ⟨own_lower' HX.out.2.2.1.out hbl, fun z hz => own_lower' (HX.out.2.2.1.at_ z hz) hbl⟩
    have HZX : Hid (zx.length = nx ∧ zx.map (fun z => z.1) = spansOf m) := Lib.hid ⟨HX.out.1, HX.out.2.1⟩
    have HY0 : Hid (SoW w3 w.heap.size (.slice none 0 0) []) := Lib.hid (SoW.nil _ _)
    clear HX hbl HBX HKX
    have hn23 : n2 < n3 := by have := HK3.out.lt; omega
    have hax : ∀ g, (Value.slice Ax nx cx).ownBlock = some g → g < n3 := fun g hg => by have := (HX3.out.out.lt g hg).2; omega
    have HAX := Lib.hid hax
    clear hax
    go_wp2_with (at_builtin; refine app_spans rfl (.tmp 30) (.tmp 31) rfl w.heap.size none Ax 0 0 nx cx nx (Nat.zero_add _) [] zx rfl rfl HY0.out rfl HZX.out.1 HX3.out (by omega) (by have := HB3.out.size; omega) ?_; intro Ay cy w4 hso4 hgr4 hwh4; have hb4 := grown_below' HB3.out HB3.out.size HY0.out.out hgr4 (Nat.le_refl _); have hgb : Below w3.heap.size w3 w4 := ⟨hgr4.os, hgr4.tape, hgr4.output, hgr4.size, fun j hj => hgr4.block j hj (by simp [Value.ownBlock])⟩; have HB4 := Lib.hid hb4; have HY4 := Lib.hid hso4; have HX4 := Lib.hid (HX3.out.later hgb); have HK4 := Lib.hid (HK3.out.later hgb); have HAY : Hid (∀ g, (Value.slice Ay nx cy).ownBlock = some g → n3 ≤ g) := Lib.hid (fun g hg => by rcases hwh4 g hg with h | h; (simp [Value.ownBlock] at h); (rw [hn3] at h; exact h)); clear hso4 hgr4 hb4 hgb hwh4)
    clear HX3 HK3 HB3 HY0 hn3
    refine (HS3.out _ HB4.out).mono ?_
    rintro e w5 ⟨Az, nz, cz, zz, rfl, hnz, HZ⟩
    have hbl : w.heap.size ≤ w4.heap.size := HB4.out.size
    have HB5 : Hid (Below w.heap.size w w5) := Lib.hid (HB4.out.trans (HZ.out.2.2.2.mono hbl))
    have HK5 : Hid (Blk w5 n2 #[.int .u8 (x0 : Int), .int .i64 x1, .string x2, .string x3] 39) := Lib.hid (HK4.out.later HZ.out.2.2.2)
    have HX5 : Hid (SoW w5 w.heap.size (.slice Ax nx cx) zx) := Lib.hid (HX4.out.later HZ.out.2.2.2)
    have HY5 : Hid (SoW w5 w.heap.size (.slice Ay nx cy) ([] ++ zx)) := Lib.hid (HY4.out.later HZ.out.2.2.2)
    have HZ5 : Hid (SoW w5 w.heap.size (.slice Az nz cz) zz) := Lib.hid ⟨own_lower' HZ.out.2.2.1.out hbl, fun z hz => own_lower' (HZ.out.2.2.1.at_ z hz) hbl⟩
    have HZZ : Hid (zz.length = nz ∧ zz.map (fun z => z.1) = spansOf k) := Lib.hid ⟨HZ.out.1, HZ.out.2.1⟩
    obtain ⟨ny, hny⟩ : ∃ ny, nx + nz = ny := ⟨_, rfl⟩
    have hny16 : ny ≤ 16 := by omega
    have HNY := Lib.hid hny
    clear HZ hbl HX4 HY4 HK4 HB4 hny
    go_wp2_with (at_builtin; refine app_spans rfl (.tmp 33) (.tmp 35) rfl w.heap.size Ay Az nx cy nz cz ny HNY.out ([] ++ zx) zz rfl HZX.out.1 HY5.out rfl HZZ.out.1 HZ5.out (by omega) HB5.out.size ?_; intro Av cv w6 hso6 hgr6 hwh6; have hne : (Value.slice Ax nx cx).ownBlock = none ∨ (Value.slice Ax nx cx).ownBlock ≠ (Value.slice Ay nx cy).ownBlock := apart_by HAX.out HAY.out; have HX6 := Lib.hid (HX5.out.kept HY5.out hgr6 hne); have HV6 := Lib.hid hso6; have HB6 := Lib.hid (grown_below' HB5.out HB5.out.size HY5.out.out hgr6 (Nat.le_refl _)); have HK6 := Lib.hid (HK5.out.same (hgr6.block n2 HK5.out.lt (fun e => by have := HAY.out n2 e.symm; omega))); have k0 := HK6.out.cell 0 rfl; have k1 := HK6.out.cell 1 rfl; have k2 := HK6.out.cell 2 rfl; have k3 := HK6.out.cell 3 rfl; clear hso6 hgr6 hwh6 hne)
    have hxs := HZX.out
    have hvl : (([] : List Sz) ++ zx ++ zz).length = ny := by simp [HZX.out.1, HZZ.out.1, HNY.out]
    have hvm : (([] : List Sz) ++ zx ++ zz).map (fun z => z.1) = spansOf m ++ spansOf k := by simp [HZX.out.2, HZZ.out.2]
    have hXh := HX6.out.holds HZX.out.1
    have hVh := HV6.out.holds hvl
    rw [HZX.out.2] at hXh
    rw [hvm] at hVh
    have hxc := HX6.out.caps HZX.out.1
    have hvc := HV6.out.caps hvl
    have hxn : (spansOf m).length = nx := by rw [← HZX.out.2, List.length_map, HZX.out.1]
    have hvn : (spansOf m ++ spansOf k).length = ny := by rw [← hvm, List.length_map, hvl]
    have hfx : Fits nx cx (spansOf m) := fits_few hxn hxc.1 hxc.2 (few_of m)
    have hfv : Fits ny cv (spansOf m ++ spansOf k) := fits_few hvn hvc.1 hvc.2 (fun s hs => by
      rcases List.mem_append.1 hs with h | h
      · exact few_of m s h
      · exact few_of k s h)
    obtain ⟨h1, hh1⟩ : ∃ h1, holdsM ⟨x0, x1, x2, x3⟩ (spansOf m) num = h1 := ⟨_, rfl⟩
    obtain ⟨h2, hh2⟩ : ∃ h2, holdsM ⟨x0, x1, x2, x3⟩ (spansOf m ++ spansOf k) num = h2 := ⟨_, rfl⟩
    obtain ⟨v1, hv1⟩ : ∃ v, lenM (spansOf m) = v := ⟨_, rfl⟩
    obtain ⟨v2, hv2⟩ : ∃ v, lenM (spansOf m ++ spansOf k) = v := ⟨_, rfl⟩
    have himp : h1 = true → h2 = true := fun h => by rw [← hh2]; exact holds_more _ (near_of m) (near_of k) num (by rw [hh1]; exact h)
    have hvv : decide (v1 ≤ v2) = true := by
      have := len_more (near_of m) (near_of k)
      rw [hv1, hv2] at this
      exact decide_eq_true this
    have HH1 : Hid (∀ W, Below w6.heap.size w6 W → Calls Tryd.prog 14 #[.agg #[.int .u8 (x0 : Int), .int .i64 x1, .string x2, .string x3], .slice Ax nx cx, .int .u64 (num : Int)] W fun e w' => e = .returned (.bool h1) ∧ Below w6.heap.size w6 w') := Lib.hid fun W hW => by
      have := holds_any ⟨x0, x1, x2, x3⟩ Ax (spansOf m) nx cx num W hfx HIN.out.1 (hXh.later hW)
      rw [hh1] at this
      exact this.mono fun e w' ⟨he, hb⟩ => ⟨he, hW.trans (hb.mono hW.size)⟩
    have HH2 : Hid (∀ W, Below w6.heap.size w6 W → Calls Tryd.prog 14 #[.agg #[.int .u8 (x0 : Int), .int .i64 x1, .string x2, .string x3], .slice Av ny cv, .int .u64 (num : Int)] W fun e w' => e = .returned (.bool h2) ∧ Below w6.heap.size w6 w') := Lib.hid fun W hW => by
      have := holds_any ⟨x0, x1, x2, x3⟩ Av (spansOf m ++ spansOf k) ny cv num W hfv HIN.out.1 (hVh.later hW)
      rw [hh2] at this
      exact this.mono fun e w' ⟨he, hb⟩ => ⟨he, hW.trans (hb.mono hW.size)⟩
    have HL1 : Hid (∀ W, Below w6.heap.size w6 W → Calls Tryd.prog 19 #[.slice Ax nx cx] W fun e w' => e = .returned (.int .i64 v1) ∧ Below w6.heap.size w6 w') := Lib.hid fun W hW => by
      have := len_any Ax (spansOf m) nx cx W hxn hxc.1 hxc.2 (hXh.later hW)
      rw [hv1] at this
      exact this.mono fun e w' ⟨he, hb⟩ => ⟨he, hW.trans (hb.mono hW.size)⟩
    have HL2 : Hid (∀ W, Below w6.heap.size w6 W → Calls Tryd.prog 19 #[.slice Av ny cv] W fun e w' => e = .returned (.int .i64 v2) ∧ Below w6.heap.size w6 w') := Lib.hid fun W hW => by
      have := len_any Av (spansOf m ++ spansOf k) ny cv W hvn hvc.1 hvc.2 (hVh.later hW)
      rw [hv2] at this
      exact this.mono fun e w' ⟨he, hb⟩ => ⟨he, hW.trans (hb.mono hW.size)⟩
    have HKL : Hid (∀ W, Below w6.heap.size w6 W → Blk W n2 #[.int .u8 (x0 : Int), .int .i64 x1, .string x2, .string x3] 39) := Lib.hid fun W hW => HK6.out.later hW
    have HEND : Hid (∀ W, Below w6.heap.size w6 W → Below w.heap.size w W) := Lib.hid fun W hW => HB6.out.trans (hW.mono HB6.out.size)
    have HIMP := Lib.hid himp
    clear hxs hvl hvm hXh hVh hxc hvc hxn hvn hfx hfv hh1 hh2 hv1 hv2 himp HX6 HV6 HB6 HK6 HX5 HY5 HZ5 HK5 HB5 HZX HZZ HNY HAX HAY hn23
    go_wp2_with fail
    refine (HH1.out _ (Below.refl _ _)).mono ?_
    rintro e w7 ⟨rfl, hb7⟩
    clear k0 k1 k2 k3
    cases h1 with
    | false =>
      go_wp2_with fail
      refine (HL2.out _ hb7).mono ?_
      rintro e w8 ⟨rfl, hb8⟩
      clear hb7
      go_wp2_with fail
      refine (HL1.out _ hb8).mono ?_
      rintro e w9 ⟨rfl, hb9⟩
      clear hb8
      go_wp2_with fail
      go_ret
      exact ⟨rfl, HEND.out _ hb9⟩
    | true =>
      obtain rfl := HIMP.out rfl
      have k0 := (HKL.out _ hb7).cell 0 rfl
      have k1 := (HKL.out _ hb7).cell 1 rfl
      have k2 := (HKL.out _ hb7).cell 2 rfl
      have k3 := (HKL.out _ hb7).cell 3 rfl
      go_wp2_with fail
      refine (HH2.out _ hb7).mono ?_
      rintro e w10 ⟨rfl, hb10⟩
      clear hb7 k0 k1 k2 k3
      go_wp2_with fail
      refine (HL2.out _ hb10).mono ?_
      rintro e w8 ⟨rfl, hb8⟩
      clear hb10
      go_wp2_with fail
      refine (HL1.out _ hb8).mono ?_
      rintro e w9 ⟨rfl, hb9⟩
      clear hb8
      go_wp2_with fail
      go_ret
      exact ⟨rfl, HEND.out _ hb9⟩
namespace PolicyMore
set_option linter.unusedSimpArgs false in
set_option maxRecDepth 100000 in
theorem lifted (os : Os) (started : os.Started) (H : Type) (enc : TypeId × Value → H) :
    ReturnsInHanded {} Tryd.checked os 7 .any (fun w args => (Rows.policyMoreSpec.pre enc Tryd.prog Tryd.f7 [] false w args ∧ laidMetH Tryd.prog laidL w) ∧ sizedMet enc Tryd.prog Tryd.f7 (OpenSpec.ofChange Rows.policyMoreSpec) false w args)
      (Rows.policyMoreSpec.post enc Tryd.prog Tryd.f7 false true false false) := by
  refine returnsInHanded_of_change_and (C := Tryd.checked) (X := fun w _ => laidMetH Tryd.prog laidL w) (fun _ _ _ hh h => h.of_heap hh) own started (by kernel_rfl) Tryd.func7
    (ChangeSpec.witness_shaped (enc := enc) (C := Tryd.checked) (os := os) (X := fun w _ => laidMetH Tryd.prog laidL w) false (World.doorLaid Tryd.prog 400 os) #[.int .u8 0, .int .u8 0, .slice none 0 0, .slice none 0 0, .int .u64 0] 8 rfl (World.shaped_of_RefB (by kernel_rfl) (by kernel_rfl)) (by kernel_rfl) (by kernel_rfl) (by kernel_rfl) (door_met os _)) ?_
  intro W base args ds gs before hval0 hW _ _ hL _
  have hS := of_laid hL
  have hval : ∀ (j : Nat) t v, Tryd.f7.params[j]? = some t → args[j]? = some v → Value.okWide Tryd.prog W .any base t v := hval0
  have hW' := hW
  obtain ⟨p, q, hA0, hV, rfl, _, _⟩ := hW
  have hA : DataW.TrodAll enc Tryd.prog W 0 (fun _ => true) true Tryd.f7.params.toList args.toList ds p := hA0
  rw [Tryd.params7] at hA hval
  obtain ⟨v0, vs0, d0, ds0, p0, q0, hargs, rfl, rfl, h0, r0⟩ := trodAll_cons hA
  obtain ⟨v1, vs1, d1, ds1, p1, q1, rfl, rfl, rfl, h1, r1⟩ := trodAll_cons r0
  obtain ⟨v2, vs2, d2, ds2, p2, q2, rfl, rfl, rfl, h2, r2⟩ := trodAll_cons r1
  obtain ⟨v3, vs3, d3, ds3, p3, q3, rfl, rfl, rfl, h3, r3⟩ := trodAll_cons r2
  obtain ⟨v4, vs4, d4, ds4, p4, q4, rfl, rfl, rfl, h4, r4⟩ := trodAll_cons r3
  obtain ⟨rfl, rfl, rfl⟩ := trodAll_nil r4
  obtain rfl : args = #[v0, v1, v2, v3, v4] := by cases args; simp_all
  obtain ⟨rfl, rfl⟩ := trodVars_none hV
  obtain ⟨a0, rfl, rfl, rfl, w0⟩ := open_int Tryd.underlying5 (hval 0 5 v0 rfl rfl) h0
  have k0 := wf_u8 w0
  obtain ⟨n0, rfl⟩ : ∃ u : UInt8, a0 = (u.toNat : Int) := ⟨UInt8.ofNat a0.toNat, by simp; omega⟩
  obtain ⟨a1, rfl, rfl, rfl, w1⟩ := open_int Tryd.underlying5 (hval 1 5 v1 rfl rfl) h1
  have k1 := wf_u8 w1
  obtain ⟨n1, rfl⟩ : ∃ u : UInt8, a1 = (u.toNat : Int) := ⟨UInt8.ofNat a1.toNat, by simp; omega⟩
  obtain ⟨A2, css2, cap2, rfl, l2, m2, e2, b2⟩ := arg_rows (hval 2 23 v2 rfl rfl) h2
  obtain ⟨A3, css3, cap3, rfl, l3, m3, e3, b3⟩ := arg_rows (hval 3 23 v3 rfl rfl) h3
  obtain ⟨a4, rfl, rfl, rfl, w4⟩ := open_int Tryd.underlying24 (hval 4 24 v4 rfl rfl) h4
  have k4 := wf_u64 w4
  obtain ⟨n4, rfl⟩ : ∃ n : Nat, a4 = n := ⟨a4.toNat, by omega⟩
  clear hA0 hval0
  simp only [List.append_nil] at hW'
  refine (policyMore_walk n0 n1 A2 css2 cap2 A3 css3 cap3 n4 W hS b2 b3 (by omega) (by omega)).mono fun e W' ⟨he, hg⟩ => ?_
  subst he
  exact ⟨_, rfl, true_last hW' rfl (by kernel_rfl) Tryd.underlying4 rfl rfl rfl (of_decide_eq_true (by kernel_rfl)) hg⟩

/-- The row. -/
theorem said : Rows.PolicyMoreSaid :=
  OpenClaim.holds_of_wide 7 Tryd.f7 rfl rfl rfl rfl rfl rfl rfl ⟨rfl, rfl, rfl, rfl, rfl⟩ rfl rfl rfl rfl rfl (by kernel_rfl) Tryd.func7 (by kernel_rfl)
    (of_decide_eq_true (by kernel_rfl)) (by unfold Func.isWrapper; first | (rw [if_pos (by decide +kernel)]; kernel_rfl) | (rw [if_neg (by decide +kernel)]; exact ⟨rfl, rfl⟩))
    (fun os started H enc _ => lifted os started H enc)
/-- **PolicyMore, at every input: the card, its listed variables tied to the program's text.** -/
theorem proved : Rows.PolicyMoreCardSaid :=
  Claim7.holds_tied_plain_at .later [] [.data] true Rows.policyMoreCard.stood.harness false
    said (fun _ h => by cases h) (by kernel_rfl) (fun _ h => by cases h) policyMore_row_tie rfl ⟨rfl, rfl⟩ (by kernel_rfl) rfl
    (fun f fn hf hfn => by
      obtain rfl : f = 7 := Option.some.inj ((show Tryd.prog.funcNamed "telemeter/telemeterlaw12.PolicyMore" = some 7 by kernel_rfl).symm.trans hf) |>.symm
      obtain rfl : fn = Tryd.f7 := (Option.some.inj (Tryd.func7.symm.trans hfn)).symm
      exact ⟨by kernel_rfl, fun j t ht => by
        rw [Tryd.params7] at ht
        have hm : t ∈ [5, 5, 23, 23, 24] := by simpa using Array.mem_of_getElem? ht
        have hall : ([5, 5, 23, 23, 24].all fun u => !Tryd.prog.wantsStandIn u) = true := by kernel_rfl
        exact (show Tryd.prog.wantsStandIn t = false by simpa using List.all_eq_true.1 hall t hm)⟩)
    (by kernel_rfl)
end PolicyMore

end Go.Proofs.YtmjbdjcpjaeemaaDoor
