/-
  Proved: PolicyFew returns true for every two choices and every number: rules hold just from where they say on: as many spans, as long a time, as great a number. No condition but the card's own: policy's table of bounds, tied to the program's text, holds at the start what that text says.
-/
import Derived.Test.YtmjbdjcpjaeemaaDoorPoApp
namespace Go.Proofs.YtmjbdjcpjaeemaaDoor
open Go.ChangeShapes Go.WideShapes Go.ChangeAt Go.RowKit

/-- The spans that the law makes. -/
def fewSp (i : Nat) : Sp := ⟨0, 0, 0, 0, none8, 5, ((5 + i : Nat) : Int), false, [], 0⟩
def fewL (n : Nat) : List Sp := (List.range n).map fewSp
theorem few_len (n : Nat) : (fewL n).length = n := by simp [fewL]
theorem few_at {n i : Nat} (h : i < n) : (fewL n).getD i sp0 = fewSp i := by rw [getD_get (by rw [few_len]; exact h)]; simp [fewL]
theorem few_low (n i : Nat) (h : i ≤ n) (hn : 0 < n) : lowN (fewL n) i = 5 := by
  induction i with
  | zero => rw [lowN, few_at hn]; rfl
  | succ i ih =>
    rw [lowN, ih (by omega), few_at (by omega)]
    simp [fewSp]
theorem few_high (n i : Nat) (h : i + 1 ≤ n) : highN (fewL n) (i + 1) = ((5 + i : Nat) : Int) := by
  induction i with
  | zero =>
    rw [highN, highN, few_at (by omega)]
    simp [fewSp]
  | succ i ih =>
    rw [highN, ih (by omega), few_at (by omega)]
    exact if_pos (by show ((5 + i : Nat) : Int) < ((5 + (i + 1) : Nat) : Int); omega)
theorem holds_k1 (a : Int) (x y : ByteArray) (l : List Sp) (n : Nat) : holdsM ⟨1, a, x, y⟩ l n = (decide (0 < l.length) && decide (a ≤ lenM l)) := rfl
theorem holds_k4 (a : Int) (x y : ByteArray) (l : List Sp) (n : Nat) : holdsM ⟨4, a, x, y⟩ l n = decide (a ≤ (l.length : Int)) := rfl
theorem holds_k5 (a : Int) (x y : ByteArray) (l : List Sp) (n : Nat) : holdsM ⟨5, a, x, y⟩ l n = (decide (0 ≤ a) && (decide (n < 72057594037927936) && decide (a.toNat ≤ n))) := rfl
theorem few_long (n : Nat) (h9 : n ≤ 9) : lenM (fewL n) = ((n - 1 : Nat) : Int) := by
  unfold lenM
  rw [few_len]
  rcases Nat.eq_zero_or_pos n with h | h
  · rw [if_pos h, h]; rfl
  · rw [if_neg (by omega), few_low n n (Nat.le_refl _) h]
    obtain ⟨k, rfl⟩ : ∃ k, n = k + 1 := ⟨n - 1, by omega⟩
    rw [few_high (k + 1) k (Nat.le_refl _), wrap_in (by omega)]
    omega

set_option linter.unusedSimpArgs false in
set_option linter.unusedVariables false in
set_option maxRecDepth 100000 in
set_option maxHeartbeats 4000000 in
theorem policyFew_walk (cn ca : UInt8) (num : Nat) (w : World) (hM : Most w) (hnum : num < 18446744073709551616) :
    Calls Tryd.prog 4 #[.int .u8 (cn.toNat : Int), .int .u8 (ca.toNat : Int), .int .u64 (num : Int)] w fun e w' => e = .returned (.bool true) ∧ Below w.heap.size w w' := by
  have hcn := cn.toNat_lt
  have hca := ca.toNat_lt
  obtain ⟨n, hn⟩ : ∃ x, cn.toNat = x := ⟨_, rfl⟩
  obtain ⟨a, ha⟩ : ∃ x, ca.toNat = x := ⟨_, rfl⟩
  rw [hn] at hcn ⊢
  rw [ha] at hca ⊢
  clear hn ha
  have HK := Lib.hid fun W (h : Below w.heap.size w W) => known_any W (hM.later h)
  obtain ⟨M, hMM, hM9⟩ : ∃ x, n % 10 = x ∧ x ≤ 9 := ⟨_, rfl, by omega⟩
  have tM : (n : Int).tmod 10 = (M : Int) := by rw [Int.tmod_eq_emod_of_nonneg (by omega)]; omega
  have wM : IntKind.i64.wrap (M : Int) = (M : Int) := IntWalk.i64_in _ (by omega)
  obtain ⟨x, hx, hx11⟩ : ∃ x, a % 12 = x ∧ x ≤ 11 := ⟨_, rfl, by omega⟩
  have tx : (a : Int).tmod 12 = (x : Int) := by rw [Int.tmod_eq_emod_of_nonneg (by omega)]; omega
  have wx : IntKind.i64.wrap (x : Int) = (x : Int) := IntWalk.i64_in _ (by omega)
  obtain ⟨r, hr, hr56⟩ : ∃ x, num % 72057594037927936 = x ∧ x < 72057594037927936 := ⟨_, rfl, by omega⟩
  have tr : (num : Int).tmod 72057594037927936 = (r : Int) := by rw [Int.tmod_eq_emod_of_nonneg (by omega)]; omega
  have wr_ : IntKind.i64.wrap (r : Int) = (r : Int) := IntWalk.i64_in _ (by omega)
  obtain ⟨n0, hn0⟩ : ∃ n0, w.heap.size = n0 := ⟨_, rfl⟩
  obtain ⟨i1, ha0, ha1, ha2, ha3⟩ := info_parts info_span
  have HN0 := Lib.hid hn0
  have HST : Hid (∃ zs : List Sz, zs.length = 0 ∧ zs.map (fun z => z.1) = fewL 0 ∧ SoW w n0 (.slice none 0 0) zs ∧ Below n0 w w) := Lib.hid ⟨[], rfl, rfl, SoW.nil _ _, Below.refl _ _⟩
  clear hM hMM hx hr hn0
  go_enter Tryd.func4, Tryd.ntmps4
  go_wp2_with fail
  go_loopw [7, 8] (fun ov iv wr => ∃ (A : Option Addr) (k cap : Nat), ov = .slice A k cap ∧ iv = .int .i64 (k : Int) ∧ k ≤ M ∧ Hid (∃ zs : List Sz, zs.length = k ∧ zs.map (fun z => z.1) = fewL k ∧ SoW wr n0 (.slice A k cap) zs ∧ Below n0 w wr)) (fun _ iv _ => M - (intOf iv).toNat)
  case atStart => exact ⟨none, 0, 0, rfl, rfl, by omega, HST⟩
  case round =>
    obtain ⟨A, k, cap, rfl, rfl, hk, HZ⟩ := hrel
    clear HST
    by_cases hend : k < M
    · have t1 : decide ((k : Int) < (M : Int)) = true := by simp; omega
      obtain ⟨p, hp, hpn⟩ : ∃ p : Nat, (5 : Int) + (k : Int) = (p : Int) ∧ p = 5 + k := ⟨5 + k, by omega, rfl⟩
      obtain ⟨zs, hz1, hz2, hz3, hz4⟩ := HZ.out
      obtain ⟨n2, hn2⟩ : ∃ x, wr.heap.size = x := ⟨_, rfl⟩
      have hsz : n0 ≤ n2 := by have h1 := hz4.size; have h2 := HN0.out; omega
      have hso := hz3.later (box_below (.cells #[.int .u64 0, .int .u64 0, .int .u64 0, .int .u64 0, .string ⟨#[]⟩, .int .i64 5, .int .i64 (p : Int), .bool false, .slice none 0 0, .int .u64 0] 36))
      have hout := hso.out
      rw [hz1] at hout
      have HOUT := Lib.hid hout
      have HSO := Lib.hid hso
      have HNEWS := Lib.hid (one_at wr n2 hn2 #[.int .u64 0, .int .u64 0, .int .u64 0, .int .u64 0, .string ⟨#[]⟩, .int .i64 5, .int .i64 (p : Int), .bool false, .slice none 0 0, .int .u64 0] 36)
      have HSZ : Hid ((wr.alloc (.cells #[.int .u64 0, .int .u64 0, .int .u64 0, .int .u64 0, .string ⟨#[]⟩, .int .i64 5, .int .i64 (p : Int), .bool false, .slice none 0 0, .int .u64 0] 36)).heap.size = n2 + 1) := Lib.hid (by rw [World.size_alloc, hn2])
      have HBASE : Hid (n0 ≤ n2 + 1) := Lib.hid (by omega)
      have HB2 : Hid (Below n0 w (wr.alloc (.cells #[.int .u64 0, .int .u64 0, .int .u64 0, .int .u64 0, .string ⟨#[]⟩, .int .i64 5, .int .i64 (p : Int), .bool false, .slice none 0 0, .int .u64 0] 36))) := Lib.hid (hz4.alloc (by omega) _)
      have HZ1 := Lib.hid hz1
      have HZ2 := Lib.hid hz2
      have HNX : Hid (fewL (k + 1) = fewL k ++ [⟨0, 0, 0, 0, ⟨#[]⟩, 5, (p : Int), false, [], 0⟩]) := Lib.hid (by unfold fewL; rw [List.range_succ, List.map_append, hpn]; rfl)
      clear hso hout hz1 hz2 hz3 hz4 hsz hpn
      go_wp2_with (at_builtin; refine wpList_append_lies _ rfl (.tmp 19) (.tmp 23) 28 rfl n0 36 i1 (.agg zeros26) 10 104 Tryd.underlying28 ha0 ha1 ha2 ha3 rfl (by decide) (.slice A k cap) k (szCells zs) rfl HOUT.out ⟨n2, 0, none⟩ 1 1 [.int .u64 0, .int .u64 0, .int .u64 0, .int .u64 0, .string ⟨#[]⟩, .int .i64 5, .int .i64 (p : Int), .bool false, .slice none 0 0, .int .u64 0] rfl rfl HNEWS.out (by simp [Value.oneCell']) (by decide) (by unfold maxLen; omega) (by omega) (by rw [HSZ.out]; exact HBASE.out) (n2 + 1) HSZ.out ?_; intro g2 c2 w3 hown3 hgr3 hor3 hlt3; have hso3 := HSO.out.grown (more := [(⟨0, 0, 0, 0, ⟨#[]⟩, 5, (p : Int), false, [], 0⟩, none, 0)]) (fun q hq => by rw [List.mem_singleton.1 hq]; exact World.ownsRow_nil _ _ _ _) hgr3 (by rw [HZ1.out]; simpa [szCells, spCells] using hown3); have HSO3 := Lib.hid hso3; have HB3 := Lib.hid (HB2.out.grown hgr3 (by rw [HSZ.out]; exact HBASE.out) (fun q hq => (HOUT.out.lt q hq).1)); clear hown3 hgr3 hor3 hlt3 hso3)
      go_roundw
      case rel => exact ⟨some ⟨g2, 0, none⟩, k + 1, c2, rfl, by simp, by omega, Lib.hid ⟨zs ++ [(⟨0, 0, 0, 0, ⟨#[]⟩, 5, (p : Int), false, [], 0⟩, none, 0)], by simp [HZ1.out], by rw [HNX.out, List.map_append, HZ2.out]; rfl, HSO3.out, HB3.out⟩⟩
      case measure => simp [intOf]; omega
    · have hke : k = M := by omega
      subst hke
      obtain ⟨zs, hz1, hz2, hz3, hz4⟩ := HZ.out
      have t1 : decide ((k : Int) < (k : Int)) = false := by simp
      have hh := hz3.holds hz1
      rw [hz2] at hh
      have hcc := hz3.caps hz1
      have hfit : Fits k cap (fewL k) := ⟨few_len k, hcc.1, hcc.2, fun i hi => by rw [few_at hi]; exact (by decide : (0 : Nat) ≤ 9223372036854775807)⟩
      obtain ⟨lg, hlg, hlg9⟩ : ∃ lg, k - 1 = lg ∧ lg ≤ 9 := ⟨_, rfl, by omega⟩
      have hlong : lenM (fewL k) = (lg : Int) := by rw [few_long k (by omega), hlg]
      have hlgm : (if (k : Int) - 1 < 0 then (0 : Int) else (k : Int) - 1) = (lg : Int) := by split <;> omega
      have hlgm2 : max ((k : Int) - 1) 0 = (lg : Int) := by omega
      obtain ⟨bm, hbm⟩ : ∃ b, decide ((x : Int) ≤ (k : Int)) = b := ⟨_, rfl⟩
      have hbmn : decide (x ≤ k) = bm := by rw [← hbm]; simp
      obtain ⟨bs, hbs⟩ : ∃ b, decide ((x : Int) ≤ (lg : Int)) = b := ⟨_, rfl⟩
      have hbsn : decide (x ≤ lg) = bs := by rw [← hbs]; simp
      obtain ⟨b0, hb0⟩ : ∃ b, decide ((0 : Int) < (k : Int)) = b := ⟨_, rfl⟩
      have hb0n : decide (0 < k) = b0 := by rw [← hb0]; simp
      have hb0i : decide (0 < k) = b0 := hb0n
      have HWS : Hid (∀ W, Below wr.heap.size wr W → HoldsS W.heap.size W A (fewL k)) := Lib.hid fun W hW => hh.later hW
      have H1 : Hid (∀ W, Below wr.heap.size wr W → Calls Tryd.prog 14 #[.agg #[.int .u8 4, .int .i64 (x : Int), .string ⟨#[]⟩, .string ⟨#[]⟩], .slice A k cap, .int .u64 0] W fun e w' => e = .returned (.bool bm) ∧ Below wr.heap.size wr w') := Lib.hid fun W hW => by
        have := holds_any ⟨4, (x : Int), none8, none8⟩ A (fewL k) k cap 0 W hfit ⟨by simp only; omega, by simp only; omega⟩ (hh.later hW)
        have e : holdsM ⟨4, (x : Int), none8, none8⟩ (fewL k) 0 = bm := by rw [holds_k4, few_len, hbm]
        rw [e] at this
        exact this.mono fun e w' ⟨he, hb⟩ => ⟨he, hW.trans (hb.mono hW.size)⟩
      have H2 : Hid (∀ W, Below wr.heap.size wr W → Calls Tryd.prog 14 #[.agg #[.int .u8 1, .int .i64 (x : Int), .string ⟨#[]⟩, .string ⟨#[]⟩], .slice A k cap, .int .u64 0] W fun e w' => e = .returned (.bool (b0 && bs)) ∧ Below wr.heap.size wr w') := Lib.hid fun W hW => by
        have := holds_any ⟨1, (x : Int), none8, none8⟩ A (fewL k) k cap 0 W hfit ⟨by simp only; omega, by simp only; omega⟩ (hh.later hW)
        have e : holdsM ⟨1, (x : Int), none8, none8⟩ (fewL k) 0 = (b0 && bs) := by rw [holds_k1, few_len, hlong, hbs, hb0n]
        rw [e] at this
        exact this.mono fun e w' ⟨he, hb⟩ => ⟨he, hW.trans (hb.mono hW.size)⟩
      have H3 : Hid (∀ W, Below wr.heap.size wr W → Calls Tryd.prog 14 #[.agg #[.int .u8 5, .int .i64 (r : Int), .string ⟨#[]⟩, .string ⟨#[]⟩], .slice A k cap, .int .u64 (r : Int)] W fun e w' => e = .returned (.bool true) ∧ Below wr.heap.size wr w') := Lib.hid fun W hW => by
        have := holds_any ⟨5, (r : Int), none8, none8⟩ A (fewL k) k cap r W hfit ⟨by simp only; omega, by simp only; omega⟩ (hh.later hW)
        have e : holdsM ⟨5, (r : Int), none8, none8⟩ (fewL k) r = true := by rw [holds_k5]; simp; omega
        rw [e] at this
        exact this.mono fun e w' ⟨he, hb⟩ => ⟨he, hW.trans (hb.mono hW.size)⟩
      obtain ⟨r1, hr1, hr1n⟩ : ∃ r1 : Nat, (r : Int) + 1 = (r1 : Int) ∧ r1 = r + 1 := ⟨r + 1, by omega, rfl⟩
      have H4 : Hid (∀ W, Below wr.heap.size wr W → Calls Tryd.prog 14 #[.agg #[.int .u8 5, .int .i64 (r1 : Int), .string ⟨#[]⟩, .string ⟨#[]⟩], .slice A k cap, .int .u64 (r : Int)] W fun e w' => e = .returned (.bool false) ∧ Below wr.heap.size wr w') := Lib.hid fun W hW => by
        have := holds_any ⟨5, (r1 : Int), none8, none8⟩ A (fewL k) k cap r W hfit ⟨by simp only; omega, by simp only; omega⟩ (hh.later hW)
        have e : holdsM ⟨5, (r1 : Int), none8, none8⟩ (fewL k) r = false := by rw [holds_k5]; simp; omega
        rw [e] at this
        exact this.mono fun e w' ⟨he, hb⟩ => ⟨he, hW.trans (hb.mono hW.size)⟩
      have hr1b : r1 ≤ 72057594037927936 := by omega
      have HEND : Hid (∀ W, Below wr.heap.size wr W → Below w.heap.size w W) := Lib.hid fun W hW => by
        have h1 : Below w.heap.size w wr := by rw [HN0.out]; exact hz4
        exact h1.trans (hW.mono h1.size)
      have HKW : Hid (Below w.heap.size w wr) := Lib.hid (by rw [HN0.out]; exact hz4)
      clear hz1 hz2 hz3 hz4 hh hcc hfit hlong hlg hr1n hend
      go_wp2_with fail
      refine (HK.out _ HKW.out).mono ?_
      rintro e w1 ⟨rfl, hb1⟩
      go_wp2_with fail
      refine (H1.out _ hb1).mono ?_
      rintro e w2 ⟨rfl, hb2⟩
      clear hb1
      go_wp2_with fail
      refine (H2.out _ hb2).mono ?_
      rintro e w3 ⟨rfl, hb3⟩
      clear hb2
      cases b0 with
      | true =>
        go_wp2_with fail
        refine (H3.out _ hb3).mono ?_
        rintro e w4 ⟨rfl, hb4⟩
        clear hb3
        go_wp2_with fail
        refine (H4.out _ hb4).mono ?_
        rintro e w5 ⟨rfl, hb5⟩
        clear hb4
        go_wp2_with fail
        go_ret
        exact ⟨rfl, HEND.out _ hb5⟩
      | false =>
        go_wp2_with fail
        refine (H3.out _ hb3).mono ?_
        rintro e w4 ⟨rfl, hb4⟩
        clear hb3
        go_wp2_with fail
        refine (H4.out _ hb4).mono ?_
        rintro e w5 ⟨rfl, hb5⟩
        clear hb4
        go_wp2_with fail
        go_ret
        exact ⟨rfl, HEND.out _ hb5⟩
namespace PolicyFew
set_option linter.unusedSimpArgs false in
set_option maxRecDepth 100000 in
theorem lifted (os : Os) (started : os.Started) (H : Type) (enc : TypeId × Value → H) :
    ReturnsInHanded {} Tryd.checked os 4 .any (fun w args => (Rows.policyFewSpec.pre enc Tryd.prog Tryd.f4 [] false w args ∧ laidMetH Tryd.prog laidL w) ∧ sizedMet enc Tryd.prog Tryd.f4 (OpenSpec.ofChange Rows.policyFewSpec) false w args)
      (Rows.policyFewSpec.post enc Tryd.prog Tryd.f4 false true false false) := by
  refine returnsInHanded_of_change_and (C := Tryd.checked) (X := fun w _ => laidMetH Tryd.prog laidL w) (fun _ _ _ hh h => h.of_heap hh) own started (by kernel_rfl) Tryd.func4
    (ChangeSpec.witness_shaped (enc := enc) (C := Tryd.checked) (os := os) (X := fun w _ => laidMetH Tryd.prog laidL w) false (World.doorLaid Tryd.prog 400 os) #[.int .u8 0, .int .u8 0, .int .u64 0] 8 rfl (World.shaped_of_RefB (by kernel_rfl) (by kernel_rfl)) (by kernel_rfl) (by kernel_rfl) (by kernel_rfl) (door_met os _)) ?_
  intro W base args ds gs before hval0 hW _ _ hL _
  have hS := of_laid hL
  have hval : ∀ (j : Nat) t v, Tryd.f4.params[j]? = some t → args[j]? = some v → Value.okWide Tryd.prog W .any base t v := hval0
  have hW' := hW
  obtain ⟨p, q, hA0, hV, rfl, _, _⟩ := hW
  have hA : DataW.TrodAll enc Tryd.prog W 0 (fun _ => true) true Tryd.f4.params.toList args.toList ds p := hA0
  rw [Tryd.params4] at hA hval
  obtain ⟨v0, vs0, d0, ds0, p0, q0, hargs, rfl, rfl, h0, r0⟩ := trodAll_cons hA
  obtain ⟨v1, vs1, d1, ds1, p1, q1, rfl, rfl, rfl, h1, r1⟩ := trodAll_cons r0
  obtain ⟨v2, vs2, d2, ds2, p2, q2, rfl, rfl, rfl, h2, r2⟩ := trodAll_cons r1
  obtain ⟨rfl, rfl, rfl⟩ := trodAll_nil r2
  obtain rfl : args = #[v0, v1, v2] := by cases args; simp_all
  obtain ⟨rfl, rfl⟩ := trodVars_none hV
  obtain ⟨a0, rfl, rfl, rfl, w0⟩ := open_int Tryd.underlying5 (hval 0 5 v0 rfl rfl) h0
  have k0 := wf_u8 w0
  obtain ⟨n0, rfl⟩ : ∃ u : UInt8, a0 = (u.toNat : Int) := ⟨UInt8.ofNat a0.toNat, by simp; omega⟩
  obtain ⟨a1, rfl, rfl, rfl, w1⟩ := open_int Tryd.underlying5 (hval 1 5 v1 rfl rfl) h1
  have k1 := wf_u8 w1
  obtain ⟨n1, rfl⟩ : ∃ u : UInt8, a1 = (u.toNat : Int) := ⟨UInt8.ofNat a1.toNat, by simp; omega⟩
  obtain ⟨a2, rfl, rfl, rfl, w2⟩ := open_int Tryd.underlying24 (hval 2 24 v2 rfl rfl) h2
  have k2 := wf_u64 w2
  obtain ⟨n2, rfl⟩ : ∃ n : Nat, a2 = n := ⟨a2.toNat, by omega⟩
  clear hA0 hval0
  simp only [List.append_nil] at hW'
  refine (policyFew_walk n0 n1 n2 W hS (by omega)).mono fun e W' ⟨he, hg⟩ => ?_
  subst he
  exact ⟨_, rfl, true_last hW' rfl (by kernel_rfl) Tryd.underlying4 rfl rfl rfl (of_decide_eq_true (by kernel_rfl)) hg⟩

/-- The row. -/
theorem said : Rows.PolicyFewSaid :=
  OpenClaim.holds_of_wide 4 Tryd.f4 rfl rfl rfl rfl rfl rfl rfl ⟨rfl, rfl, rfl, rfl, rfl⟩ rfl rfl rfl rfl rfl (by kernel_rfl) Tryd.func4 (by kernel_rfl)
    (of_decide_eq_true (by kernel_rfl)) (by unfold Func.isWrapper; first | (rw [if_pos (by decide +kernel)]; kernel_rfl) | (rw [if_neg (by decide +kernel)]; exact ⟨rfl, rfl⟩))
    (fun os started H enc _ => lifted os started H enc)
/-- **PolicyFew, at every input: the card, its listed variables tied to the program's text.** -/
theorem proved : Rows.PolicyFewCardSaid :=
  Claim7.holds_tied_plain_at .later [] [.data] true Rows.policyFewCard.stood.harness false
    said (fun _ h => by cases h) (by kernel_rfl) (fun _ h => by cases h) policyFew_row_tie rfl ⟨rfl, rfl⟩ (by kernel_rfl) rfl
    (fun f fn hf hfn => by
      obtain rfl : f = 4 := Option.some.inj ((show Tryd.prog.funcNamed "telemeter/telemeterlaw12.PolicyFew" = some 4 by kernel_rfl).symm.trans hf) |>.symm
      obtain rfl : fn = Tryd.f4 := (Option.some.inj (Tryd.func4.symm.trans hfn)).symm
      exact ⟨by kernel_rfl, fun j t ht => by
        rw [Tryd.params4] at ht
        have hm : t ∈ [5, 5, 24] := by simpa using Array.mem_of_getElem? ht
        have hall : ([5, 5, 24].all fun u => !Tryd.prog.wantsStandIn u) = true := by kernel_rfl
        exact (show Tryd.prog.wantsStandIn t = false by simpa using List.all_eq_true.1 hall t hm)⟩)
    (by kernel_rfl)
end PolicyFew

end Go.Proofs.YtmjbdjcpjaeemaaDoor
