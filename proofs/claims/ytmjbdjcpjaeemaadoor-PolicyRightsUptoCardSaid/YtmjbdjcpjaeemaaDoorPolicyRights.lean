/-
  Proved: PolicyRights, where what it reads is of bulk at most 1048576, returns true for all rows of rules, all choices, places, numbers and texts: Right tells of any rows, and of the statement's own rows bent in one place, what the document's own tells. One condition, the second form's own: that bound (without it the document's own count of rules may pass 2^63). Policy's table of bounds, tied to the program's text, holds at the start what that text says.
-/
import Derived.Test.YtmjbdjcpjaeemaaDoorPoUpto
namespace Go.Proofs.YtmjbdjcpjaeemaaDoor
open Go.ChangeShapes Go.WideShapes Go.ChangeAt Go.RowKit

set_option linter.unusedSimpArgs false in
set_option linter.unusedVariables false in
set_option maxRecDepth 100000 in
set_option maxHeartbeats 8000000 in
theorem policyRights_walk (A0 : Option Addr) (ls : List (List Ru)) (cap0 : Nat) (A1 : Option Addr) (cs : List UInt8) (cap1 hw at_ : Nat) (num : Int) (s : ByteArray) (w : World) (hM : Most w) (h0 : HoldsRR w.heap.size w A0 ls) (hok : OkRows ls) (hsum : sumM ls ≤ 1048576) (hlen : ls.length ≤ 1048576) (h1 : Holds8 w.heap.size w A1 cs) (hl1 : cs.length ≤ 9223372036854775807) (hhw : hw < 256) (hat : at_ < 256) (hnum : In64 num) :
    Calls Tryd.prog 5 #[.slice A0 ls.length cap0, .slice A1 cs.length cap1, .int .u8 (hw : Int), .int .u8 (at_ : Int), .int .i64 num, .string s] w fun e w' => e = .returned (.bool true) ∧ Below w.heap.size w w' := by
  obtain ⟨n0, hn0⟩ : ∃ x, ls.length = x := ⟨_, rfl⟩
  obtain ⟨n1, hn1⟩ : ∃ x, cs.length = x := ⟨_, rfl⟩
  obtain ⟨NW, hNW⟩ : ∃ x, w.heap.size = x := ⟨_, rfl⟩
  have HSB : Hid (∀ i, i ≤ n0 → sumN ls i ≤ 1048576) := Lib.hid fun i hi => by
    have := sumN_mono ls i (ls.length - i)
    rw [show i + (ls.length - i) = ls.length by omega, sumN_all] at this
    omega
  have HSA : Hid (sumN ls n0 = sumM ls) := Lib.hid (by rw [← hn0, sumN_all])
  have HROW : Hid (∀ i, i < n0 → ∃ b off B c, A0 = some ⟨b, off, none⟩ ∧ (∀ W, Below w.heap.size w W → W.cell? ⟨b, off + i, none⟩ = some (.slice B (ls.getD i []).length c))) := Lib.hid fun i hi => by
    obtain ⟨b, off, e, hb, hc⟩ := h0 (by omega)
    obtain ⟨B, c, k1, k2⟩ := hc i (by omega)
    exact ⟨b, off, B, c, e, fun W hW => (hW.cell (p := ⟨b, off + i, none⟩) hb).trans k1⟩
  have HSTEP : Hid (∀ W W', Below w.heap.size w W → Below W.heap.size W W' → Below w.heap.size w W') := Lib.hid fun W W' h h' => h.trans (h'.mono h.size)
  have HK : Hid (∀ W, Below w.heap.size w W → Calls Tryd.prog 10 #[] W fun e w' => e = .returned (.bool true) ∧ Below w.heap.size w w') := Lib.hid fun W hW => (known_any W (hM.later hW)).mono fun e w' ⟨he, hb⟩ => ⟨he, HSTEP.out _ _ hW hb⟩
  have HR1 : Hid (∀ W, Below w.heap.size w W → Calls Tryd.prog 9 #[.slice A1 n1 cap1] W fun e w' => ∃ A n cap zs, e = .returned (.slice A n cap) ∧ n ≤ 6 ∧ Hid (zs.length = n ∧ zs.map (fun z => z.1) = rulesOf cs ∧ RoW w' W.heap.size (.slice A n cap) zs ∧ Below W.heap.size W w')) := Lib.hid fun W hW => rules_any A1 cs n1 cap1 W hn1 (by omega) (h1.later hW)
  have HFIN : Hid (∀ W A n cap (l' : List (List Ru)), Below w.heap.size w W → l'.length = n → OkRows l' → sumM l' ≤ 1000 → HoldsRR W.heap.size W A l' → ∀ W', Below W.heap.size W W' →
      (Calls Tryd.prog 15 #[.slice A n cap] W' fun e w' => e = .returned (.bool (rightsM l')) ∧ Below W.heap.size W w') ∧ (Calls Tryd.prog 16 #[.slice A n cap] W' fun e w' => e = .returned (.bool (rightsM l')) ∧ Below W.heap.size W w')) := Lib.hid fun W A n cap l' hW hn' hok' hs' hR W' hW' =>
    ⟨(right_any A l' n cap W' hn' (by rw [← hn']; exact hok'.1) (fun i hi => (hok'.2 i (by omega)).1) (hR.later hW') (hM.later (HSTEP.out _ _ hW hW'))).mono fun e w' ⟨he, hb⟩ => ⟨he, hW'.trans (hb.mono hW'.size)⟩,
     (refRight_any A l' n cap W' hn' hok' hs' (hR.later hW')).mono fun e w' ⟨he, hb⟩ => ⟨he, hW'.trans (hb.mono hW'.size)⟩⟩
  have HL : Hid (sumM ls ≤ 1000 → ∀ W, Below w.heap.size w W → (Calls Tryd.prog 15 #[.slice A0 n0 cap0] W fun e w' => e = .returned (.bool (rightsM ls)) ∧ Below W.heap.size W w') ∧ (Calls Tryd.prog 16 #[.slice A0 n0 cap0] W fun e w' => e = .returned (.bool (rightsM ls)) ∧ Below W.heap.size W w')) := Lib.hid fun hs W hW => HFIN.out W A0 n0 cap0 ls hW hn0 hok hs (h0.later hW) W (Below.refl _ _)
  have HOKR := Lib.hid (ok_rules cs)
  have HNUM := Lib.hid hnum
  have HB0 : Hid (Below w.heap.size w w) := Lib.hid (Below.refl _ _)
  have hn0b : n0 ≤ 1048576 := by omega
  rw [hn0, hn1]
  have hnb : -9223372036854775808 ≤ num ∧ num ≤ 9223372036854775807 := hnum
  clear hM h0 h1 hok hsum hlen hn0 hn1 hl1 hnum hNW
  go_enter Tryd.func5, Tryd.ntmps5
  go_wp2_with fail
  go_loopw [13, 14] (fun kv iv wr => ∃ i k : Nat, kv = .int .i64 (k : Int) ∧ iv = .int .i64 (i : Int) ∧ i ≤ n0 ∧ k ≤ 2097152 ∧ Hid (sumN ls i + i = k) ∧ Hid (Below w.heap.size w wr)) (fun _ iv _ => n0 - (intOf iv).toNat)
  case atStart => exact ⟨0, 0, rfl, rfl, by omega, by omega, Lib.hid rfl, HB0⟩
  case round =>
    obtain ⟨i, k, rfl, rfl, hi, hk, HKS, HB⟩ := hrel
    clear HB0
    by_cases hlt : i < n0
    · have ti : decide ((i : Int) < (n0 : Int)) = true := by simp; omega
      obtain ⟨b, off, B, c, rfl, hc⟩ := HROW.out i hlt
      have u0 := hc wr HB.out
      obtain ⟨nr, hnr⟩ : ∃ x, (ls.getD i []).length = x := ⟨_, rfl⟩
      rw [hnr] at u0
      have hs1 : sumN ls (i + 1) = sumN ls i + nr := by rw [sumN, hnr]
      have hs2 := HSB.out (i + 1) (by omega)
      have hks := HKS.out
      have hnrb : nr ≤ 1048576 := by omega
      have HNK : Hid (sumN ls (i + 1) + (i + 1) = k + (1 + nr)) := Lib.hid (by omega)
      have hkb : k + (1 + nr) ≤ 2097152 := by omega
      clear hc hnr hs1 hs2 hks
      go_wp2_with fail
      go_roundw
      case rel => exact ⟨i + 1, k + (1 + nr), by simp, by simp, by omega, hkb, HNK, HB⟩
      case measure => simp [intOf]; omega
    · have hie : i = n0 := by omega
      subst hie
      have ti : decide ((i : Int) < (i : Int)) = false := by simp
      clear hlt HROW
      by_cases hbad : 50 < k ∨ 100 < s.size
      · rcases Nat.lt_or_ge 50 k with e1 | e1
        · have t1 : decide ((50 : Int) < (k : Int)) = true := by simp; omega
          have t1n : decide (50 < k) = true := by simp; omega
          clear hbad e1
          go_wp2_with fail
          refine (HK.out _ HB.out).mono ?_
          rintro e w3 ⟨rfl, hb3⟩
          go_wp2_with fail
          go_ret
          exact ⟨rfl, hb3⟩
        · have t1 : decide ((50 : Int) < (k : Int)) = false := by simp; omega
          have t1n : decide (50 < k) = false := by simp; omega
          have t2 : decide ((100 : Int) < (s.size : Int)) = true := by simp; omega
          have t2n : decide (100 < s.size) = true := by simp; omega
          clear hbad e1
          go_wp2_with fail
          refine (HK.out _ HB.out).mono ?_
          rintro e w3 ⟨rfl, hb3⟩
          go_wp2_with fail
          go_ret
          exact ⟨rfl, hb3⟩
      have t1 : decide ((50 : Int) < (k : Int)) = false := by simp; omega
      have t1n : decide (50 < k) = false := by simp; omega
      have t2 : decide ((100 : Int) < (s.size : Int)) = false := by simp; omega
      have t2n : decide (100 < s.size) = false := by simp; omega
      have HLL := Lib.hid (HL.out (by have := HKS.out; have := HSA.out; omega))
      clear hbad HL HKS HSA HSB
      go_wp2_with fail
      refine (HK.out _ HB.out).mono ?_
      rintro e w2 ⟨rfl, hb2⟩
      have HB2 := Lib.hid hb2
      clear hb2
      go_wp2_with fail
      refine (HR1.out _ HB2.out).mono ?_
      rintro e w3 ⟨Ax, nx, cx, zx, rfl, hnx, HX⟩
      have HB3 : Hid (Below w.heap.size w w3) := Lib.hid (HSTEP.out _ _ HB2.out HX.out.2.2.2)
      obtain ⟨nB, hnB⟩ : ∃ x, w2.heap.size = x := ⟨_, rfl⟩
      have HNB : Hid (w.heap.size ≤ nB) := Lib.hid (by have := HB2.out.size; omega)
      have hzn := HX.out.1
      have hzm := HX.out.2.1
      have hzr := HX.out.2.2.1
      rw [hnB] at hzr
      have hxh := hzr.holds hzn
      have hln : (rulesOf cs).length = nx := by rw [← hzm, List.length_map, hzn]
      rw [hzm] at hxh
      obtain ⟨q1, q2⟩ := HFIN.out w3 Ax nx cx (rulesOf cs) HB3.out hln HOKR.out.1 (by have := sum_rules cs; omega) hxh w3 (Below.refl _ _)
      rw [rights_rules] at q1
      have Q1 := Lib.hid q1
      have HZN := Lib.hid hzn
      have HZM := Lib.hid hzm
      have HZR := Lib.hid hzr
      obtain ⟨vl, hvl⟩ : ∃ v, rightsM ls = v := ⟨_, rfl⟩
      rw [hvl] at HLL
      have hvne : (vl != vl) = false := by simp
      clear q1 q2 hzn hzm hzr hxh hln HX hnB hvl HB2 HR1
      go_wp2_with fail
      refine Q1.out.mono ?_
      rintro e w4 ⟨rfl, hb4⟩
      have HB4 : Hid (Below w.heap.size w w4) := Lib.hid (HSTEP.out _ _ HB3.out hb4)
      have HZ4 := Lib.hid (HZR.out.later hb4)
      clear hb4
      go_wp2_with fail
      refine (HLL.out _ HB4.out).1.mono ?_
      rintro e w5 ⟨rfl, hb5⟩
      have HB5 : Hid (Below w.heap.size w w5) := Lib.hid (HSTEP.out _ _ HB4.out hb5)
      have HZ5 := Lib.hid (HZ4.out.later hb5)
      clear hb5
      go_wp2_with fail
      refine (HLL.out _ HB5.out).2.mono ?_
      rintro e w6 ⟨rfl, hb6⟩
      have HB6 : Hid (Below w.heap.size w w6) := Lib.hid (HSTEP.out _ _ HB5.out hb6)
      have HZ6 := Lib.hid (HZ5.out.later hb6)
      clear hb6 HZ5 HZ4 HZR HB5 HB4 HB3 HB Q1 HLL HK
      by_cases hx0 : nx = 0
      · have t3 : ((nx : Int) == 0) = true := by simp; omega
        clear hx0
        go_wp2_with fail
        go_ret
        exact ⟨rfl, HB6.out⟩
      have t3 : ((nx : Int) == 0) = false := by simp; omega
      have hnx0 : 0 < nx := by omega
      obtain ⟨ix, hix, hixl⟩ : ∃ x, at_ % nx = x ∧ x < nx := ⟨_, rfl, Nat.mod_lt _ hnx0⟩
      have tr : (at_ : Int).tmod (nx : Int) = (ix : Int) := by rw [Int.tmod_eq_emod_of_nonneg (by omega), ← hix]; simp
      have tr' : (at_ : Int) % (nx : Int) = (ix : Int) := by rw [← hix]; simp
      obtain ⟨m25, hm25, hm25l⟩ : ∃ x, at_ % 25 = x ∧ x < 25 := ⟨_, rfl, Nat.mod_lt _ (by omega)⟩
      have tm : (at_ : Int).tmod 25 = (m25 : Int) := by rw [Int.tmod_eq_emod_of_nonneg (by omega)]; omega
      have tm' : (at_ : Int) % 25 = (m25 : Int) := by omega
      obtain ⟨go, cg, egx, _, hgo⟩ := HZ6.out.out.form (by rw [HZN.out]; omega)
      injection egx with e1 elen e2
      clear elen
      subst e1 e2
      have hil : ix < zx.length := by rw [HZN.out]; exact hixl
      obtain ⟨⟨row, g, c⟩, hz⟩ : ∃ z, zx[ix] = z := ⟨_, rfl⟩
      have hmem : (row, g, c) ∈ zx := by rw [← hz]; exact List.getElem_mem hil
      have hrmem : row ∈ rulesOf cs := by rw [← HZM.out]; exact List.mem_map_of_mem (f := fun z : Rz => z.1) hmem
      have hrpos := row_full cs hrmem
      obtain ⟨⟨y0, y1, y2, y3⟩, tl, rfl⟩ : ∃ r tl, row = r :: tl := by
        match row, hrpos with
        | r :: tl, _ => exact ⟨r, tl, rfl⟩
      obtain ⟨nr, hnr⟩ : ∃ x, ((⟨y0, y1, y2, y3⟩ : Ru) :: tl).length = x := ⟨_, rfl⟩
      have hnrp : 0 < nr := by rw [← hnr]; simp
      have hnrb : nr ≤ 6 := by
        have h3 : ((⟨y0, y1, y2, y3⟩ : Ru) :: tl).length ≤ sumM (rulesOf cs) := le_sum (l := (rulesOf cs).map List.length) (List.mem_map_of_mem (f := List.length) hrmem)
        have := sum_rules cs
        omega
      have hin := HOKR.out.2 _ hrmem
      obtain ⟨u0, f0⟩ := HZ6.out.cellOf HZN.out hil
      rw [hz] at u0
      have u0' : w6.cell? ⟨go, ix, none⟩ = some (.slice (some ⟨g, 0, none⟩) nr c) := by rw [← hnr]; exact u0
      have hrow6 := HZ6.out.row _ hmem
      have hcellg : ∀ f, f < 4 → w6.cell? ⟨g, f, none⟩ = (ruCells ⟨y0, y1, y2, y3⟩)[f]? ∧ w6.frozen? ⟨g, f, none⟩ = false := fun f hf => by
        have hro := hrow6
        refine ⟨?_, hro.frozenAt f⟩
        have h9 := hro.cellAt f (by simp; omega)
        rw [h9]
        match f, hf with
        | 0, _ => rfl
        | 1, _ => rfl
        | 2, _ => rfl
        | 3, _ => rfl
      have hlt6 := HZ6.out.lt _ hmem
      have hgl : nB ≤ g := hlt6.1
      have hgob : nB ≤ go := (HZ6.out.out.lt go rfl).1
      have HGB : Hid (w.heap.size ≤ g ∧ w.heap.size ≤ go) := Lib.hid (by have := HNB.out; exact ⟨by omega, by omega⟩)
      have HIN := Lib.hid hin
      have HIL := Lib.hid hil
      have HZ := Lib.hid hz
      have HNR := Lib.hid hnr
      have HSUMR := Lib.hid (sum_rules cs)
      have HSET : Hid (ix < (rulesOf cs).length ∧ (rulesOf cs).getD ix [] = (⟨y0, y1, y2, y3⟩ :: tl)) := Lib.hid (by
        have e1 : (rulesOf cs).length = zx.length := by rw [← HZM.out, List.length_map]
        refine ⟨by omega, ?_⟩
        rw [← HZM.out]
        simp [List.getD, hil, hz])
      have hg4 : ∀ W (q : Nat), w6.grownBy W (some q) → w.heap.size ≤ q → Below w.heap.size w W := fun W q hgr hq => HB6.out.grown hgr HB6.out.size (fun k hk => by injection hk with hk; omega)
      have HG4 := Lib.hid hg4
      clear u0 hmem hrmem hrpos hin hrow6 hlt6 hgl hgob hgo hnr hix hm25 hx0 hg4
      have h6 : hw % 6 = 0 ∨ hw % 6 = 1 ∨ hw % 6 = 2 ∨ hw % 6 = 3 ∨ hw % 6 = 4 ∨ hw % 6 = 5 := by omega
      rcases h6 with h6 | h6 | h6 | h6 | h6 | h6
      · have tr6 : (hw : Int).tmod 6 = 0 := by rw [Int.tmod_eq_emod_of_nonneg (by omega)]; omega
        have tr6' : (hw : Int) % 6 = 0 := by omega
        obtain ⟨p1, p2⟩ := HZ6.out.poke (f := 1) (v := .int .i64 num) (row' := ((⟨y0, num, y2, y3⟩ : Ru) :: tl)) HIL.out HZ.out rfl rfl
        have hbp := HG4.out _ _ p2 HGB.out.1
        have HBP := Lib.hid hbp
        obtain ⟨l2, hl2⟩ : ∃ l, (rulesOf cs).set ix ((⟨y0, num, y2, y3⟩ : Ru) :: tl) = l := ⟨_, rfl⟩
        have hph := p1.holds (n := nx) (by rw [List.length_set, HZN.out])
        rw [List.map_set, HZM.out, hl2] at hph
        have hokl : OkRows l2 := by rw [← hl2]; exact ok_set HOKR.out.1 (by have := HNR.out; have e : ((⟨y0, num, y2, y3⟩ : Ru) :: tl).length = nr := this; omega) (ok_head HIN.out HNUM.out)
        have hsl : sumM l2 ≤ 1000 := by
          rw [← hl2]
          have h3 := sum_set (row := ((⟨y0, num, y2, y3⟩ : Ru) :: tl)) HSET.out.1 (by rw [HSET.out.2]; exact Nat.le_refl _)
          have := HSUMR.out
          omega
        have hll2 : l2.length = nx := by rw [← hl2, List.length_set, ← HZM.out, List.length_map, HZN.out]
        have HF := Lib.hid (HFIN.out _ (some ⟨go, 0, none⟩) nx cx l2 hbp hll2 hokl hsl hph)
        obtain ⟨k0, k1⟩ := hcellg 1 (by omega)
        clear p1 p2 hbp hph hokl hsl hll2 hl2 hcellg h6
        go_wp2_with fail
        obtain ⟨vv, hvv⟩ : ∃ v, rightsM l2 = v := ⟨_, rfl⟩
        rw [hvv] at HF
        have hve : (vv == vv) = true := by simp
        clear hvv
        refine (HF.out _ (Below.refl _ _)).1.mono ?_
        rintro e w7 ⟨rfl, hb7⟩
        go_wp2_with fail
        refine (HF.out _ hb7).2.mono ?_
        rintro e w8 ⟨rfl, hb8⟩
        have HE := Lib.hid (HSTEP.out _ _ HBP.out hb8)
        clear hb7 hb8
        go_wp2_with fail
        go_ret
        exact ⟨rfl, HE.out⟩
      · have tr6 : (hw : Int).tmod 6 = 1 := by rw [Int.tmod_eq_emod_of_nonneg (by omega)]; omega
        have tr6' : (hw : Int) % 6 = 1 := by omega
        obtain ⟨p1, p2⟩ := HZ6.out.poke (f := 2) (v := .string s) (row' := ((⟨y0, y1, s, y3⟩ : Ru) :: tl)) HIL.out HZ.out rfl rfl
        have hbp := HG4.out _ _ p2 HGB.out.1
        have HBP := Lib.hid hbp
        obtain ⟨l2, hl2⟩ : ∃ l, (rulesOf cs).set ix ((⟨y0, y1, s, y3⟩ : Ru) :: tl) = l := ⟨_, rfl⟩
        have hph := p1.holds (n := nx) (by rw [List.length_set, HZN.out])
        rw [List.map_set, HZM.out, hl2] at hph
        have hokl : OkRows l2 := by rw [← hl2]; exact ok_set HOKR.out.1 (by have := HNR.out; have e : ((⟨y0, y1, s, y3⟩ : Ru) :: tl).length = nr := this; omega) (ok_head HIN.out (show In64 y1 from HIN.out 0 (by simp)))
        have hsl : sumM l2 ≤ 1000 := by
          rw [← hl2]
          have h3 := sum_set (row := ((⟨y0, y1, s, y3⟩ : Ru) :: tl)) HSET.out.1 (by rw [HSET.out.2]; exact Nat.le_refl _)
          have := HSUMR.out
          omega
        have hll2 : l2.length = nx := by rw [← hl2, List.length_set, ← HZM.out, List.length_map, HZN.out]
        have HF := Lib.hid (HFIN.out _ (some ⟨go, 0, none⟩) nx cx l2 hbp hll2 hokl hsl hph)
        obtain ⟨k0, k1⟩ := hcellg 2 (by omega)
        clear p1 p2 hbp hph hokl hsl hll2 hl2 hcellg h6
        go_wp2_with fail
        obtain ⟨vv, hvv⟩ : ∃ v, rightsM l2 = v := ⟨_, rfl⟩
        rw [hvv] at HF
        have hve : (vv == vv) = true := by simp
        clear hvv
        refine (HF.out _ (Below.refl _ _)).1.mono ?_
        rintro e w7 ⟨rfl, hb7⟩
        go_wp2_with fail
        refine (HF.out _ hb7).2.mono ?_
        rintro e w8 ⟨rfl, hb8⟩
        have HE := Lib.hid (HSTEP.out _ _ HBP.out hb8)
        clear hb7 hb8
        go_wp2_with fail
        go_ret
        exact ⟨rfl, HE.out⟩
      · have tr6 : (hw : Int).tmod 6 = 2 := by rw [Int.tmod_eq_emod_of_nonneg (by omega)]; omega
        have tr6' : (hw : Int) % 6 = 2 := by omega
        obtain ⟨p1, p2⟩ := HZ6.out.poke (f := 3) (v := .string s) (row' := ((⟨y0, y1, y2, s⟩ : Ru) :: tl)) HIL.out HZ.out rfl rfl
        have hbp := HG4.out _ _ p2 HGB.out.1
        have HBP := Lib.hid hbp
        obtain ⟨l2, hl2⟩ : ∃ l, (rulesOf cs).set ix ((⟨y0, y1, y2, s⟩ : Ru) :: tl) = l := ⟨_, rfl⟩
        have hph := p1.holds (n := nx) (by rw [List.length_set, HZN.out])
        rw [List.map_set, HZM.out, hl2] at hph
        have hokl : OkRows l2 := by rw [← hl2]; exact ok_set HOKR.out.1 (by have := HNR.out; have e : ((⟨y0, y1, y2, s⟩ : Ru) :: tl).length = nr := this; omega) (ok_head HIN.out (show In64 y1 from HIN.out 0 (by simp)))
        have hsl : sumM l2 ≤ 1000 := by
          rw [← hl2]
          have h3 := sum_set (row := ((⟨y0, y1, y2, s⟩ : Ru) :: tl)) HSET.out.1 (by rw [HSET.out.2]; exact Nat.le_refl _)
          have := HSUMR.out
          omega
        have hll2 : l2.length = nx := by rw [← hl2, List.length_set, ← HZM.out, List.length_map, HZN.out]
        have HF := Lib.hid (HFIN.out _ (some ⟨go, 0, none⟩) nx cx l2 hbp hll2 hokl hsl hph)
        obtain ⟨k0, k1⟩ := hcellg 3 (by omega)
        clear p1 p2 hbp hph hokl hsl hll2 hl2 hcellg h6
        go_wp2_with fail
        obtain ⟨vv, hvv⟩ : ∃ v, rightsM l2 = v := ⟨_, rfl⟩
        rw [hvv] at HF
        have hve : (vv == vv) = true := by simp
        clear hvv
        refine (HF.out _ (Below.refl _ _)).1.mono ?_
        rintro e w7 ⟨rfl, hb7⟩
        go_wp2_with fail
        refine (HF.out _ hb7).2.mono ?_
        rintro e w8 ⟨rfl, hb8⟩
        have HE := Lib.hid (HSTEP.out _ _ HBP.out hb8)
        clear hb7 hb8
        go_wp2_with fail
        go_ret
        exact ⟨rfl, HE.out⟩
      · have tr6 : (hw : Int).tmod 6 = 3 := by rw [Int.tmod_eq_emod_of_nonneg (by omega)]; omega
        have tr6' : (hw : Int) % 6 = 3 := by omega
        obtain ⟨p1, p2⟩ := HZ6.out.poke (f := 0) (v := .int .u8 (at_ : Int)) (row' := ((⟨at_, y1, y2, y3⟩ : Ru) :: tl)) HIL.out HZ.out rfl rfl
        have hbp := HG4.out _ _ p2 HGB.out.1
        have HBP := Lib.hid hbp
        obtain ⟨l2, hl2⟩ : ∃ l, (rulesOf cs).set ix ((⟨at_, y1, y2, y3⟩ : Ru) :: tl) = l := ⟨_, rfl⟩
        have hph := p1.holds (n := nx) (by rw [List.length_set, HZN.out])
        rw [List.map_set, HZM.out, hl2] at hph
        have hokl : OkRows l2 := by rw [← hl2]; exact ok_set HOKR.out.1 (by have := HNR.out; have e : ((⟨at_, y1, y2, y3⟩ : Ru) :: tl).length = nr := this; omega) (ok_head HIN.out (show In64 y1 from HIN.out 0 (by simp)))
        have hsl : sumM l2 ≤ 1000 := by
          rw [← hl2]
          have h3 := sum_set (row := ((⟨at_, y1, y2, y3⟩ : Ru) :: tl)) HSET.out.1 (by rw [HSET.out.2]; exact Nat.le_refl _)
          have := HSUMR.out
          omega
        have hll2 : l2.length = nx := by rw [← hl2, List.length_set, ← HZM.out, List.length_map, HZN.out]
        have HF := Lib.hid (HFIN.out _ (some ⟨go, 0, none⟩) nx cx l2 hbp hll2 hokl hsl hph)
        obtain ⟨k0, k1⟩ := hcellg 0 (by omega)
        clear p1 p2 hbp hph hokl hsl hll2 hl2 hcellg h6
        go_wp2_with fail
        obtain ⟨vv, hvv⟩ : ∃ v, rightsM l2 = v := ⟨_, rfl⟩
        rw [hvv] at HF
        have hve : (vv == vv) = true := by simp
        clear hvv
        refine (HF.out _ (Below.refl _ _)).1.mono ?_
        rintro e w7 ⟨rfl, hb7⟩
        go_wp2_with fail
        refine (HF.out _ hb7).2.mono ?_
        rintro e w8 ⟨rfl, hb8⟩
        have HE := Lib.hid (HSTEP.out _ _ HBP.out hb8)
        clear hb7 hb8
        go_wp2_with fail
        go_ret
        exact ⟨rfl, HE.out⟩
      · have tr6 : (hw : Int).tmod 6 = 4 := by rw [Int.tmod_eq_emod_of_nonneg (by omega)]; omega
        have tr6' : (hw : Int) % 6 = 4 := by omega
        obtain ⟨p1, p2⟩ := HZ6.out.emptied (i := ix) (B := some ⟨g, 0, none⟩) (c' := c) HZN.out HIL.out
        have hbp := HG4.out _ _ p2 HGB.out.2
        have HBP := Lib.hid hbp
        obtain ⟨l2, hl2⟩ : ∃ l, (rulesOf cs).set ix [] = l := ⟨_, rfl⟩
        rw [HZM.out, hl2] at p1
        have hokl : OkRows l2 := by rw [← hl2]; exact ok_set HOKR.out.1 (by simp) (fun j hj => absurd hj (by simp))
        have hsl : sumM l2 ≤ 1000 := by
          rw [← hl2]
          have h3 := sum_set (row := []) HSET.out.1 (by simp)
          have := HSUMR.out
          omega
        have hll2 : l2.length = nx := by rw [← hl2, List.length_set, ← HZM.out, List.length_map, HZN.out]
        have HF := Lib.hid (HFIN.out _ (some ⟨go, 0, none⟩) nx cx l2 hbp hll2 hokl hsl p1)
        clear p1 p2 hbp hokl hsl hll2 hl2 hcellg h6
        go_wp2_with fail
        obtain ⟨vv, hvv⟩ : ∃ v, rightsM l2 = v := ⟨_, rfl⟩
        rw [hvv] at HF
        have hve : (vv == vv) = true := by simp
        clear hvv
        refine (HF.out _ (Below.refl _ _)).1.mono ?_
        rintro e w7 ⟨rfl, hb7⟩
        go_wp2_with fail
        refine (HF.out _ hb7).2.mono ?_
        rintro e w8 ⟨rfl, hb8⟩
        have HE := Lib.hid (HSTEP.out _ _ HBP.out hb8)
        clear hb7 hb8
        go_wp2_with fail
        go_ret
        exact ⟨rfl, HE.out⟩
      · have tr6 : (hw : Int).tmod 6 = 5 := by rw [Int.tmod_eq_emod_of_nonneg (by omega)]; omega
        have tr6' : (hw : Int) % 6 = 5 := by omega
        obtain ⟨i1, ha0, ha1, ha2, ha3⟩ := info_parts info_rules
        have HST : Hid (∃ zs : List Rz, zs.length = nx ∧ zs.map (fun z => z.1) = rulesOf cs ++ List.replicate 0 [⟨2, 0, none8, none8⟩] ∧ RoW w6 nB (.slice (some ⟨go, 0, none⟩) nx cx) zs ∧ Below w.heap.size w w6) := Lib.hid ⟨zx, HZN.out, by rw [HZM.out]; simp, HZ6.out, HB6.out⟩
        have HT0 : Hid (nx = nx + 0) := Lib.hid rfl
        clear hcellg u0' f0 h6
        go_wp2_with fail
        go_loopw [15, 17] (fun xv jv wr => ∃ (A : Option Addr) (t cap j : Nat), xv = .slice A t cap ∧ jv = .int .i64 (j : Int) ∧ j ≤ m25 ∧ t ≤ 40 ∧ Hid (t = nx + j) ∧ Hid (∃ zs : List Rz, zs.length = t ∧ zs.map (fun z => z.1) = rulesOf cs ++ List.replicate j [⟨2, 0, none8, none8⟩] ∧ RoW wr nB (.slice A t cap) zs ∧ Below w.heap.size w wr)) (fun _ jv _ => m25 - (intOf jv).toNat)
        case atStart => exact ⟨some ⟨go, 0, none⟩, nx, cx, 0, rfl, rfl, by omega, by omega, HT0, HST⟩
        case round =>
          obtain ⟨A, t, cap, j, rfl, rfl, hj, ht, HT, HZS⟩ := hrel
          clear HST HT0
          by_cases hjl : j < m25
          · have tj : decide ((j : Int) < (m25 : Int)) = true := by simp; omega
            obtain ⟨zs, hzl, hzm, hro, hbw⟩ := HZS.out
            obtain ⟨n5, hn5⟩ : ∃ x, wr.heap.size = x := ⟨_, rfl⟩
            have hsz5 := hbw.size
            have hnb5 : nB ≤ n5 := by
              rcases Nat.eq_zero_or_pos t with h | h
              · have := HT.out; omega
              · obtain ⟨gq, cq, eq, _, hgq⟩ := hro.out.form (by omega)
                have := (hro.out.lt gq (by rw [eq]; rfl)).1
                omega
            have hns : ∀ q ∈ zs, q.2.1 ≠ n5 := fun q hq e => by have := (hro.lt q hq).2; omega
            have hrow : ((wr.alloc (.cells #[.int .u8 2, .int .i64 0, .string ⟨#[]⟩, .string ⟨#[]⟩] 39)).alloc (.cells #[.slice (some ⟨n5, 0, none⟩) 1 1] 30)).ownsRow nB 39 4 (rowV ([⟨2, 0, none8, none8⟩], n5, 1)) ([⟨2, 0, none8, none8⟩] : List Ru).length (rCells [⟨2, 0, none8, none8⟩]) := by
              have := (World.ownsRow_lit (base := nB) (e := 39) (size := 4) wr #[.int .u8 2, .int .i64 0, .string ⟨#[]⟩, .string ⟨#[]⟩] 1 (by omega) (by decide) rfl).alloc (.cells #[.slice (some ⟨n5, 0, none⟩) 1 1] 30)
              rw [hn5] at this
              exact this
            have hro2 := (hro.later (box_below (.cells #[.int .u8 2, .int .i64 0, .string ⟨#[]⟩, .string ⟨#[]⟩] 39))).later (box_below (.cells #[.slice (some ⟨n5, 0, none⟩) 1 1] 30))
            have hout := hro2.out
            rw [hzl] at hout
            have HOUT := Lib.hid hout
            have HRO2 := Lib.hid hro2
            have HROW := Lib.hid hrow
            have HNS := Lib.hid hns
            have HNEWS := Lib.hid (one_at (wr.alloc (.cells #[.int .u8 2, .int .i64 0, .string ⟨#[]⟩, .string ⟨#[]⟩] 39)) (n5 + 1) (by rw [World.size_alloc, hn5]) #[.slice (some ⟨n5, 0, none⟩) 1 1] 30)
            have HSZ : Hid (((wr.alloc (.cells #[.int .u8 2, .int .i64 0, .string ⟨#[]⟩, .string ⟨#[]⟩] 39)).alloc (.cells #[.slice (some ⟨n5, 0, none⟩) 1 1] 30)).heap.size = n5 + 1 + 1) := Lib.hid (by rw [World.size_alloc, World.size_alloc, hn5])
            have HBASE : Hid (nB ≤ n5 + 1 + 1 ∧ w.heap.size ≤ n5 + 1 + 1) := Lib.hid ⟨by omega, by omega⟩
            have HBW : Hid (Below w.heap.size w ((wr.alloc (.cells #[.int .u8 2, .int .i64 0, .string ⟨#[]⟩, .string ⟨#[]⟩] 39)).alloc (.cells #[.slice (some ⟨n5, 0, none⟩) 1 1] 30))) := Lib.hid ((hbw.alloc (by omega) _).alloc (by rw [World.size_alloc]; omega) _)
            have HZL := Lib.hid hzl
            have HZMM := Lib.hid hzm
            clear hns hrow hro2 hout hro hbw hzl hzm hsz5 hnb5
            go_wp2_with (at_builtin; go_loud (refine wpList_append_lies _ rfl (.tmp 73) (.tmp 76) 25 rfl nB 30 i1 (.slice none 0 0) 1 24 Tryd.underlying25 ha0 ha1 ha2 ha3 rfl (by decide) (.slice A t cap) t (zs.map rowV) rfl HOUT.out ⟨n5 + 1, 0, none⟩ 1 1 [.slice (some ⟨n5, 0, none⟩) 1 1] rfl rfl HNEWS.out (by simp [Value.oneCell']) (by decide) (by unfold maxLen; omega) (by omega) (by rw [HSZ.out]; exact HBASE.out.1) (n5 + 1 + 1) HSZ.out ?_; intro g2 c2 w7 hown3 hgr3 hor3 hlt3; have hro3 := HRO2.out.snoc HROW.out HNS.out hgr3 (by rw [HZL.out]; exact hown3); have HRO3 := Lib.hid hro3; have HB7 := Lib.hid (HBW.out.grown hgr3 (by rw [HSZ.out]; exact HBASE.out.2) (fun q hq => Nat.le_trans HNB.out (HOUT.out.lt q hq).1)); clear hown3 hgr3 hor3 hlt3 hro3))
            go_roundw
            case rel => exact ⟨some ⟨g2, 0, none⟩, t + 1, c2, j + 1, rfl, by simp, by omega, by have := HT.out; omega, Lib.hid (by have := HT.out; omega), Lib.hid ⟨zs ++ [([⟨2, 0, none8, none8⟩], n5, 1)], by simp [HZL.out], by rw [List.map_append, HZMM.out, List.replicate_succ', List.append_assoc]; rfl, HRO3.out, HB7.out⟩⟩
            case measure => simp [intOf]; omega
          · have hje : j = m25 := by omega
            subst hje
            have tj : decide ((j : Int) < (j : Int)) = false := by simp
            obtain ⟨zs, hzl, hzm, hro, hbw⟩ := HZS.out
            have HBP := Lib.hid hbw
            obtain ⟨l2, hl2⟩ : ∃ l, rulesOf cs ++ List.replicate j [(⟨2, 0, none8, none8⟩ : Ru)] = l := ⟨_, rfl⟩
            have hph := hro.holds hzl
            rw [hzm, hl2] at hph
            have hrl : (rulesOf cs).length ≤ 6 := (Nat.le_trans (rulesN_ok cs (min 6 (cs.length / 3))).1 (Nat.min_le_left _ _))
            have hokl : OkRows l2 := by rw [← hl2]; exact ok_append HOKR.out.1 (ok_same j (by omega)) (by simp; omega)
            have hsl : sumM l2 ≤ 1000 := by
              rw [← hl2, sum_append, sum_same]
              have := HSUMR.out
              omega
            have hll2 : l2.length = t := by rw [← hl2, ← hzm, List.length_map, hzl]
            have HF := Lib.hid (HFIN.out _ A t cap l2 hbw hll2 hokl hsl hph)
            clear hjl hzl hzm hro hbw hph hrl hokl hsl hll2 hl2
            go_wp2_with fail
            obtain ⟨vv, hvv⟩ : ∃ v, rightsM l2 = v := ⟨_, rfl⟩
            rw [hvv] at HF
            have hve : (vv == vv) = true := by simp
            clear hvv
            refine (HF.out _ (Below.refl _ _)).1.mono ?_
            rintro e w7 ⟨rfl, hb7⟩
            go_wp2_with fail
            refine (HF.out _ hb7).2.mono ?_
            rintro e w8 ⟨rfl, hb8⟩
            have HE := Lib.hid (HSTEP.out _ _ HBP.out hb8)
            clear hb7 hb8
            go_wp2_with fail
            go_ret
            exact ⟨rfl, HE.out⟩
namespace PolicyRights
theorem reads (os : Os) {H : Type} (enc : TypeId × Value → H) : ∃ places, DataW.whole enc Tryd.prog ((World.doorLaid Tryd.prog 400 os).forCall (fun _ _ => 0) ⟨#[], #[.slice none 0 0, .slice none 0 0, .int .u8 0, .int .u8 0, .int .i64 0, .string ⟨#[]⟩], []⟩).memory Tryd.f5.params.toList Rows.policyRightsSpec.vars false (#[.slice none 0 0, .slice none 0 0, .int .u8 0, .int .u8 0, .int .i64 0, .string ⟨#[]⟩] : Array Value).toList 8 = some ([.nil, .nil, .lit (.int .u8 0), .lit (.int .u8 0), .lit (.int .i64 0), .lit (.string [])], [], places) :=
  ⟨[], by kernel_rfl⟩
set_option linter.unusedSimpArgs false in
set_option maxRecDepth 100000 in
theorem lifted (os : Os) (started : os.Started) (H : Type) (enc : TypeId × Value → H) (F : Stop.Interp) :
    ReturnsInHanded {} Tryd.checked os 5 .any ((Rows.OpenSpec.upto Rows.policyRightsSpec).preRow enc Tryd.prog Tryd.f5 Rows.policyRightsUptoRow.domain false Rows.policyRightsUptoRow.laid) (((Rows.OpenSpec.upto Rows.policyRightsSpec).at F).post enc Tryd.prog Tryd.f5 false true false false) := by
  obtain ⟨places, hx⟩ := reads os enc
  refine returnsInHanded_of_row (C := Tryd.checked) (s := Rows.OpenSpec.upto Rows.policyRightsSpec) own started (by kernel_rfl) Tryd.func5
    (witness_row_at (enc := enc) (C := Tryd.checked) false (World.doorLaid Tryd.prog 400 os) #[.slice none 0 0, .slice none 0 0, .int .u8 0, .int .u8 0, .int .i64 0, .string ⟨#[]⟩] rfl (by kernel_rfl) (by kernel_rfl) (by kernel_rfl)
      (OpenSpec.preRow_of_cond 8 hx (by kernel_rfl) (fun k hk => by cases hk; kernel_rfl) (by kernel_rfl) (door_met os _))) ?_
  intro W base args ds gs before hval0 hW _ hcond _ hL _ _
  have hS := of_laid hL
  have hU := of_decide_eq_true (hcond _ rfl)
  have hval : ∀ (j : Nat) t v, Tryd.f5.params[j]? = some t → args[j]? = some v → Value.okWide Tryd.prog W .any base t v := hval0
  have hW' := hW
  obtain ⟨p, q, hA0, hV, rfl, _, _⟩ := hW
  have hA : DataW.TrodAll enc Tryd.prog W 0 (fun _ => true) true Tryd.f5.params.toList args.toList ds p := hA0
  rw [Tryd.params5] at hA hval
  obtain ⟨v0, vs0, d0, ds0, p0, q0, hargs, rfl, rfl, h0, r0⟩ := trodAll_cons hA
  obtain ⟨v1, vs1, d1, ds1, p1, q1, rfl, rfl, rfl, h1, r1⟩ := trodAll_cons r0
  obtain ⟨v2, vs2, d2, ds2, p2, q2, rfl, rfl, rfl, h2, r2⟩ := trodAll_cons r1
  obtain ⟨v3, vs3, d3, ds3, p3, q3, rfl, rfl, rfl, h3, r3⟩ := trodAll_cons r2
  obtain ⟨v4, vs4, d4, ds4, p4, q4, rfl, rfl, rfl, h4, r4⟩ := trodAll_cons r3
  obtain ⟨v5, vs5, d5, ds5, p5, q5, rfl, rfl, rfl, h5, r5⟩ := trodAll_cons r4
  obtain ⟨rfl, rfl, rfl⟩ := trodAll_nil r5
  obtain rfl : args = #[v0, v1, v2, v3, v4, v5] := by cases args; simp_all
  obtain ⟨rfl, rfl⟩ := trodVars_none hV
  obtain ⟨A0, sl0, cap0, rfl, l0, m0, b0, o0⟩ := arg_rrules (hval 0 25 v0 rfl rfl) h0
  obtain ⟨A1, cs1, cap1, rfl, l1, m1, b1, again1⟩ := arg_bytes (hval 1 22 v1 rfl rfl) h1
  have x1 := arg_extra h1
  obtain ⟨a2, rfl, rfl, rfl, w2⟩ := open_int Tryd.underlying5 (hval 2 5 v2 rfl rfl) h2
  have k2 := wf_u8 w2
  obtain ⟨n2, rfl⟩ : ∃ u : UInt8, a2 = (u.toNat : Int) := ⟨UInt8.ofNat a2.toNat, by simp; omega⟩
  obtain ⟨a3, rfl, rfl, rfl, w3⟩ := open_int Tryd.underlying5 (hval 3 5 v3 rfl rfl) h3
  have k3 := wf_u8 w3
  obtain ⟨n3, rfl⟩ : ∃ u : UInt8, a3 = (u.toNat : Int) := ⟨UInt8.ofNat a3.toNat, by simp; omega⟩
  obtain ⟨a4, rfl, rfl, rfl, w4⟩ := open_int Tryd.underlying3 (hval 4 3 v4 rfl rfl) h4
  have k4 := wf_i64 w4
  obtain ⟨s5, rfl, rfl, rfl, w5⟩ := ChangeMaps.open_string Tryd.underlying9 (hval 5 9 v5 rfl rfl) h5
  clear hA0 hval0 hcond
  simp only [List.append_nil, List.cons_append, List.nil_append, Rows.uptoBulkAll] at hU
  simp only [List.append_nil] at hW'
  refine (policyRights_walk A0 sl0 cap0 A1 cs1 cap1 n2.toNat n3.toNat a4 s5 W hS b0 (o0.ok (by omega)) (by have := bulk_rows b0 h0; omega) (by have := bulk_rows b0 h0; omega) b1 (by omega) n2.toNat_lt n3.toNat_lt ⟨by omega, by omega⟩).mono fun e W' ⟨he, hg⟩ => ?_
  subst he
  exact ⟨_, rfl, true_last hW' rfl (by kernel_rfl) Tryd.underlying4 rfl rfl rfl (of_decide_eq_true (by kernel_rfl)) hg⟩

/-- The row. -/
theorem said : Rows.PolicyRightsUptoSaid :=
  OpenClaim.holds_of_cond 5 Tryd.f5 rfl rfl rfl rfl rfl rfl rfl ⟨rfl, rfl, rfl, rfl, rfl⟩ rfl rfl rfl rfl rfl (by kernel_rfl) Tryd.func5 (by kernel_rfl)
    (of_decide_eq_true (by kernel_rfl)) (by unfold Func.isWrapper; first | (rw [if_pos (by decide +kernel)]; kernel_rfl) | (rw [if_neg (by decide +kernel)]; exact ⟨rfl, rfl⟩))
    (fun os started H enc _ F => by rw [OpenClaim.pre_eq_preRow]; exact lifted os started H enc F)
/-- **PolicyRights, at every input of bulk at most 1048576: the card, its listed variables tied to the program's text.** -/
theorem proved : Rows.PolicyRightsUptoCardSaid :=
  Claim7.holds_tied_plain_at .later [] _ _ _ _ said (fun _ h => by cases h) (by kernel_rfl) (fun _ h => by cases h) policyRightsUpto_row_tie rfl ⟨rfl, rfl⟩ (by kernel_rfl) rfl
    (fun f fn hf hfn => by
      obtain rfl : f = 5 := Option.some.inj ((show Tryd.prog.funcNamed "telemeter/telemeterlaw12.PolicyRights" = some 5 by kernel_rfl).symm.trans hf) |>.symm
      obtain rfl : fn = Tryd.f5 := (Option.some.inj (Tryd.func5.symm.trans hfn)).symm
      exact ⟨by kernel_rfl, fun j t ht => by
        rw [Tryd.params5] at ht
        have hm : t ∈ [25, 22, 5, 5, 3, 9] := by simpa using Array.mem_of_getElem? ht
        have hall : ([25, 22, 5, 5, 3, 9].all fun u => !Tryd.prog.wantsStandIn u) = true := by kernel_rfl
        exact (show Tryd.prog.wantsStandIn t = false by simpa using List.all_eq_true.1 hall t hm)⟩)
    (by kernel_rfl)
end PolicyRights

end Go.Proofs.YtmjbdjcpjaeemaaDoor
