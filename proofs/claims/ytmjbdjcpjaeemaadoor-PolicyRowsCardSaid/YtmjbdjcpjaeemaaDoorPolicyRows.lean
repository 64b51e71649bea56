/-
  Proved: PolicyRows returns true for all choices of rows of rules and of spans, and every number: the row that is told holds whole, and none ahead of it does; in whatever order spans come. No condition but the card's own: policy's table of bounds, tied to the program's text, holds at the start what that text says.
-/
import Derived.Test.YtmjbdjcpjaeemaaDoorPoApp
namespace Go.Proofs.YtmjbdjcpjaeemaaDoor
open Go.ChangeShapes Go.WideShapes Go.ChangeAt Go.RowKit

theorem idx_lt {α : Type} (p : α → Bool) (l : List α) : -1 ≤ idx p l ∧ (idx p l < l.length) := by
  unfold idx
  split <;> omega
theorem idx_first {α : Type} {p : α → Bool} {l : List α} (d : α) {i : Nat} (hi : i < l.length) (hp : p (l.getD i d) = true) : 0 ≤ idx p l ∧ idx p l ≤ i := by
  have hex : l.findIdx p ≤ i := by
    rcases Nat.lt_or_ge i (l.findIdx p) with h | h
    · have := List.not_of_lt_findIdx h
      rw [getD_get hi d] at hp
      rw [hp] at this
      cases this
    · exact h
  unfold idx
  rw [if_pos (by omega)]
  omega
theorem idx_is {α : Type} {p : α → Bool} {l : List α} (d : α) {i : Nat} (h : idx p l = (i : Int)) : p (l.getD i d) = true := by
  unfold idx at h
  split at h
  · rename_i hl
    have e : l.findIdx p = i := by omega
    have := List.findIdx_getElem (w := hl)
    subst e
    rw [getD_get hl d]
    exact this
  · omega
theorem take_all {p : Ru → Bool} {row : List Ru} {j : Nat} (hj : j < row.length) : (row.take (j + 1)).all p = ((row.take j).all p && p (row.getD j ru0)) := by
  rw [List.take_add_one, List.getElem?_eq_getElem hj, List.all_append, getD_get hj]
  simp

set_option linter.unusedSimpArgs false in
set_option linter.unusedVariables false in
set_option maxRecDepth 100000 in
set_option maxHeartbeats 4000000 in
theorem policyRows_walk (A0 : Option Addr) (cs : List UInt8) (cap0 : Nat) (A1 : Option Addr) (m : List (List UInt8)) (cap1 : Nat) (num : Nat) (w : World) (hM : Most w) (h0 : Holds8 w.heap.size w A0 cs) (h1 : HoldsRows w.heap.size w A1 m) (hl0 : cs.length ≤ 9223372036854775807) (hl1 : m.length ≤ 9223372036854775807) :
    Calls Tryd.prog 8 #[.slice A0 cs.length cap0, .slice A1 m.length cap1, .int .u64 (num : Int)] w fun e w' => e = .returned (.bool true) ∧ Below w.heap.size w w' := by
  obtain ⟨lm, hlm⟩ : ∃ x, m.length = x := ⟨_, rfl⟩
  obtain ⟨lc, hlc⟩ : ∃ x, cs.length = x := ⟨_, rfl⟩
  have HK := Lib.hid fun W (h : Below w.heap.size w W) => known_any W (hM.later h)
  have HR0 := Lib.hid (rules_any A0 cs lc cap0 w hlc (by omega) h0)
  have HS1 : Hid (∀ W, Below w.heap.size w W → Calls Tryd.prog 11 #[.slice A1 lm cap1] W fun e w' => ∃ A n cap zs, e = .returned (.slice A n cap) ∧ n ≤ 8 ∧ Hid (zs.length = n ∧ zs.map (fun z => z.1) = spansOf m ∧ SoW w' W.heap.size (.slice A n cap) zs ∧ Below W.heap.size W w')) := Lib.hid fun W hW => spans_any A1 m lm cap1 W hlm (by omega) (h1.later hW)
  obtain ⟨i1, ha0, ha1, ha2, ha3⟩ := info_parts info_span
  rw [hlm, hlc]
  clear hM h0 h1 hlc hlm hl0 hl1
  go_enter Tryd.func8, Tryd.ntmps8
  go_wp2_with fail
  refine HR0.out.mono ?_
  rintro e w1 ⟨Al, nl, cl, zl, rfl, hnl, HL1⟩
  have HB1 : Hid (Below w.heap.size w w1) := Lib.hid HL1.out.2.2.2
  go_wp2_with fail
  refine (HS1.out _ HB1.out).mono ?_
  rintro e w3 ⟨Ax, nx, cx, zx, rfl, hnx, HX⟩
  have hb3 : Below w.heap.size w w3 := HB1.out.trans (HX.out.2.2.2.mono HB1.out.size)
  have hl3 := HL1.out.2.2.1.later HX.out.2.2.2
  have hx3 : SoW w3 w.heap.size (.slice Ax nx cx) zx := ⟨own_lower' HX.out.2.2.1.out HB1.out.size, fun z hz => own_lower' (HX.out.2.2.1.at_ z hz) HB1.out.size⟩
  have hlh := hl3.holds HL1.out.1
  rw [HL1.out.2.1] at hlh
  have hxh := hx3.holds HX.out.1
  rw [HX.out.2.1] at hxh
  have hxc := hx3.caps HX.out.1
  have hxn : (spansOf m).length = nx := by rw [← HX.out.2.1, List.length_map, HX.out.1]
  have hln : (rulesOf cs).length = nl := by rw [← HL1.out.2.1, List.length_map, HL1.out.1]
  have hfx : Fits nx cx (spansOf m) := fits_few hxn hxc.1 hxc.2 (few_of m)
  have hok := ok_rules cs
  obtain ⟨ls, hls⟩ : ∃ ls, rulesOf cs = ls := ⟨_, rfl⟩
  rw [hls] at hlh hln hok
  obtain ⟨xs, hxs⟩ : ∃ xs, spansOf m = xs := ⟨_, rfl⟩
  rw [hxs] at hxh hxn hfx
  obtain ⟨k, hk⟩ : ∃ k, whichM ls xs num = k := ⟨_, rfl⟩
  obtain ⟨lx, hlx⟩ : ∃ k, lenM xs = k := ⟨_, rfl⟩
  have hkb := idx_lt (fun row => allM row xs num) ls
  have hkb2 : -1 ≤ k ∧ k < (nl : Int) := by rw [← hk, ← hln]; exact hkb
  have HWH : Hid (∀ W, Below w3.heap.size w3 W → Calls Tryd.prog 13 #[.slice Al nl cl, .slice Ax nx cx, .int .u64 (num : Int)] W fun e w' => e = .returned (.int .i64 k) ∧ Below w3.heap.size w3 w') := Lib.hid fun W hW => by
    rw [← hk]
    exact (which_any Al ls nl cl Ax xs nx cx num W hln hok.1 (hlh.later hW) hfx (hxh.later hW)).mono fun e w' ⟨he, hb⟩ => ⟨he, hW.trans (hb.mono hW.size)⟩
  have HROW : Hid (∀ W, Below w3.heap.size w3 W → ∀ i, i < nl → ∃ b off B c, Al = some ⟨b, off, none⟩ ∧ W.cell? ⟨b, off + i, none⟩ = some (.slice B (ls.getD i []).length c) ∧ HoldsR W.heap.size W B (ls.getD i [])) := Lib.hid fun W hW i hi => by
    obtain ⟨b, off, e, hb, hc⟩ := (hlh.later hW) (by omega)
    obtain ⟨B, c, h1, h2⟩ := hc i (by omega)
    exact ⟨b, off, B, c, e, h1, h2⟩
  have HALL : Hid (∀ W, Below w3.heap.size w3 W → ∀ i, i < nl → ∀ B c, HoldsR W.heap.size W B (ls.getD i []) → Calls Tryd.prog 12 #[.slice B (ls.getD i []).length c, .slice Ax nx cx, .int .u64 (num : Int)] W fun e w' => e = .returned (.bool (allM (ls.getD i []) xs num)) ∧ Below w3.heap.size w3 w') := Lib.hid fun W hW i hi B c hB => by
    obtain ⟨h1, h2⟩ := hok.1.2 i (by omega)
    exact (all_any B (ls.getD i []) _ c Ax xs nx cx num W rfl h1 h2 hB hfx (hxh.later hW)).mono fun e w' ⟨he, hb⟩ => ⟨he, hW.trans (hb.mono hW.size)⟩
  have HHO : Hid (∀ W, Below w3.heap.size w3 W → ∀ i, i < nl → ∀ j, j < (ls.getD i []).length → Calls Tryd.prog 14 #[.agg (ruCells ((ls.getD i []).getD j ru0)), .slice Ax nx cx, .int .u64 (num : Int)] W fun e w' => e = .returned (.bool (holdsM ((ls.getD i []).getD j ru0) xs num)) ∧ Below w3.heap.size w3 w') := Lib.hid fun W hW i hi j hj => by
    obtain ⟨h1, h2⟩ := hok.1.2 i (by omega)
    exact (holds_any ((ls.getD i []).getD j ru0) Ax xs nx cx num W hfx (h2 j hj) (hxh.later hW)).mono fun e w' ⟨he, hb⟩ => ⟨he, hW.trans (hb.mono hW.size)⟩
  have HRL : Hid (∀ i, i < nl → (ls.getD i []).length ≤ 9223372036854775807) := Lib.hid fun i hi => (hok.1.2 i (by omega)).1
  have HF1 : Hid (∀ i, i < nl → allM (ls.getD i []) xs num = true → 0 ≤ k ∧ k ≤ (i : Int)) := Lib.hid fun i hi h => by rw [← hk]; exact idx_first (p := fun row => allM row xs num) [] (by omega) h
  have HF2 : Hid (∀ i : Nat, k = (i : Int) → allM (ls.getD i []) xs num = true) := Lib.hid fun i h => idx_is (p := fun row => allM row xs num) (l := ls) [] (by rw [← h]; exact hk)
  have HXL : Hid (∀ W, Below w3.heap.size w3 W → Calls Tryd.prog 19 #[.slice Ax nx cx] W fun e w' => e = .returned (.int .i64 lx) ∧ Below w3.heap.size w3 w') := Lib.hid fun W hW => by
    rw [← hlx]
    exact (len_any Ax xs nx cx W hxn hxc.1 hxc.2 (hxh.later hW)).mono fun e w' ⟨he, hb⟩ => ⟨he, hW.trans (hb.mono hW.size)⟩
  have HBK : Hid (∀ W, Below w3.heap.size w3 W → ∀ A n cap zs, zs.length = n → zs.map (fun z => z.1) = xs.reverse → SoW W w.heap.size (.slice A n cap) zs →
      (∀ W', Below W.heap.size W W' → Calls Tryd.prog 13 #[.slice Al nl cl, .slice A n cap, .int .u64 (num : Int)] W' fun e w' => e = .returned (.int .i64 k) ∧ Below W.heap.size W w') ∧
      (∀ W', Below W.heap.size W W' → Calls Tryd.prog 19 #[.slice A n cap] W' fun e w' => e = .returned (.int .i64 lx) ∧ Below W.heap.size W w')) := Lib.hid fun W hW A n cap zs hz1 hz2 hz3 => by
    have hh := hz3.holds hz1
    rw [hz2] at hh
    have hcc := hz3.caps hz1
    have hn' : xs.reverse.length = n := by rw [← hz2, List.length_map, hz1]
    have hfb : Fits n cap xs.reverse := fits_few hn' hcc.1 hcc.2 (fun s hs => few_of m s (by rw [hxs]; exact List.mem_reverse.1 hs))
    have hlW := hlh.later hW
    refine ⟨fun W' hW' => ?_, fun W' hW' => ?_⟩
    · have := which_any Al ls nl cl A xs.reverse n cap num W' hln hok.1 (hlW.later hW') hfb (hh.later hW')
      rw [which_rev, hk] at this
      exact this.mono fun e w' ⟨he, hb⟩ => ⟨he, hW'.trans (hb.mono hW'.size)⟩
    · have := len_any A xs.reverse n cap W' hn' hcc.1 hcc.2 (hh.later hW')
      rw [len_rev, hlx] at this
      exact this.mono fun e w' ⟨he, hb⟩ => ⟨he, hW'.trans (hb.mono hW'.size)⟩
  have HZX : Hid (zx.length = nx ∧ zx.map (fun z => z.1) = xs) := Lib.hid ⟨HX.out.1, by rw [← hxs]; exact HX.out.2.1⟩
  have HX3 := Lib.hid hx3
  have HB3 := Lib.hid hb3
  have d1 : decide (k < -1) = false := by simp; omega
  have d2 : decide ((nl : Int) ≤ k) = false := by simp; omega
  clear hb3 hl3 hx3 hlh hxh hxc hxn hln hfx hok hls hxs hk hlx hkb HX HL1 HB1 HS1 HR0
  go_wp2_with fail
  refine (HWH.out _ (Below.refl _ _)).mono ?_
  rintro e w4 ⟨rfl, hb4⟩
  have HB4 := Lib.hid hb4
  clear hb4
  go_wp2_with fail
  go_loopw [10] (fun iv wr => ∃ i : Nat, iv = .int .i64 (i : Int) ∧ i ≤ nl ∧ Hid (Below w3.heap.size w3 wr)) (fun iv _ => nl - (intOf iv).toNat)
  case atStart => exact ⟨0, rfl, by omega, HB4⟩
  case round =>
    obtain ⟨i, rfl, hi, HB⟩ := hrel
    by_cases hlt : i < nl
    · have ti : decide ((i : Int) < (nl : Int)) = true := by simp; omega
      obtain ⟨row, hrow⟩ : ∃ row, ls.getD i [] = row := ⟨_, rfl⟩
      obtain ⟨nr, hnr⟩ : ∃ x, row.length = x := ⟨_, rfl⟩
      have hnrb : nr ≤ 9223372036854775807 := by rw [← hnr, ← hrow]; exact HRL.out i hlt
      have HNR := Lib.hid hnr
      have HRW := Lib.hid hrow
      have HB5 : Hid (Below w3.heap.size w3 wr ∧ True = ((row.take 0).all fun r => holdsM r xs num)) := Lib.hid ⟨HB.out, by simp⟩
      clear HB4 hrow hnr
      go_wp2_with fail
      go_loopw [11, 12] (fun hv jv wr => ∃ (j : Nat) (q : Bool), hv = .bool q ∧ jv = .int .i64 (j : Int) ∧ j ≤ nr ∧ Hid (Below w3.heap.size w3 wr ∧ q = ((row.take j).all fun r => holdsM r xs num))) (fun _ jv _ => nr - (intOf jv).toNat)
      case atStart => exact ⟨0, true, rfl, rfl, by omega, Lib.hid ⟨HB5.out.1, by simp⟩⟩
      case round =>
        obtain ⟨j, q, rfl, rfl, hj, HQ⟩ := hrel
        clear HB5 HB
        obtain ⟨b, off, B, c, rfl, hc, hB⟩ := HROW.out wr HQ.out.1 i hlt
        rw [HRW.out, HNR.out] at hc
        rw [HRW.out] at hB
        by_cases hjl : j < nr
        · have tj : decide ((j : Int) < (nr : Int)) = true := by simp; omega
          obtain ⟨v, hv⟩ : ∃ v, holdsM (row.getD j ru0) xs num = v := ⟨_, rfl⟩
          have hcall := HHO.out wr HQ.out.1 i hlt j (by rw [HRW.out, HNR.out]; exact hjl)
          rw [HRW.out, hv] at hcall
          obtain ⟨g, o, rfl, _, hca⟩ := hB (by rw [HNR.out]; omega)
          obtain ⟨a0, a1, a2, a3⟩ := hca j (by rw [HNR.out]; exact hjl)
          obtain ⟨⟨y0, y1, y2, y3⟩, hy⟩ : ∃ y, row.getD j ru0 = y := ⟨_, rfl⟩
          rw [hy] at a0 a1 a2 a3 hcall
          unfold ruCells at hcall
          dsimp only at a0 a1 a2 a3 hcall
          have HCALL := Lib.hid hcall
          have HNX : Hid (((row.take (j + 1)).all fun r => holdsM r xs num) = (q && v)) := Lib.hid (by rw [take_all (by rw [HNR.out]; exact hjl), hv, ← HQ.out.2])
          clear hB hca hy hcall hv
          cases q with
          | false =>
            go_wp2_with fail
            go_roundw
            case rel => exact ⟨j + 1, false, rfl, by simp, by omega, Lib.hid ⟨HQ.out.1, by rw [HNX.out]; rfl⟩⟩
            case measure => simp [intOf]; omega
          | true =>
            go_wp2_with fail
            refine HCALL.out.mono ?_
            rintro e w5 ⟨rfl, hb5⟩
            have HB6 := Lib.hid hb5
            clear hb5 a0 a1 a2 a3 hc
            go_wp2_with fail
            go_roundw
            case rel => exact ⟨j + 1, v, rfl, by simp, by omega, Lib.hid ⟨HB6.out, by rw [HNX.out]; rfl⟩⟩
            case measure => simp [intOf]; omega
        · have hje : j = nr := by omega
          subst hje
          have tj : decide ((j : Int) < (j : Int)) = false := by simp
          have hall := HALL.out wr HQ.out.1 i hlt B c (by rw [HRW.out]; exact hB)
          rw [HRW.out, HNR.out] at hall
          have hqa : allM row xs num = q := by
            have := HQ.out.2
            rw [List.take_of_length_le (by rw [HNR.out]; exact Nat.le_refl _)] at this
            exact this.symm
          rw [hqa] at hall
          have HALLW := Lib.hid hall
          have HQ1 : Hid (q = true → 0 ≤ k ∧ k ≤ (i : Int)) := Lib.hid fun h => HF1.out i hlt (by rw [HRW.out, hqa]; exact h)
          have HQ2 : Hid (k = (i : Int) → q = true) := Lib.hid fun h => by rw [← hqa, ← HRW.out]; exact HF2.out i h
          clear hB hall hqa hjl
          cases q with
          | true =>
            have hk1 := HQ1.out rfl
            have e1 : decide (k < 0) = false := by simp; omega
            have e2 : decide ((i : Int) < k) = false := by simp; omega
            obtain ⟨bq, hbq⟩ : ∃ bq, ((i : Int) == k) = bq := ⟨_, rfl⟩
            clear hk1
            cases bq with
            | true =>
              go_wp2_with fail
              refine HALLW.out.mono ?_
              rintro e w5 ⟨rfl, hb5⟩
              have HB6 := Lib.hid hb5
              clear hb5 hc
              go_wp2_with fail
              go_roundw
              case rel => exact ⟨i + 1, by simp, by omega, HB6⟩
              case measure => simp [intOf]; omega
            | false =>
              go_wp2_with fail
              refine HALLW.out.mono ?_
              rintro e w5 ⟨rfl, hb5⟩
              have HB6 := Lib.hid hb5
              clear hb5 hc
              go_wp2_with fail
              go_roundw
              case rel => exact ⟨i + 1, by simp, by omega, HB6⟩
              case measure => simp [intOf]; omega
          | false =>
            have hbq : ((i : Int) == k) = false := by
              rw [Bool.eq_false_iff]
              intro h
              have := HQ2.out (eq_of_beq h).symm
              cases this
            go_wp2_with fail
            refine HALLW.out.mono ?_
            rintro e w5 ⟨rfl, hb5⟩
            have HB6 := Lib.hid hb5
            clear hb5 hc
            go_wp2_with fail
            go_roundw
            case rel => exact ⟨i + 1, by simp, by omega, HB6⟩
            case measure => simp [intOf]; omega
    · have hie : i = nl := by omega
      subst hie
      have ti : decide ((i : Int) < (i : Int)) = false := by simp
      obtain ⟨p0, hp0⟩ : ∃ p0 : Int, (nx : Int) - 1 = p0 := ⟨_, rfl⟩
      have HP0 : Hid (p0 = (nx : Int) - 1 - ((0 : Nat) : Int)) := Lib.hid (by omega)
      have HST : Hid (∃ zs : List Sz, zs.length = 0 ∧ zs = zx.reverse.take 0 ∧ SoW wr w.heap.size (.slice none 0 0) zs ∧ Below w3.heap.size w3 wr ∧ ∀ g, (Value.slice none 0 0).ownBlock = some g → w3.heap.size ≤ g) := Lib.hid ⟨[], rfl, rfl, SoW.nil _ _, HB.out, fun g hg => by simp [Value.ownBlock] at hg⟩
      clear hlt HB HB4
      go_wp2_with fail
      go_loopw [13, 14] (fun bv pv wr => ∃ (A : Option Addr) (t cap : Nat) (p : Int), bv = .slice A t cap ∧ pv = .int .i64 p ∧ t ≤ nx ∧ -1 ≤ p ∧ p ≤ 8 ∧ Hid (p = (nx : Int) - 1 - (t : Int)) ∧ Hid (∃ zs : List Sz, zs.length = t ∧ zs = zx.reverse.take t ∧ SoW wr w.heap.size (.slice A t cap) zs ∧ Below w3.heap.size w3 wr ∧ ∀ g, (Value.slice A t cap).ownBlock = some g → w3.heap.size ≤ g)) (fun _ pv _ => (intOf pv + 1).toNat)
      case atStart => exact ⟨none, 0, 0, p0, rfl, rfl, by omega, by omega, by omega, HP0, HST⟩
      case round =>
        obtain ⟨A, t, cap, p, rfl, rfl, ht, hp1, hp2, HP, HZ⟩ := hrel
        clear HST HP0 hp0
        by_cases hpos : 0 ≤ p
        · obtain ⟨q, rfl⟩ : ∃ q : Nat, p = (q : Int) := ⟨p.toNat, by omega⟩
          have tp : decide ((0 : Int) ≤ (q : Int)) = true := by simp
          have hqn : q < nx := by have := HP.out; omega
          have hx := HX3.out
          obtain ⟨zs, hz1, hz2, hz3, hz4, hz5⟩ := HZ.out
          have hxW := hx.later hz4
          have ho := hxW.out
          rw [HZX.out.1] at ho
          obtain ⟨gx, cx', e, _, hgx⟩ := ho.form (by omega)
          injection e with e1 _ e2
          subst e1 e2
          have hcell : ∀ kk, kk < 10 → wr.cell? ⟨gx, q * 10 + kk, none⟩ = (szCells [zx.getD q sz0])[kk]? := fun kk hkk => by rw [ho.cellAt _ (by omega), szCells_at (by rw [HZX.out.1]; exact hqn) kk hkk]
          have hatt := hxW.at_ (zx.getD q sz0) (by rw [getD_get (by rw [HZX.out.1]; exact hqn)]; exact List.getElem_mem _)
          have hnx2 : zx.reverse.take (t + 1) = zx.reverse.take t ++ [zx.getD q sz0] := by
            have hlt' : t < zx.reverse.length := by rw [List.length_reverse, HZX.out.1]; have := HP.out; omega
            rw [List.take_add_one, List.getElem?_eq_getElem hlt', getD_get (by rw [HZX.out.1]; exact hqn), List.getElem_reverse]
            congr 2
            simp only [Option.toList, List.cons.injEq, and_true]
            congr 1
            rw [HZX.out.1]
            have := HP.out; omega
          obtain ⟨⟨⟨y0, y1, y2, y3, y4, y5, y6, y7, y8, y9⟩, yB, yc⟩, hy⟩ : ∃ z, zx.getD q sz0 = z := ⟨_, rfl⟩
          rw [hy] at hcell hatt hnx2
          dsimp only at hatt
          obtain ⟨na, hna⟩ : ∃ na, y8.length = na := ⟨_, rfl⟩
          have c0 : wr.cell? ⟨gx, q * 10, none⟩ = some (.int .u64 (y0 : Int)) := hcell 0 (by omega)
          have c1 : wr.cell? ⟨gx, q * 10 + 1, none⟩ = some (.int .u64 (y1 : Int)) := hcell 1 (by omega)
          have c2 : wr.cell? ⟨gx, q * 10 + 2, none⟩ = some (.int .u64 (y2 : Int)) := hcell 2 (by omega)
          have c3 : wr.cell? ⟨gx, q * 10 + 3, none⟩ = some (.int .u64 (y3 : Int)) := hcell 3 (by omega)
          have c4 : wr.cell? ⟨gx, q * 10 + 4, none⟩ = some (.string y4) := hcell 4 (by omega)
          have c5 : wr.cell? ⟨gx, q * 10 + 5, none⟩ = some (.int .i64 y5) := hcell 5 (by omega)
          have c6 : wr.cell? ⟨gx, q * 10 + 6, none⟩ = some (.int .i64 y6) := hcell 6 (by omega)
          have c7 : wr.cell? ⟨gx, q * 10 + 7, none⟩ = some (.bool y7) := hcell 7 (by omega)
          have c8 : wr.cell? ⟨gx, q * 10 + 8, none⟩ = some (.slice yB na yc) := hna ▸ hcell 8 (by omega)
          have c9 : wr.cell? ⟨gx, q * 10 + 9, none⟩ = some (.int .u64 (y9 : Int)) := hcell 9 (by omega)
          obtain ⟨n2, hn2⟩ : ∃ x, wr.heap.size = x := ⟨_, rfl⟩
          have hbx := box_below (W := wr) (.cells #[.int .u64 (y0 : Int), .int .u64 (y1 : Int), .int .u64 (y2 : Int), .int .u64 (y3 : Int), .string y4, .int .i64 y5, .int .i64 y6, .bool y7, .slice yB na yc, .int .u64 (y9 : Int)] 36)
          have hso := hz3.later hbx
          have hout := hso.out
          rw [hz1] at hout
          have HOUT := Lib.hid hout
          have HSO := Lib.hid hso
          have HAT := Lib.hid (own_later' hatt hbx)
          have HNEWS := Lib.hid (one_at wr n2 hn2 #[.int .u64 (y0 : Int), .int .u64 (y1 : Int), .int .u64 (y2 : Int), .int .u64 (y3 : Int), .string y4, .int .i64 y5, .int .i64 y6, .bool y7, .slice yB na yc, .int .u64 (y9 : Int)] 36)
          have HSZ : Hid ((wr.alloc (.cells #[.int .u64 (y0 : Int), .int .u64 (y1 : Int), .int .u64 (y2 : Int), .int .u64 (y3 : Int), .string y4, .int .i64 y5, .int .i64 y6, .bool y7, .slice yB na yc, .int .u64 (y9 : Int)] 36)).heap.size = n2 + 1) := Lib.hid (by rw [World.size_alloc, hn2])
          have hs3 := hz4.size
          have hs4 := HB3.out.size
          have HBASE : Hid (w.heap.size ≤ n2 + 1 ∧ w3.heap.size ≤ n2 + 1) := Lib.hid ⟨by omega, by omega⟩
          have HB5 : Hid (Below w3.heap.size w3 (wr.alloc (.cells #[.int .u64 (y0 : Int), .int .u64 (y1 : Int), .int .u64 (y2 : Int), .int .u64 (y3 : Int), .string y4, .int .i64 y5, .int .i64 y6, .bool y7, .slice yB na yc, .int .u64 (y9 : Int)] 36))) := Lib.hid (hz4.alloc hz4.size _)
          have HZ1 := Lib.hid hz1
          have HZ2 := Lib.hid hz2
          have HZ5 := Lib.hid hz5
          have HNX := Lib.hid hnx2
          have HNA := Lib.hid hna
          obtain ⟨q2, hq2⟩ : ∃ q2 : Int, (q : Int) - 1 = q2 := ⟨_, rfl⟩
          have HQ2 := Lib.hid hq2
          have hq2b : -1 ≤ q2 ∧ q2 ≤ 8 := by omega
          clear hx hxW ho hcell hatt hnx2 hy hso hout hbx hz1 hz2 hz3 hz4 hz5 hs3 hs4 hna hgx
          go_wp2_with (at_builtin; refine wpList_append_lies _ rfl (.tmp 96) (.tmp 101) 28 rfl w.heap.size 36 i1 (.agg zeros26) 10 104 Tryd.underlying28 ha0 ha1 ha2 ha3 rfl (by decide) (.slice A t cap) t (szCells zs) rfl HOUT.out ⟨n2, 0, none⟩ 1 1 [.int .u64 (y0 : Int), .int .u64 (y1 : Int), .int .u64 (y2 : Int), .int .u64 (y3 : Int), .string y4, .int .i64 y5, .int .i64 y6, .bool y7, .slice yB na yc, .int .u64 (y9 : Int)] rfl rfl HNEWS.out (by simp [Value.oneCell']) (by decide) (by unfold maxLen; omega) (by omega) (by rw [HSZ.out]; exact HBASE.out.1) (n2 + 1) HSZ.out ?_; intro g2 cc2 w5 hown3 hgr3 hor3 hlt3; have hso3 := HSO.out.grown (more := [(⟨y0, y1, y2, y3, y4, y5, y6, y7, y8, y9⟩, yB, yc)]) (fun q hq => by rw [List.mem_singleton.1 hq]; exact HAT.out) hgr3 (by rw [HZ1.out]; simpa [szCells, spCells, HNA.out] using hown3); have HSO3 := Lib.hid hso3; have HB6 := Lib.hid (HB5.out.grown hgr3 (by rw [HSZ.out]; exact HBASE.out.2) (fun q hq => HZ5.out q hq)); have HG6 : Hid (∀ g, (Value.slice (some ⟨g2, 0, none⟩) (t + 1) cc2).ownBlock = some g → w3.heap.size ≤ g) := Lib.hid (fun g hg => by have e : g2 = g := (by simpa [Value.ownBlock] using hg); rcases hor3 with h | h; (exact e ▸ HZ5.out _ h); (have := HBASE.out.2; omega)); clear hown3 hgr3 hor3 hlt3 hso3)
          go_roundw
          case rel => exact ⟨some ⟨g2, 0, none⟩, t + 1, cc2, q2, rfl, rfl, by have := HP.out; omega, hq2b.1, hq2b.2, Lib.hid (by have := HP.out; have := HQ2.out; omega), Lib.hid ⟨zs ++ [(⟨y0, y1, y2, y3, y4, y5, y6, y7, y8, y9⟩, yB, yc)], by simp [HZ1.out], by rw [HNX.out, HZ2.out], HSO3.out, HB6.out, HG6.out⟩⟩
          case measure => simp [intOf]; have := HQ2.out; omega
        · have tp : decide ((0 : Int) ≤ p) = false := by simp; omega
          have htn : t = nx := by have := HP.out; omega
          subst htn
          obtain ⟨zs, hz1, hz2, hz3, hz4, hz5⟩ := HZ.out
          have hrev : zs.map (fun z => z.1) = xs.reverse := by
            rw [hz2, List.take_of_length_le (by rw [List.length_reverse, HZX.out.1]; exact Nat.le_refl _), List.map_reverse, HZX.out.2]
          obtain ⟨hw1, hw2⟩ := HBK.out wr hz4 A t cap zs hz1 hrev hz3
          have HW1 := Lib.hid hw1
          have HW2 := Lib.hid hw2
          have HB6 := Lib.hid hz4
          have HEND : Hid (∀ W, Below wr.heap.size wr W → Below w.heap.size w W ∧ Below w3.heap.size w3 W) := Lib.hid fun W hW => by
            have h1 := hz4.trans (hW.mono hz4.size)
            exact ⟨HB3.out.trans (h1.mono HB3.out.size), h1⟩
          have HXL2 : Hid (∀ W, Below wr.heap.size wr W → Calls Tryd.prog 19 #[.slice Ax t cx] W fun e w' => e = .returned (.int .i64 lx) ∧ Below w3.heap.size w3 w') := Lib.hid fun W hW => HXL.out W (HEND.out W hW).2
          have hkk : (k == k) = true := by simp
          have hll : (lx == lx) = true := by simp
          clear hz1 hz2 hz3 hz4 hz5 hrev hw1 hw2 hpos
          go_wp2_with fail
          refine (HK.out _ (HEND.out _ (Below.refl _ _)).1).mono ?_
          rintro e w5 ⟨rfl, hb5⟩
          go_wp2_with fail
          refine (HW1.out _ hb5).mono ?_
          rintro e w6 ⟨rfl, hb6⟩
          clear hb5
          go_wp2_with fail
          refine (HW2.out _ hb6).mono ?_
          rintro e w7 ⟨rfl, hb7⟩
          clear hb6
          go_wp2_with fail
          refine (HXL2.out _ hb7).mono ?_
          rintro e w8 ⟨rfl, hb8⟩
          have HE := Lib.hid (HB3.out.trans (hb8.mono HB3.out.size))
          clear hb7 hb8
          go_wp2_with fail
          go_ret
          exact ⟨rfl, HE.out⟩
namespace PolicyRows
set_option linter.unusedSimpArgs false in
set_option maxRecDepth 100000 in
theorem lifted (os : Os) (started : os.Started) (H : Type) (enc : TypeId × Value → H) :
    ReturnsInHanded {} Tryd.checked os 8 .any (fun w args => (Rows.policyRowsSpec.pre enc Tryd.prog Tryd.f8 [] false w args ∧ laidMetH Tryd.prog laidL w) ∧ sizedMet enc Tryd.prog Tryd.f8 (OpenSpec.ofChange Rows.policyRowsSpec) false w args)
      (Rows.policyRowsSpec.post enc Tryd.prog Tryd.f8 false true false false) := by
  refine returnsInHanded_of_change_and (C := Tryd.checked) (X := fun w _ => laidMetH Tryd.prog laidL w) (fun _ _ _ hh h => h.of_heap hh) own started (by kernel_rfl) Tryd.func8
    (ChangeSpec.witness_shaped (enc := enc) (C := Tryd.checked) (os := os) (X := fun w _ => laidMetH Tryd.prog laidL w) false (World.doorLaid Tryd.prog 400 os) #[.slice none 0 0, .slice none 0 0, .int .u64 0] 8 rfl (World.shaped_of_RefB (by kernel_rfl) (by kernel_rfl)) (by kernel_rfl) (by kernel_rfl) (by kernel_rfl) (door_met os _)) ?_
  intro W base args ds gs before hval0 hW _ _ hL _
  have hS := of_laid hL
  have hval : ∀ (j : Nat) t v, Tryd.f8.params[j]? = some t → args[j]? = some v → Value.okWide Tryd.prog W .any base t v := hval0
  have hW' := hW
  obtain ⟨p, q, hA0, hV, rfl, _, _⟩ := hW
  have hA : DataW.TrodAll enc Tryd.prog W 0 (fun _ => true) true Tryd.f8.params.toList args.toList ds p := hA0
  rw [Tryd.params8] at hA hval
  obtain ⟨v0, vs0, d0, ds0, p0, q0, hargs, rfl, rfl, h0, r0⟩ := trodAll_cons hA
  obtain ⟨v1, vs1, d1, ds1, p1, q1, rfl, rfl, rfl, h1, r1⟩ := trodAll_cons r0
  obtain ⟨v2, vs2, d2, ds2, p2, q2, rfl, rfl, rfl, h2, r2⟩ := trodAll_cons r1
  obtain ⟨rfl, rfl, rfl⟩ := trodAll_nil r2
  obtain rfl : args = #[v0, v1, v2] := by cases args; simp_all
  obtain ⟨rfl, rfl⟩ := trodVars_none hV
  obtain ⟨A0, cs0, cap0, rfl, l0, m0, b0, again0⟩ := arg_bytes (hval 0 22 v0 rfl rfl) h0
  have x0 := arg_extra h0
  obtain ⟨A1, css1, cap1, rfl, l1, m1, e1, b1⟩ := arg_rows (hval 1 23 v1 rfl rfl) h1
  obtain ⟨a2, rfl, rfl, rfl, w2⟩ := open_int Tryd.underlying24 (hval 2 24 v2 rfl rfl) h2
  have k2 := wf_u64 w2
  obtain ⟨n2, rfl⟩ : ∃ n : Nat, a2 = n := ⟨a2.toNat, by omega⟩
  clear hA0 hval0
  simp only [List.append_nil] at hW'
  refine (policyRows_walk A0 cs0 cap0 A1 css1 cap1 n2 W hS b0 b1 (by omega) (by omega)).mono fun e W' ⟨he, hg⟩ => ?_
  subst he
  exact ⟨_, rfl, true_last hW' rfl (by kernel_rfl) Tryd.underlying4 rfl rfl rfl (of_decide_eq_true (by kernel_rfl)) hg⟩

/-- The row. -/
theorem said : Rows.PolicyRowsSaid :=
  OpenClaim.holds_of_wide 8 Tryd.f8 rfl rfl rfl rfl rfl rfl rfl ⟨rfl, rfl, rfl, rfl, rfl⟩ rfl rfl rfl rfl rfl (by kernel_rfl) Tryd.func8 (by kernel_rfl)
    (of_decide_eq_true (by kernel_rfl)) (by unfold Func.isWrapper; first | (rw [if_pos (by decide +kernel)]; kernel_rfl) | (rw [if_neg (by decide +kernel)]; exact ⟨rfl, rfl⟩))
    (fun os started H enc _ => lifted os started H enc)
/-- **PolicyRows, at every input: the card, its listed variables tied to the program's text.** -/
theorem proved : Rows.PolicyRowsCardSaid :=
  Claim7.holds_tied_plain_at .later [] [.data] true Rows.policyRowsCard.stood.harness false
    said (fun _ h => by cases h) (by kernel_rfl) (fun _ h => by cases h) policyRows_row_tie rfl ⟨rfl, rfl⟩ (by kernel_rfl) rfl
    (fun f fn hf hfn => by
      obtain rfl : f = 8 := Option.some.inj ((show Tryd.prog.funcNamed "telemeter/telemeterlaw12.PolicyRows" = some 8 by kernel_rfl).symm.trans hf) |>.symm
      obtain rfl : fn = Tryd.f8 := (Option.some.inj (Tryd.func8.symm.trans hfn)).symm
      exact ⟨by kernel_rfl, fun j t ht => by
        rw [Tryd.params8] at ht
        have hm : t ∈ [22, 23, 24] := by simpa using Array.mem_of_getElem? ht
        have hall : ([22, 23, 24].all fun u => !Tryd.prog.wantsStandIn u) = true := by kernel_rfl
        exact (show Tryd.prog.wantsStandIn t = false by simpa using List.all_eq_true.1 hall t hm)⟩)
    (by kernel_rfl)
end PolicyRows

end Go.Proofs.YtmjbdjcpjaeemaaDoor
