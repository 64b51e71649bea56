/-
  Proved: PolicyBoth returns true for all choices of rows of rules and of spans, and every number: two rows in one hold if both do; the order of rows alone says which is told. No condition but the card's own: policy's table of bounds, tied to the program's text, holds at the start what that text says.
-/
import Derived.Test.YtmjbdjcpjaeemaaDoorPoApp
namespace Go.Proofs.YtmjbdjcpjaeemaaDoor
open Go.ChangeShapes Go.WideShapes Go.ChangeAt Go.RowKit

/-- The first of rows that are own memory, as it lies. -/
theorem RoW.first {W : World} {base n cap : Nat} {A : Option Addr} {zs : List Rz} (h : RoW W base (.slice A n cap) zs) (hn : zs.length = n) (hpos : 0 < n) :
    ∃ go g c row l, A = some ⟨go, 0, none⟩ ∧ go < W.heap.size ∧ row.length = l ∧ (zs.map fun z => z.1).getD 0 [] = row ∧ (zs.map fun z => z.1)[0]? = some row ∧ W.cell? ⟨go, 0, none⟩ = some (.slice (some ⟨g, 0, none⟩) l c) ∧ W.ownsRow base 39 4 (.slice (some ⟨g, 0, none⟩) l c) l (rCells row) := by
  have ho := h.out
  rw [hn] at ho
  obtain ⟨go, cap', e, _, hgo⟩ := ho.form hpos
  injection e with e1 _ e2
  subst e1 e2
  have h0 : 0 < zs.length := by omega
  refine ⟨go, zs[0].2.1, zs[0].2.2, zs[0].1, zs[0].1.length, rfl, hgo, rfl, by simp [List.getD, h0], by simp [h0], (h.cellOf hn h0).1, h.row zs[0] (List.getElem_mem h0)⟩
theorem two_rows (W : World) (n : Nat) (hn : W.heap.size = n) {B1 B2 : Option Addr} {l1 l2 c1 c2 : Nat} {a b : List Ru} (ha : a.length = l1) (hb : b.length = l2) (h1 : HoldsR W.heap.size W B1 a) (h2 : HoldsR W.heap.size W B2 b) :
    HoldsRR (W.alloc (.cells #[.slice B1 l1 c1, .slice B2 l2 c2] 30)).heap.size (W.alloc (.cells #[.slice B1 l1 c1, .slice B2 l2 c2] 30)) (some ⟨n, 0, none⟩) [a, b] := fun _ => by
  subst hn ha hb
  have hk := blk_new W #[.slice B1 a.length c1, .slice B2 b.length c2] 30
  have hx := box_below (W := W) (.cells #[.slice B1 a.length c1, .slice B2 b.length c2] 30)
  refine ⟨W.heap.size, 0, rfl, hk.lt, fun j hj => ?_⟩
  match j, hj with
  | 0, _ => exact ⟨B1, c1, hk.cell 0 rfl, h1.later hx⟩
  | 1, _ => exact ⟨B2, c2, hk.cell 1 rfl, h2.later hx⟩

set_option linter.unusedSimpArgs false in
set_option linter.unusedVariables false in
set_option maxRecDepth 100000 in
set_option maxHeartbeats 4000000 in
theorem policyBoth_walk (A0 : Option Addr) (cs : List UInt8) (cap0 : Nat) (A1 : Option Addr) (ds : List UInt8) (cap1 : Nat) (A2 : Option Addr) (m : List (List UInt8)) (cap2 : Nat) (num : Nat) (w : World) (hM : Most w) (h0 : Holds8 w.heap.size w A0 cs) (h1 : Holds8 w.heap.size w A1 ds) (h2 : HoldsRows w.heap.size w A2 m) (hl0 : cs.length ≤ 9223372036854775807) (hl1 : ds.length ≤ 9223372036854775807) (hl2 : m.length ≤ 9223372036854775807) :
    Calls Tryd.prog 3 #[.slice A0 cs.length cap0, .slice A1 ds.length cap1, .slice A2 m.length cap2, .int .u64 (num : Int)] w fun e w' => e = .returned (.bool true) ∧ Below w.heap.size w w' := by
  obtain ⟨lm, hlm⟩ : ∃ x, m.length = x := ⟨_, rfl⟩
  obtain ⟨lc, hlc⟩ : ∃ x, cs.length = x := ⟨_, rfl⟩
  obtain ⟨ld, hld⟩ : ∃ x, ds.length = x := ⟨_, rfl⟩
  have HK := Lib.hid fun W (h : Below w.heap.size w W) => known_any W (hM.later h)
  have HR0 := Lib.hid (rules_any A0 cs lc cap0 w hlc (by omega) h0)
  have HR1 : Hid (∀ W, Below w.heap.size w W → Calls Tryd.prog 9 #[.slice A1 ld cap1] W fun e w' => ∃ A n cap zs, e = .returned (.slice A n cap) ∧ n ≤ 6 ∧ Hid (zs.length = n ∧ zs.map (fun z => z.1) = rulesOf ds ∧ RoW w' W.heap.size (.slice A n cap) zs ∧ Below W.heap.size W w')) := Lib.hid fun W hW => rules_any A1 ds ld cap1 W hld (by omega) (h1.later hW)
  have HS2 : Hid (∀ W, Below w.heap.size w W → Calls Tryd.prog 11 #[.slice A2 lm cap2] W fun e w' => ∃ A n cap zs, e = .returned (.slice A n cap) ∧ n ≤ 8 ∧ Hid (zs.length = n ∧ zs.map (fun z => z.1) = spansOf m ∧ SoW w' W.heap.size (.slice A n cap) zs ∧ Below W.heap.size W w')) := Lib.hid fun W hW => spans_any A2 m lm cap2 W hlm (by omega) (h2.later hW)
  rw [hlm, hlc, hld]
  clear hM h0 h1 h2 hlc hld
  go_enter Tryd.func3, Tryd.ntmps3
  go_wp2_with fail
  refine HR0.out.mono ?_
  rintro e w1 ⟨Aa, na, ka, za, rfl, hna, HA1⟩
  have HB1 : Hid (Below w.heap.size w w1) := Lib.hid HA1.out.2.2.2
  go_wp2_with fail
  refine (HR1.out _ HB1.out).mono ?_
  rintro e w2 ⟨Ab, nb, kb, zb, rfl, hnb, HB2'⟩
  have HB2 : Hid (Below w.heap.size w w2) := Lib.hid (HB1.out.trans (HB2'.out.2.2.2.mono HB1.out.size))
  have HA2 : Hid (RoW w2 w.heap.size (.slice Aa na ka) za) := Lib.hid (HA1.out.2.2.1.later HB2'.out.2.2.2)
  by_cases hbad : na = 0 ∨ nb = 0 ∨ 10 < lm
  · rcases Nat.eq_zero_or_pos na with e1 | e1
    · have t1 : ((na : Int) == 0) = true := by simp; omega
      clear hbad e1
      go_wp2_with fail
      refine (HK.out _ HB2.out).mono ?_
      rintro e w3 ⟨rfl, hb3⟩
      have HE := Lib.hid (HB2.out.trans (hb3.mono HB2.out.size))
      clear hb3
      go_wp2_with fail
      go_ret
      exact ⟨rfl, HE.out⟩
    · have t1 : ((na : Int) == 0) = false := by simp; omega
      rcases Nat.eq_zero_or_pos nb with e2 | e2
      · have t2 : ((nb : Int) == 0) = true := by simp; omega
        clear hbad e1 e2
        go_wp2_with fail
        refine (HK.out _ HB2.out).mono ?_
        rintro e w3 ⟨rfl, hb3⟩
        have HE := Lib.hid (HB2.out.trans (hb3.mono HB2.out.size))
        clear hb3
        go_wp2_with fail
        go_ret
        exact ⟨rfl, HE.out⟩
      · have t2 : ((nb : Int) == 0) = false := by simp; omega
        have t3 : decide ((10 : Int) < (lm : Int)) = true := by simp; omega
        have t3n : decide (10 < lm) = true := by simp; omega
        clear hbad e1 e2
        go_wp2_with fail
        refine (HK.out _ HB2.out).mono ?_
        rintro e w3 ⟨rfl, hb3⟩
        have HE := Lib.hid (HB2.out.trans (hb3.mono HB2.out.size))
        clear hb3
        go_wp2_with fail
        go_ret
        exact ⟨rfl, HE.out⟩
  have t1 : ((na : Int) == 0) = false := by simp; omega
  have t2 : ((nb : Int) == 0) = false := by simp; omega
  have t3 : decide ((10 : Int) < (lm : Int)) = false := by simp; omega
  have t3n : decide (10 < lm) = false := by simp; omega
  have hpa : 0 < na := by omega
  have hpb : 0 < nb := by omega
  clear hbad
  go_wp2_with fail
  refine (HS2.out _ HB2.out).mono ?_
  rintro e w3 ⟨Ax, nx, cx, zx, rfl, hnx, HX⟩
  have hb23 := HX.out.2.2.2
  have hA3 := HA2.out.later hb23
  have hB3 := HB2'.out.2.2.1.later hb23
  obtain ⟨ga, g0, c0, ra, la, rfl, hga, hla, hra, hra2, hca, hoa⟩ := hA3.first HA1.out.1 hpa
  obtain ⟨gb, g1, c1, rb, lb, rfl, hgb, hlb, hrb, hrb2, hcb, hob⟩ := hB3.first HB2'.out.1 hpb
  rw [HA1.out.2.1] at hra hra2
  rw [HB2'.out.2.1] at hrb hrb2
  have hma : ra ∈ rulesOf cs := List.mem_of_getElem? hra2
  have hmb : rb ∈ rulesOf ds := List.mem_of_getElem? hrb2
  have hia := (ok_rules cs).2 ra hma
  have hib := (ok_rules ds).2 rb hmb
  have hla6 : la ≤ 6 := by
    have h3 : ra.length ≤ sumM (rulesOf cs) := le_sum (l := (rulesOf cs).map List.length) (List.mem_map_of_mem (f := List.length) hma)
    have h4 := (rulesN_ok cs (min 6 (cs.length / 3))).2.1
    unfold rulesOf at h3
    omega
  have hlb6 : lb ≤ 6 := by
    have h3 : rb.length ≤ sumM (rulesOf ds) := le_sum (l := (rulesOf ds).map List.length) (List.mem_map_of_mem (f := List.length) hmb)
    have h4 := (rulesN_ok ds (min 6 (ds.length / 3))).2.1
    unfold rulesOf at h3
    omega
  obtain ⟨n3, hn3⟩ : ∃ x, w3.heap.size = x := ⟨_, rfl⟩
  have hb3 : Below w.heap.size w w3 := HB2.out.trans (hb23.mono HB2.out.size)
  have hsz3 : w.heap.size ≤ n3 := by have := hb3.size; omega
  have hxc := HX.out.2.2.1.caps HX.out.1
  have hxh := HX.out.2.2.1.holds HX.out.1
  rw [HX.out.2.1] at hxh
  have hxn : (spansOf m).length = nx := by rw [← HX.out.2.1, List.length_map, HX.out.1]
  have hfx : Fits nx cx (spansOf m) := fits_few hxn hxc.1 hxc.2 (few_of m)
  have hha := holds_own hla hoa
  have hhb := holds_own hlb hob
  rw [hn3] at hxh hha hhb hga hgb
  have HCA : Hid (∀ W, Below n3 w3 W → W.cell? ⟨ga, 0, none⟩ = some (.slice (some ⟨g0, 0, none⟩) la c0) ∧ W.cell? ⟨gb, 0, none⟩ = some (.slice (some ⟨g1, 0, none⟩) lb c1)) := Lib.hid fun W hW => ⟨(hW.cell (p := ⟨ga, 0, none⟩) hga).trans hca, (hW.cell (p := ⟨gb, 0, none⟩) hgb).trans hcb⟩
  have HOA := Lib.hid hoa
  have HOB := Lib.hid (own_lower' hob HB1.out.size)
  have HHA := Lib.hid hha
  have HHB := Lib.hid hhb
  have HXH := Lib.hid hxh
  have HFX := Lib.hid hfx
  have HLA := Lib.hid hla
  have HLB := Lib.hid hlb
  have HIA := Lib.hid (show ∀ i, i < la → In64 (ra.getD i ru0).a from fun i hi => hia i (by omega))
  have HIB := Lib.hid (show ∀ i, i < lb → In64 (rb.getD i ru0).a from fun i hi => hib i (by omega))
  have HB3 := Lib.hid hb3
  have HSZ3 := Lib.hid hsz3
  have HN3 := Lib.hid hn3
  have HBW2 : Hid (w.heap.size ≤ w2.heap.size) := Lib.hid HB2.out.size
  obtain ⟨k0, k1⟩ := HCA.out w3 (Below.refl _ _)
  obtain ⟨lab, hlab⟩ : ∃ x, la + lb = x := ⟨_, rfl⟩
  have HLAB := Lib.hid hlab
  have hlab12 : lab ≤ 12 := by omega
  clear hb23 hA3 hB3 hga hgb hla hlb hra hra2 hrb hrb2 hca hcb hoa hob hma hmb hia hib hb3 hsz3 hn3 hxc hxh hxn hfx hha hhb HX HA1 HB2' HA2 HB2 HB1 HS2 HR1 HR0 hlab
  go_wp2_with (first
    | (at_builtin; refine app_rules rfl (.tmp 37) (.tmp 40) rfl n3 w.heap.size none (some ⟨g0, 0, none⟩) 0 0 la c0 la (Nat.zero_add _) [] ra rfl (World.ownsRow_nil _ _ _ _) rfl HOA.out (by omega) (by rw [HN3.out]; exact Nat.le_refl _) ?_; intro Ay cy w4 hso4 hgr4 hwh4; have hgb4 : Below n3 w3 w4 := ⟨hgr4.os, hgr4.tape, hgr4.output, hgr4.size, fun j hj => hgr4.block j (by rw [HN3.out]; exact hj) (by simp [Value.ownBlock])⟩; have HB4 := Lib.hid hgb4; have HY4 := Lib.hid hso4; have HOB4 : Hid (w4.ownsRow w.heap.size 39 4 (.slice (some ⟨g1, 0, none⟩) lb c1) lb (rCells rb)) := Lib.hid (own_later' HOB.out (HN3.out ▸ hgb4)); have HSZ4 : Hid (n3 ≤ w4.heap.size) := Lib.hid (by have := hgr4.size; have := HN3.out; omega); obtain ⟨k0, k1⟩ := HCA.out w4 hgb4; clear hso4 hgr4 hgb4 hwh4)
    | (at_builtin; refine app_rules rfl (.tmp 42) (.tmp 45) rfl n3 w.heap.size Ay (some ⟨g1, 0, none⟩) la cy lb c1 lab HLAB.out ([] ++ ra) rb rfl HY4.out rfl HOB4.out (by omega) HSZ4.out ?_; intro Av cv w6 hso6 hgr6 hwh6; have hgb6 : Below n3 w3 w6 := HB4.out.grown hgr6 HSZ4.out (fun q hq => (HY4.out.lt q hq).1); have HB6 := Lib.hid hgb6; have HV6 := Lib.hid hso6; obtain ⟨k0, k1⟩ := HCA.out w6 hgb6; clear hso6 hgr6 hwh6 hgb6))
  obtain ⟨n6, hn6⟩ : ∃ x, w6.heap.size = x := ⟨_, rfl⟩
  have hvh := holds_own (show (([] : List Ru) ++ ra ++ rb).length = lab by simp [HLA.out, HLB.out, HLAB.out]) HV6.out
  rw [hn6] at hvh
  have HVH := Lib.hid hvh
  have HN36 : Hid (n3 ≤ n6) := Lib.hid (by have h1 := HB6.out.size; have h2 := HN3.out; omega)
  obtain ⟨one, hone⟩ : ∃ b, allM ra (spansOf m) num = b := ⟨_, rfl⟩
  obtain ⟨two, htwo⟩ : ∃ b, allM rb (spansOf m) num = b := ⟨_, rfl⟩
  obtain ⟨kw, hkw⟩ : ∃ k, (if one then (0 : Int) else if two then 1 else -1) = k := ⟨_, rfl⟩
  have hboth : allM ([] ++ ra ++ rb) (spansOf m) num = (one && two) := by rw [List.nil_append, all_append, hone, htwo]
  have hwh : whichM [ra, rb] (spansOf m) num = kw := by rw [which_two, hone, htwo, hkw]
  have HST : Hid (∀ W, Below n6 w6 W → Below n3 w3 W ∧ n6 ≤ W.heap.size) := Lib.hid fun W hW => ⟨HB6.out.trans (hW.mono HN36.out), by have := hW.size; omega⟩
  have HXW : Hid (∀ W, Below n6 w6 W → HoldsR W.heap.size W (some ⟨g0, 0, none⟩) ra ∧ HoldsR W.heap.size W (some ⟨g1, 0, none⟩) rb ∧ HoldsS W.heap.size W Ax (spansOf m) ∧ HoldsR W.heap.size W Av ([] ++ ra ++ rb)) := Lib.hid fun W hW => by
    obtain ⟨h1, h2⟩ := HST.out W hW
    have h3 := HN36.out
    exact ⟨(HHA.out.below h1).mono (by omega), (HHB.out.below h1).mono (by omega), (HXH.out.below h1).mono (by omega), (HVH.out.below hW).mono h2⟩
  have H1 : Hid (∀ W, Below n6 w6 W → Calls Tryd.prog 12 #[.slice (some ⟨g0, 0, none⟩) la c0, .slice Ax nx cx, .int .u64 (num : Int)] W fun e w' => e = .returned (.bool one) ∧ Below n6 w6 w') := Lib.hid fun W hW => by
    obtain ⟨h1, h2, h3, h4⟩ := HXW.out W hW
    rw [← hone]
    exact (all_any _ ra la c0 Ax (spansOf m) nx cx num W HLA.out (by omega) HIA.out h1 HFX.out h3).mono fun e w' ⟨he, hb⟩ => ⟨he, hW.trans (hb.mono (HST.out W hW).2)⟩
  have H2 : Hid (∀ W, Below n6 w6 W → Calls Tryd.prog 12 #[.slice (some ⟨g1, 0, none⟩) lb c1, .slice Ax nx cx, .int .u64 (num : Int)] W fun e w' => e = .returned (.bool two) ∧ Below n6 w6 w') := Lib.hid fun W hW => by
    obtain ⟨h1, h2, h3, h4⟩ := HXW.out W hW
    rw [← htwo]
    exact (all_any _ rb lb c1 Ax (spansOf m) nx cx num W HLB.out (by omega) HIB.out h2 HFX.out h3).mono fun e w' ⟨he, hb⟩ => ⟨he, hW.trans (hb.mono (HST.out W hW).2)⟩
  have H3 : Hid (∀ W, Below n6 w6 W → Calls Tryd.prog 12 #[.slice Av lab cv, .slice Ax nx cx, .int .u64 (num : Int)] W fun e w' => e = .returned (.bool (one && two)) ∧ Below n6 w6 w') := Lib.hid fun W hW => by
    obtain ⟨h1, h2, h3, h4⟩ := HXW.out W hW
    rw [← hboth]
    refine (all_any _ ([] ++ ra ++ rb) lab cv Ax (spansOf m) nx cx num W (by simp [HLA.out, HLB.out, HLAB.out]) (by omega) (fun i hi => ?_) h4 HFX.out h3).mono fun e w' ⟨he, hb⟩ => ⟨he, hW.trans (hb.mono (HST.out W hW).2)⟩
    rw [List.nil_append]
    rcases Nat.lt_or_ge i la with h | h
    · have e : (ra ++ rb).getD i ru0 = ra.getD i ru0 := by simp [List.getD, List.getElem?_append_left (show i < ra.length by rw [HLA.out]; exact h)]
      rw [e]; exact HIA.out i h
    · have e : (ra ++ rb).getD i ru0 = rb.getD (i - la) ru0 := by simp [List.getD, List.getElem?_append_right (show ra.length ≤ i by rw [HLA.out]; exact h), HLA.out]
      rw [e]; exact HIB.out _ (by have := HLAB.out; omega)
  have H4 : Hid (∀ W n8, Below n6 w6 W → W.heap.size = n8 → Calls Tryd.prog 13 #[.slice (some ⟨n8, 0, none⟩) 2 2, .slice Ax nx cx, .int .u64 (num : Int)] (W.alloc (.cells #[.slice (some ⟨g0, 0, none⟩) la c0, .slice (some ⟨g1, 0, none⟩) lb c1] 30)) fun e w' => e = .returned (.int .i64 kw) ∧ Below n6 w6 w') := Lib.hid fun W n8 hW hn8 => by
    obtain ⟨h1, h2, h3, h4⟩ := HXW.out W hW
    have hbx := box_below (W := W) (.cells #[.slice (some ⟨g0, 0, none⟩) la c0, .slice (some ⟨g1, 0, none⟩) lb c1] 30)
    have h6 := (HST.out W hW).2
    rw [← hwh]
    exact (which_any _ [ra, rb] 2 2 Ax (spansOf m) nx cx num _ rfl ⟨by simp, fun i hi => by
      match i, hi with
      | 0, _ => exact ⟨by have := HLA.out; show ra.length ≤ _; omega, fun j hj => HIA.out j (by have := HLA.out; have hj' : j < ra.length := hj; omega)⟩
      | 1, _ => exact ⟨by have := HLB.out; show rb.length ≤ _; omega, fun j hj => HIB.out j (by have := HLB.out; have hj' : j < rb.length := hj; omega)⟩⟩ (two_rows W n8 hn8 HLA.out HLB.out h1 h2) HFX.out (h3.later hbx)).mono fun e w' ⟨he, hb⟩ => ⟨he, (hW.trans (hbx.mono h6)).trans (hb.mono (by rw [World.size_alloc]; omega))⟩
  have HEND : Hid (∀ W, Below n6 w6 W → Below w.heap.size w W) := Lib.hid fun W hW => HB3.out.trans ((HST.out W hW).1.mono HSZ3.out)
  have HCW : Hid (∀ W, Below n6 w6 W → W.cell? ⟨ga, 0, none⟩ = some (.slice (some ⟨g0, 0, none⟩) la c0) ∧ W.cell? ⟨gb, 0, none⟩ = some (.slice (some ⟨g1, 0, none⟩) lb c1)) := Lib.hid fun W hW => HCA.out W (HST.out W hW).1
  have HKW := Lib.hid hkw
  have HN6 : Hid (w6.heap.size = n6) := Lib.hid hn6
  clear hn6 hvh hone htwo hboth hwh hkw HST HXW HHA HHB HXH HVH HCA HB4 HY4 HOB4 HSZ4 HB6 HV6 HOA HOB HLA HLB HLAB HIA HIB HFX
  go_wp2_with fail
  refine (H1.out _ (Below.refl _ _)).mono ?_
  rintro e w7 ⟨rfl, hb7⟩
  clear k0 k1
  obtain ⟨k0, k1⟩ := HCW.out w7 hb7
  go_wp2_with fail
  refine (H2.out _ hb7).mono ?_
  rintro e w8 ⟨rfl, hb8⟩
  clear k0 k1 hb7
  obtain ⟨k0, k1⟩ := HCW.out w8 hb8
  obtain ⟨n8, hn8⟩ : ∃ x, w8.heap.size = x := ⟨_, rfl⟩
  have h68 : n6 ≤ n8 := by have h1 := hb8.size; have h2 := HN6.out; omega
  go_upto_region 11 with fail
  go_cut [15] (fun s15 wx => s15 = .int .i64 kw ∧ Hid (Below n6 w6 wx))
  case first =>
    have hBd : Below n6 w6 w8.drew := hb8.drew
    refine wp_region_held_drew (S := fun W => Below n6 w6 W) (by kernel_rfl) ?_ (fun hHeld => ?_)
    · exact hBd
    refine wpAnyH_take (i := 0) (v := ?_) rfl (by kernel_rfl) (by kernel_rfl) (by kernel_rfl) (fun _ _ _ h => h) (Or.inl ⟨by rfl, ?_⟩) (by assumption) ?_
    rotate_left
    · intro wq hSw; (try dsimp only at hSw); go_simp; (try with_reducible rfl)
    simp only [Act.put, List.getElem_toArray, List.getElem_cons_succ, List.getElem_cons_zero, List.setIfInBounds_toArray, List.set_cons_zero, List.set_cons_succ]
    refine wpAnyH_take (i := 1) (v := ?_) rfl (by kernel_rfl) (by kernel_rfl) (by kernel_rfl) (fun _ _ _ h => h) (Or.inl ⟨by rfl, ?_⟩) (by assumption) ?_
    rotate_left
    · intro wq hSw; (try dsimp only at hSw); go_simp; (try with_reducible rfl)
    simp only [Act.put, List.getElem_toArray, List.getElem_cons_succ, List.getElem_cons_zero, List.setIfInBounds_toArray, List.set_cons_zero, List.set_cons_succ]
    refine wpAnyH_take (i := 2) (v := ?_) rfl (by kernel_rfl) (by kernel_rfl) (by kernel_rfl) (fun _ _ _ h => h) (Or.inl ⟨by rfl, ?_⟩) (by assumption) ?_
    rotate_left
    · intro wq hSw; (try dsimp only at hSw); obtain ⟨u0, u1⟩ := HCW.out _ hSw; go_simp; (try with_reducible rfl)
    simp only [Act.put, List.getElem_toArray, List.getElem_cons_succ, List.getElem_cons_zero, List.setIfInBounds_toArray, List.set_cons_zero, List.set_cons_succ]
    refine wpAnyH_take (i := 3) (v := ?_) rfl (by kernel_rfl) (by kernel_rfl) (by kernel_rfl) (fun _ _ _ h => h) (Or.inl ⟨by rfl, ?_⟩) (by assumption) ?_
    rotate_left
    · intro wq hSw; (try dsimp only at hSw); go_simp; (try with_reducible rfl)
    simp only [Act.put, List.getElem_toArray, List.getElem_cons_succ, List.getElem_cons_zero, List.setIfInBounds_toArray, List.set_cons_zero, List.set_cons_succ]
    refine wpAnyH_take (i := 4) (v := ?_) rfl (by kernel_rfl) (by kernel_rfl) (by kernel_rfl) (fun _ _ _ h => h) (Or.inl ⟨by rfl, ?_⟩) (by assumption) ?_
    rotate_left
    · intro wq hSw; (try dsimp only at hSw); go_simp; (try with_reducible rfl)
    simp only [Act.put, List.getElem_toArray, List.getElem_cons_succ, List.getElem_cons_zero, List.setIfInBounds_toArray, List.set_cons_zero, List.set_cons_succ]
    refine wpAnyH_take (i := 5) (v := ?_) rfl (by kernel_rfl) (by kernel_rfl) (by kernel_rfl) (fun _ _ _ h => h) (Or.inl ⟨by rfl, ?_⟩) (by assumption) ?_
    rotate_left
    · intro wq hSw; (try dsimp only at hSw); obtain ⟨u0, u1⟩ := HCW.out _ hSw; go_simp; (try with_reducible rfl)
    simp only [Act.put, List.getElem_toArray, List.getElem_cons_succ, List.getElem_cons_zero, List.setIfInBounds_toArray, List.set_cons_zero, List.set_cons_succ]
    refine wpAnyH_take (i := 7) (v := ?_) rfl (by kernel_rfl) (by kernel_rfl) (by kernel_rfl) (fun _ _ _ h => h) (Or.inl ⟨by rfl, ?_⟩) (by assumption) ?_
    rotate_left
    · intro wq hSw; (try dsimp only at hSw); go_simp; (try with_reducible rfl)
    simp only [Act.put, List.getElem_toArray, List.getElem_cons_succ, List.getElem_cons_zero, List.setIfInBounds_toArray, List.set_cons_zero, List.set_cons_succ]
    refine wpAnyH_take (i := 8) (v := ?_) rfl (by kernel_rfl) (by kernel_rfl) (by kernel_rfl) (fun _ _ _ h => h) (Or.inl ⟨by rfl, ?_⟩) (by assumption) ?_
    rotate_left
    · intro wq hSw; (try dsimp only at hSw); go_simp; (try with_reducible rfl)
    simp only [Act.put, List.getElem_toArray, List.getElem_cons_succ, List.getElem_cons_zero, List.setIfInBounds_toArray, List.set_cons_zero, List.set_cons_succ]
    refine wpAnyH_ready (rs := [6]) (by kernel_rfl) (by simp) ?_
    refine AllReadyH.cons rfl (fun K hK => ?_) AllReadyH.nil
    go_simp
    (try go_wp2_with fail)
    refine hK.out _ _ ?_ (fun hHeld => ?_)
    · exact (hHeld.alloc (by show n6 ≤ w8.heap.size; omega) _)
    clear hK K
    try simp only [Act.put, List.getElem_toArray, List.getElem_cons_succ, List.getElem_cons_zero, List.setIfInBounds_toArray, List.set_cons_zero, List.set_cons_succ]
    refine wpAnyH_ready (rs := [9]) (by kernel_rfl) (by simp) ?_
    refine AllReadyH.cons rfl (fun K hK => ?_) AllReadyH.nil
    go_simp
    refine (H4.out w8.drew n8 hBd hn8).mono ?_
    rintro e w9 ⟨rfl, hb9⟩
    (try go_wp2_with fail)
    refine hK.out _ _ ?_ (fun hHeld => ?_)
    · exact hb9
    clear hK K
    try simp only [Act.put, List.getElem_toArray, List.getElem_cons_succ, List.getElem_cons_zero, List.setIfInBounds_toArray, List.set_cons_zero, List.set_cons_succ]
    refine wpAnyH_take (i := 10) (v := ?_) rfl (by kernel_rfl) (by kernel_rfl) (by kernel_rfl) (fun _ _ _ h => h) (Or.inl ⟨by rfl, ?_⟩) (by assumption) ?_
    rotate_left
    · intro wq hSw; (try dsimp only at hSw); go_simp; (try with_reducible rfl)
    simp only [Act.put, List.getElem_toArray, List.getElem_cons_succ, List.getElem_cons_zero, List.setIfInBounds_toArray, List.set_cons_zero, List.set_cons_succ]
    refine wpAnyH_done (by kernel_rfl) ?_ _
    clear hHeld
    go_wp2_with fail
    go_meet
    exact ⟨rfl, Lib.hid hb9⟩
  case rest =>
    obtain ⟨rfl, HB9⟩ := hcut
    clear hb8 k0 k1 hn8 h68
    cases one with
    | true =>
      obtain rfl : kw = 0 := HKW.out.symm
      cases two <;>
      · go_wp2_with fail
        refine (HK.out _ (HEND.out _ HB9.out)).mono ?_
        rintro e w10 ⟨rfl, hb10⟩
        have hb11 : Below n6 w6 w10 := HB9.out.trans (hb10.mono (by have := HB9.out.size; have h2 := HN6.out; omega))
        clear hb10
        go_wp2_with fail
        refine (H3.out _ hb11).mono ?_
        rintro e w12 ⟨rfl, hb12⟩
        clear hb11
        go_wp2_with fail
        go_ret
        exact ⟨rfl, HEND.out _ hb12⟩
    | false =>
      cases two with
      | true =>
        obtain rfl : kw = 1 := HKW.out.symm
        go_wp2_with fail
        refine (HK.out _ (HEND.out _ HB9.out)).mono ?_
        rintro e w10 ⟨rfl, hb10⟩
        have hb11 : Below n6 w6 w10 := HB9.out.trans (hb10.mono (by have := HB9.out.size; have h2 := HN6.out; omega))
        clear hb10
        go_wp2_with fail
        refine (H3.out _ hb11).mono ?_
        rintro e w12 ⟨rfl, hb12⟩
        clear hb11
        go_wp2_with fail
        go_ret
        exact ⟨rfl, HEND.out _ hb12⟩
      | false =>
        obtain rfl : kw = -1 := HKW.out.symm
        go_wp2_with fail
        refine (HK.out _ (HEND.out _ HB9.out)).mono ?_
        rintro e w10 ⟨rfl, hb10⟩
        have hb11 : Below n6 w6 w10 := HB9.out.trans (hb10.mono (by have := HB9.out.size; have h2 := HN6.out; omega))
        clear hb10
        go_wp2_with fail
        refine (H3.out _ hb11).mono ?_
        rintro e w12 ⟨rfl, hb12⟩
        clear hb11
        go_wp2_with fail
        go_ret
        exact ⟨rfl, HEND.out _ hb12⟩
namespace PolicyBoth
set_option linter.unusedSimpArgs false in
set_option maxRecDepth 100000 in
theorem lifted (os : Os) (started : os.Started) (H : Type) (enc : TypeId × Value → H) :
    ReturnsInHanded {} Tryd.checked os 3 .any (fun w args => (Rows.policyBothSpec.pre enc Tryd.prog Tryd.f3 [] false w args ∧ laidMetH Tryd.prog laidL w) ∧ sizedMet enc Tryd.prog Tryd.f3 (OpenSpec.ofChange Rows.policyBothSpec) false w args)
      (Rows.policyBothSpec.post enc Tryd.prog Tryd.f3 false true false false) := by
  refine returnsInHanded_of_change_and (C := Tryd.checked) (X := fun w _ => laidMetH Tryd.prog laidL w) (fun _ _ _ hh h => h.of_heap hh) own started (by kernel_rfl) Tryd.func3
    (ChangeSpec.witness_shaped (enc := enc) (C := Tryd.checked) (os := os) (X := fun w _ => laidMetH Tryd.prog laidL w) false (World.doorLaid Tryd.prog 400 os) #[.slice none 0 0, .slice none 0 0, .slice none 0 0, .int .u64 0] 8 rfl (World.shaped_of_RefB (by kernel_rfl) (by kernel_rfl)) (by kernel_rfl) (by kernel_rfl) (by kernel_rfl) (door_met os _)) ?_
  intro W base args ds gs before hval0 hW _ _ hL _
  have hS := of_laid hL
  have hval : ∀ (j : Nat) t v, Tryd.f3.params[j]? = some t → args[j]? = some v → Value.okWide Tryd.prog W .any base t v := hval0
  have hW' := hW
  obtain ⟨p, q, hA0, hV, rfl, _, _⟩ := hW
  have hA : DataW.TrodAll enc Tryd.prog W 0 (fun _ => true) true Tryd.f3.params.toList args.toList ds p := hA0
  rw [Tryd.params3] at hA hval
  obtain ⟨v0, vs0, d0, ds0, p0, q0, hargs, rfl, rfl, h0, r0⟩ := trodAll_cons hA
  obtain ⟨v1, vs1, d1, ds1, p1, q1, rfl, rfl, rfl, h1, r1⟩ := trodAll_cons r0
  obtain ⟨v2, vs2, d2, ds2, p2, q2, rfl, rfl, rfl, h2, r2⟩ := trodAll_cons r1
  obtain ⟨v3, vs3, d3, ds3, p3, q3, rfl, rfl, rfl, h3, r3⟩ := trodAll_cons r2
  obtain ⟨rfl, rfl, rfl⟩ := trodAll_nil r3
  obtain rfl : args = #[v0, v1, v2, v3] := by cases args; simp_all
  obtain ⟨rfl, rfl⟩ := trodVars_none hV
  obtain ⟨A0, cs0, cap0, rfl, l0, m0, b0, again0⟩ := arg_bytes (hval 0 22 v0 rfl rfl) h0
  have x0 := arg_extra h0
  obtain ⟨A1, cs1, cap1, rfl, l1, m1, b1, again1⟩ := arg_bytes (hval 1 22 v1 rfl rfl) h1
  have x1 := arg_extra h1
  obtain ⟨A2, css2, cap2, rfl, l2, m2, e2, b2⟩ := arg_rows (hval 2 23 v2 rfl rfl) h2
  obtain ⟨a3, rfl, rfl, rfl, w3⟩ := open_int Tryd.underlying24 (hval 3 24 v3 rfl rfl) h3
  have k3 := wf_u64 w3
  obtain ⟨n3, rfl⟩ : ∃ n : Nat, a3 = n := ⟨a3.toNat, by omega⟩
  clear hA0 hval0
  simp only [List.append_nil] at hW'
  refine (policyBoth_walk A0 cs0 cap0 A1 cs1 cap1 A2 css2 cap2 n3 W hS b0 b1 b2 (by omega) (by omega) (by omega)).mono fun e W' ⟨he, hg⟩ => ?_
  subst he
  exact ⟨_, rfl, true_last hW' rfl (by kernel_rfl) Tryd.underlying4 rfl rfl rfl (of_decide_eq_true (by kernel_rfl)) hg⟩

/-- The row. -/
theorem said : Rows.PolicyBothSaid :=
  OpenClaim.holds_of_wide 3 Tryd.f3 rfl rfl rfl rfl rfl rfl rfl ⟨rfl, rfl, rfl, rfl, rfl⟩ rfl rfl rfl rfl rfl (by kernel_rfl) Tryd.func3 (by kernel_rfl)
    (of_decide_eq_true (by kernel_rfl)) (by unfold Func.isWrapper; first | (rw [if_pos (by decide +kernel)]; kernel_rfl) | (rw [if_neg (by decide +kernel)]; exact ⟨rfl, rfl⟩))
    (fun os started H enc _ => lifted os started H enc)
/-- **PolicyBoth, at every input: the card, its listed variables tied to the program's text.** -/
theorem proved : Rows.PolicyBothCardSaid :=
  Claim7.holds_tied_plain_at .later [] [.data] true Rows.policyBothCard.stood.harness false
    said (fun _ h => by cases h) (by kernel_rfl) (fun _ h => by cases h) policyBoth_row_tie rfl ⟨rfl, rfl⟩ (by kernel_rfl) rfl
    (fun f fn hf hfn => by
      obtain rfl : f = 3 := Option.some.inj ((show Tryd.prog.funcNamed "telemeter/telemeterlaw12.PolicyBoth" = some 3 by kernel_rfl).symm.trans hf) |>.symm
      obtain rfl : fn = Tryd.f3 := (Option.some.inj (Tryd.func3.symm.trans hfn)).symm
      exact ⟨by kernel_rfl, fun j t ht => by
        rw [Tryd.params3] at ht
        have hm : t ∈ [22, 22, 23, 24] := by simpa using Array.mem_of_getElem? ht
        have hall : ([22, 22, 23, 24].all fun u => !Tryd.prog.wantsStandIn u) = true := by kernel_rfl
        exact (show Tryd.prog.wantsStandIn t = false by simpa using List.all_eq_true.1 hall t hm)⟩)
    (by kernel_rfl)
end PolicyBoth

end Go.Proofs.YtmjbdjcpjaeemaaDoor
