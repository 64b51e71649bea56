/-
  Proved: FrameTakes returns true for all bytes, rows, places and numbers: Take and Scan of any bytes, and of some frames that are bent in a byte, and cut, are what the chapter says. No condition.
-/
import Derived.Test.YtdjejkjkcahdgaaRefTake
import Derived.Test.YtdjejkjkcahdgaaRowsHeld
namespace Go.Proofs.Ytdjejkjkcahdgaa
open Go.ChangeShapes Go.WideShapes Go.ChangeAt Go.RowKit Go.Proofs.NumMath Go.Proofs.FrameMath

theorem scan_e : ∀ (r : List UInt8) (k acc : Nat), (scan k acc r).2.2 ≤ 31
  | [], _, _ => by simp [scan]
  | c :: r, k, acc => by
    have := scan_e r (k + 1) (acc + (c.toNat - 128) * 128 ^ k)
    unfold scan
    split
    · split <;> simp
    · split
      · simp
      · exact this
theorem getAt_e (cs : List UInt8) (i : Int) : (getAt cs i).2.2 ≤ 31 := by
  have := scan_e (cs.drop i.toNat) 0 0
  unfold getAt
  split
  · simp
  · split
    · simp
    · exact this
theorem take_e (cs : List UInt8) (i : Int) : (take cs i).2.2 ≤ 31 := by
  have := getAt_e cs i
  unfold take
  split
  · exact this
  · split
    · simp
    · split
      · simp
      · split <;> simp
theorem scanN_e : ∀ (k : Nat) (cs : List UInt8) (i : Nat), (scanN k cs i).2.2 ≤ 31
  | 0, cs, i => by simp [scanN]
  | k + 1, cs, i => by
    have h1 := scanN_e k cs (take cs (i : Int)).2.1
    have h2 := take_e cs (i : Int)
    unfold scanN
    split
    · split
      · exact h1
      · exact h2
    · simp
theorem scanN_len : ∀ (k : Nat) (cs : List UInt8) (i : Nat), (scanN k cs i).1.length ≤ cs.length - i
  | 0, cs, i => by simp [scanN]
  | k + 1, cs, i => by
    have h1 := scanN_len k cs (take cs (i : Int)).2.1
    unfold scanN
    split
    · split
      · rename_i he
        have h2 := take_go (cs := cs) (b := (take cs (i : Int)).1) (i := i) (to := (take cs (i : Int)).2.1) (Prod.ext rfl (Prod.ext rfl he))
        simp only [List.length_cons]
        omega
      · simp
    · simp

set_option linter.unusedSimpArgs false in
set_option maxRecDepth 100000 in
set_option maxHeartbeats 4000000 in
theorem tells_any (A : Option Addr) (cs : List UInt8) (len cap : Nat) (i : Int) (w : World) (hlen : cs.length = len) (hsm : len ≤ 10000) (hl : len ≤ cap) (hcap : cap ≤ 9223372036854775807) (hr : Holds8 w.heap.size w A cs) (hA : A = none → cap = 0) :
    Calls Try.prog 17 #[.slice A len cap, .int .i64 i] w fun e w' => e = .returned (.bool true) ∧ Below w.heap.size w w' := by
  have hT1 := fun (W : World) (h : Below w.heap.size w W) => take_any A cs cap i W (hlen ▸ hl) hcap (hr.later h)
  have hT2 := fun (W : World) (h : Below w.heap.size w W) => refTake_any A cs cap i W (hlen ▸ hl) hcap (hr.later h) hA
  have hS1 := fun (W : World) (h : Below w.heap.size w W) => scan_any A cs len cap W hlen (by omega) hl hcap (hr.later h)
  have hS2 := fun (W : World) (h : Below w.heap.size w W) => refScan_any A cs len cap W hlen (by omega) hl hcap (hr.later h) hA
  rw [hlen] at hT1 hT2
  have hrl : (scanF cs).1.length ≤ len := by have := scanN_len (cs.length + 1) cs 0; unfold scanF; omega
  have hse : (scanF cs).2.2 ≤ 31 := scanN_e _ _ _
  have hte : (take cs i).2.2 ≤ 31 := take_e cs i
  generalize take cs i = T at hT1 hT2 hte
  generalize scanF cs = S at hS1 hS2 hrl hse
  obtain ⟨tb, to, te⟩ := T
  obtain ⟨sl, so, se⟩ := S
  dsimp only at hT1 hT2 hS1 hS2 hrl hse hte
  obtain ⟨nt, hnt⟩ : ∃ n, tb.length = n := ⟨_, rfl⟩
  rw [hnt] at hT1 hT2
  have HNT := Lib.hid hnt
  have HT1 := Lib.hid hT1
  have HT2 := Lib.hid hT2
  have HS1 := Lib.hid hS1
  have HS2 := Lib.hid hS2
  obtain ⟨ns, hns⟩ : ∃ n, sl.length = n := ⟨_, rfl⟩
  have HNS := Lib.hid hns
  rw [hns] at hrl
  clear hT1 hT2 hS1 hS2 hlen hr hA hnt hns
  go_enter Try.func17, Try.ntmps17
  go_wp2_with fail
  refine (HT1.out w (Below.refl _ _)).mono ?_
  rintro e w1 ⟨A1, c1, rfl, hown1, hB1⟩
  go_wp2_with fail
  refine (HT2.out w1 hB1).mono ?_
  rintro e w2 ⟨A2, c2, rfl, hown2, hb2⟩
  have hB2 := hB1.trans (hb2.mono hB1.size)
  go_wp2_with fail
  refine (HS1.out w2 hB2).mono ?_
  rintro e w3 ⟨v3, vs3, rfl, hown3, hrows3, hb3⟩
  have hB3 := hB2.trans (hb3.mono hB2.size)
  have HR3 := holds_rows hown3 hrows3
  rw [HNS.out] at HR3
  obtain ⟨A3, c3, rfl, hc3, hm3, hA3, HR3⟩ := HR3
  go_wp2_with fail
  refine (HS2.out w3 hB3).mono ?_
  rintro e w4 ⟨v4, vs4, rfl, hown4, hrows4, hb4⟩
  have hB4 := hB3.trans (hb4.mono hB3.size)
  have HR4 := holds_rows hown4 hrows4
  rw [HNS.out] at HR4
  obtain ⟨A4, c4, rfl, hc4, hm4, hA4, HR4⟩ := HR4
  go_wp2_with fail
  refine (same_any A3 A4 sl sl ns ns c3 c4 w4 HNS.out HNS.out (by omega) (HR3.later hb4) HR4).mono ?_
  rintro e w5 ⟨rfl, hb5⟩
  have hB5 := hB4.trans (hb5.mono hB4.size)
  have hb25 := hb3.trans ((hb4.trans (hb5.mono hb4.size)).mono hb3.size)
  have hb15 := hb2.trans (hb25.mono hb2.size)
  have t1 := text_run A1 tb nt c1 w5 _ HNT.out ((own_facts (cs := tb) (by rw [HNT.out]; exact hown1)).2.2.below hb15)
  have t2 := text_run A2 tb nt c2 w5 _ HNT.out ((own_facts (cs := tb) (by rw [HNT.out]; exact hown2)).2.2.below hb25)
  clear hown1 hown2 hown3 hown4
  go_wp2_with fail
  go_ret
  exact ⟨by simp, hB5⟩

set_option maxRecDepth 100000 in
set_option maxHeartbeats 4000000 in
theorem takes_walk (A B : Option Addr) (cs : List UInt8) (css : List (List UInt8)) (len cap la ca k cut : Nat) (i : Int) (x : UInt8) (w : World) (hlen : cs.length = len) (hl : len ≤ cap) (hcap : cap ≤ 9223372036854775807) (hr : Holds8 w.heap.size w A cs) (hA : A = none → cap = 0)
    (hla : css.length = la) (_hlc : la ≤ ca) (hR : HoldsRows w.heap.size w B css) (hk : k ≤ 65535) (hcut : cut ≤ 65535) :
    Calls Try.prog 4 #[.slice A len cap, .slice B la ca, .int .i64 i, .int .u16 (k : Int), .int .u16 (cut : Int), .int .u8 (x.toNat : Int)] w fun e w' => e = .returned (.bool true) ∧ Below w.heap.size w w' := by
  have HL := Lib.hid hlen
  have HR := Lib.hid hr
  have HA := Lib.hid hA
  have HLA := Lib.hid hla
  have HRR := Lib.hid hR
  clear hlen hr hA hla hR
  by_cases h1 : 300 < len
  · have d1 : decide ((300 : Int) < (len : Int)) = true := by simp; omega
    go_enter Try.func4, Try.ntmps4
    go_wp2_with fail
    refine (known_any _).mono ?_
    rintro e w1 ⟨rfl, hb1⟩
    go_wp2_with fail
    go_ret
    exact ⟨rfl, hb1⟩
  have d1 : decide ((300 : Int) < (len : Int)) = false := by simp; omega
  by_cases h2 : 6 < la
  · have d2 : decide ((6 : Int) < (la : Int)) = true := by simp; omega
    go_enter Try.func4, Try.ntmps4
    go_wp2_with fail
    refine (known_any _).mono ?_
    rintro e w1 ⟨rfl, hb1⟩
    go_wp2_with fail
    go_ret
    exact ⟨rfl, hb1⟩
  have d2 : decide ((6 : Int) < (la : Int)) = false := by simp; omega
  go_enter Try.func4, Try.ntmps4
  go_wp2_with fail
  refine (known_any _).mono ?_
  rintro e w1 ⟨rfl, hb1⟩
  go_wp2_with fail
  go_loopw [13, 14] (fun av iv wr => ∃ (i L c : Nat) (A' : Option Addr), av = .slice A' L c ∧ iv = .int .i64 (i : Int) ∧ i ≤ la ∧ L ≤ 65 * i ∧ Hid (((css.take i).flatMap frame).length = L) ∧ Hid (wr.ownsRow w.heap.size 5 1 (.slice A' L c) ((css.take i).flatMap frame).length (((css.take i).flatMap frame).map b8)) ∧
      Below w.heap.size w wr) (fun _ iv _ => la - (intOf iv).toNat)
  case atStart => exact ⟨0, 0, 0, none, rfl, rfl, by omega, by omega, Lib.hid (by simp), World.ownsRow_nil _ _ _ _, hb1⟩
  case round =>
    obtain ⟨j, L, c, A', rfl, rfl, hi, hLi, HLL, HO, hB⟩ := hrel
    by_cases hlt : j < la
    · obtain ⟨b, off, rfl, hbl, hcA⟩ := HRR.out (by rw [HLA.out]; omega)
      obtain ⟨A1, c1, g1, g2, g3, g4, g5⟩ := hcA j (by rw [HLA.out]; omega)
      have h1w := (hB.cell (p := ⟨b, off + j, none⟩) hbl).trans g1
      obtain ⟨y, hy⟩ : ∃ y, css.getD j [] = y := ⟨_, rfl⟩
      rw [hy] at h1w g2 g3
      obtain ⟨ly, hly⟩ : ∃ l, y.length = l := ⟨_, rfl⟩
      rw [hly] at h1w g3
      have HY := Lib.hid hy
      have HLY := Lib.hid hly
      have H2 := Lib.hid g2
      have H5 := Lib.hid g5
      clear g1 g2 g5 hy hly hcA
      by_cases h60 : 60 < ly
      · have d3 : decide ((60 : Int) < (ly : Int)) = true := by simp; omega
        go_wp2_with fail
        try go_wp2
        go_ret
        exact ⟨rfl, hB⟩
      have d3 : decide ((60 : Int) < (ly : Int)) = false := by simp; omega
      have hfx : (frame y).length = ly + 5 := by rw [frame_length, HLY.out, put_one (by omega)]; omega
      have HFX := Lib.hid hfx
      clear hfx
      go_wp2_with fail
      refine (refFrame_fits A1 y ly c1 (ly + 5) wr HLY.out HFX.out (by omega) (H2.out.later hB) H5.out).mono ?_
      rintro e w2 ⟨A2, c2, rfl, hown1, hb2⟩
      have HYY := Lib.hid (own_facts hown1).2.2
      have HN1 : Hid (A2 = none → c2 = 0) := Lib.hid (fun h => by
        obtain ⟨g, e, _⟩ := own_parts hown1 (by have := frame_pos y; omega)
        rw [h] at e; cases e)
      have hB2 := hB.trans (hb2.mono hB.size)
      have hS2 := hB2.size
      have HO2 := Lib.hid (own_later HO.out hb2)
      have HF : Hid ((css.take (j + 1)).flatMap frame = (css.take j).flatMap frame ++ frame y) := Lib.hid (by
        have e : css.take (j + 1) = css.take j ++ [y] := by
          rw [List.take_succ_eq_append_getElem (by rw [HLA.out]; exact hlt)]
          have := HY.out
          rw [List.getD_eq_getElem?_getD, List.getElem?_eq_getElem (by rw [HLA.out]; exact hlt)] at this
          simp at this
          rw [this]
        rw [e]; simp)
      have HL1 : Hid (((css.take (j + 1)).flatMap frame).length = L + (ly + 5)) := Lib.hid (by rw [HF.out, List.length_append, HLL.out, HFX.out])
      clear hown1 hb2
      go_wp2_with (at_builtin; refine app_bytes rfl (.tmp 51) (.tmp 52) rfl w.heap.size w2.heap.size (.slice A' L c) ((css.take j).flatMap frame) (frame y) ((css.take (j + 1)).flatMap frame) (L + (ly + 5)) HF.out HL1.out rfl HO2.out A2 (ly + 5) c2 rfl HFX.out HYY.out HN1.out (by omega) hS2 ?_; intro A5 c5 w5 hown5 hg5; have hB5 := below_grown hB2 hS2 HO2.out hg5; have HO5 := Lib.hid hown5; clear hown5 hg5)
      go_roundw
      case rel => exact ⟨j + 1, L + (ly + 5), c5, A5, rfl, by go_num, by omega, by omega, HL1, HO5, hB5⟩
      case measure => simp [intOf]; omega
    · clear HRR
      generalize (css.take j).flatMap frame = all at HLL HO
      have hL5 : L ≤ 390 := by omega
      obtain ⟨hc7, hm7, hr7⟩ := own_facts HO.out
      rw [HLL.out] at hc7
      by_cases hL0 : L = 0
      · subst hL0
        have HR7 := Lib.hid hr7
        clear hr7
        go_wp2_with fail
        refine (tells_any A cs len cap i wr HL.out (by omega) hl hcap (HR.out.later hB) HA.out).mono ?_
        rintro e w3 ⟨rfl, hb3⟩
        have hB3 := hB.trans (hb3.mono hB.size)
        go_wp2_with fail
        have hz0 : (k : Int) % (0 + 1) = 0 := by omega
        refine (tells_any A' all 0 c 0 w3 HLL.out (by omega) (by omega) hm7 (HR7.out.later hb3) (fun h => by
          have h4 := HO.out
          subst h
          rcases h4.2 with ⟨e, _⟩ | ⟨g', cap', cur', e, _⟩
          · simp at e; exact e
          · cases e)).mono ?_
        rintro e w4 ⟨rfl, hb4⟩
        have hB4 := hB3.trans (hb4.mono hB3.size)
        go_wp2_with fail
        go_ret
        exact ⟨by simp, hB4⟩
      · have dL : decide ((0 : Int) < (L : Int)) = true := by simp; omega
        obtain ⟨g, hAg, hg, hcell, hfroz⟩ := own_parts HO.out (by rw [HLL.out]; omega)
        subst hAg
        obtain ⟨m, hm, hmL⟩ : ∃ m : Nat, (k : Int) % (L : Int) = (m : Int) ∧ m < L := ⟨k % L, by simp, Nat.mod_lt _ (by omega)⟩
        have hck := hcell m (by rw [HLL.out]; omega)
        have hfk := hfroz m (by rw [HLL.out]; omega)
        unfold b8 at hck
        have HG := Lib.hid (own_set HO.out HLL.out.symm hg hB m x)
        clear hcell hfroz
        by_cases h9 : L ≤ 9
        · have hL9 : (L : Int) ≤ 9 := by omega
          obtain ⟨t, ht, htL⟩ : ∃ t : Nat, (cut : Int) % (L : Int) = (t : Int) ∧ t < L := ⟨cut % L, by simp, Nat.mod_lt _ (by omega)⟩
          obtain ⟨r, hr1, hr2, hr3⟩ : ∃ r : Nat, (L : Int) - (t : Int) = (r : Int) ∧ r ≤ L ∧ 0 < r := ⟨L - t, by omega, by omega, by omega⟩
          obtain ⟨z, hz⟩ : ∃ z : Nat, (k : Int) % ((r : Int) + 1) = (z : Int) := ⟨k % (r + 1), by simp⟩
          have HLr : Hid (((all.set m x).take r).length = r) := Lib.hid (by rw [List.length_take, List.length_set, HLL.out]; omega)
          have HHr := Lib.hid ((own_facts HG.out.1).2.2.take r)
          have HBs := HG.out.2
          go_wp2_with fail
          refine (tells_any A cs len cap i _ HL.out (by omega) hl hcap (HR.out.later HBs) HA.out).mono ?_
          rintro e w3 ⟨rfl, hb3⟩
          have hB3 := HBs.trans (hb3.mono HBs.size)
          go_wp2_with fail
          refine (tells_any (some ⟨g, 0, none⟩) ((all.set m x).take r) r c z w3 HLr.out (by omega) (by omega) hm7 (HHr.out.later hb3) (fun h => by cases h)).mono ?_
          rintro e w4 ⟨rfl, hb4⟩
          have hB4 := hB3.trans (hb4.mono hB3.size)
          go_wp2_with fail
          go_ret
          exact ⟨by simp, hB4⟩
        · have hL9 : (9 : Int) < (L : Int) := by omega
          obtain ⟨t, ht, htL⟩ : ∃ t : Nat, (cut : Int) % 9 = (t : Int) ∧ t < 9 := ⟨cut % 9, by simp, Nat.mod_lt _ (by omega)⟩
          obtain ⟨r, hr1, hr2, hr3⟩ : ∃ r : Nat, (L : Int) - (t : Int) = (r : Int) ∧ r ≤ L ∧ 0 < r := ⟨L - t, by omega, by omega, by omega⟩
          obtain ⟨z, hz⟩ : ∃ z : Nat, (k : Int) % ((r : Int) + 1) = (z : Int) := ⟨k % (r + 1), by simp⟩
          have HLr : Hid (((all.set m x).take r).length = r) := Lib.hid (by rw [List.length_take, List.length_set, HLL.out]; omega)
          have HHr := Lib.hid ((own_facts HG.out.1).2.2.take r)
          have HBs := HG.out.2
          go_wp2_with fail
          refine (tells_any A cs len cap i _ HL.out (by omega) hl hcap (HR.out.later HBs) HA.out).mono ?_
          rintro e w3 ⟨rfl, hb3⟩
          have hB3 := HBs.trans (hb3.mono HBs.size)
          go_wp2_with fail
          refine (tells_any (some ⟨g, 0, none⟩) ((all.set m x).take r) r c z w3 HLr.out (by omega) (by omega) hm7 (HHr.out.later hb3) (fun h => by cases h)).mono ?_
          rintro e w4 ⟨rfl, hb4⟩
          have hB4 := hB3.trans (hb4.mono hB3.size)
          go_wp2_with fail
          go_ret
          exact ⟨by simp, hB4⟩

namespace FrameTakes
set_option linter.unusedSimpArgs false in
set_option maxRecDepth 100000 in
theorem lifted (os : Os) (started : os.Started) (H : Type) (enc : TypeId × Value → H) :
    ReturnsInHanded {} Try.checked os 4 .any (Rows.frameTakesSpec.pre6 enc Try.prog Try.f4 Rows.frameTakesRow.domain false) (Rows.frameTakesSpec.post enc Try.prog Try.f4 false true false false) := by
  refine returnsInHanded_of_change (C := Try.checked) own started (by kernel_rfl) Try.func4
    (ChangeSpec.witness6 (enc := enc) (C := Try.checked) false ⟨#[], #[.slice none 0 0, .slice none 0 0, .int .i64 0, .int .u16 0, .int .u16 0, .int .u8 0], []⟩ 8 (by kernel_rfl) (by kernel_rfl) (by kernel_rfl) (by kernel_rfl)) ?_
  intro W base args ds gs before hval0 hW _ _
  have hval : ∀ (j : Nat) t v, Try.f4.params[j]? = some t → args[j]? = some v → Value.okWide Try.prog W .any base t v := hval0
  have hW' := hW
  obtain ⟨p, q, hA0, hV, rfl, _, _⟩ := hW
  have hA : DataW.TrodAll enc Try.prog W 0 (fun _ => true) true Try.f4.params.toList args.toList ds p := hA0
  rw [Try.params4] at hA hval
  obtain ⟨v0, vs0, d0, ds0, p0, q0, hargs, rfl, rfl, h0, r0⟩ := trodAll_cons hA
  obtain ⟨v1, vs1, d1, ds1, p1, q1, rfl, rfl, rfl, h1, r1⟩ := trodAll_cons r0
  obtain ⟨v2, vs2, d2, ds2, p2, q2, rfl, rfl, rfl, h2, r2⟩ := trodAll_cons r1
  obtain ⟨v3, vs3, d3, ds3, p3, q3, rfl, rfl, rfl, h3, r3⟩ := trodAll_cons r2
  obtain ⟨v4, vs4, d4, ds4, p4, q4, rfl, rfl, rfl, h4, r4⟩ := trodAll_cons r3
  obtain ⟨v5, vs5, d5, ds5, p5, q5, rfl, rfl, rfl, h5, r5⟩ := trodAll_cons r4
  obtain ⟨rfl, rfl, rfl⟩ := trodAll_nil r5
  obtain rfl : args = #[v0, v1, v2, v3, v4, v5] := by cases args; simp_all
  obtain ⟨rfl, rfl⟩ := trodVars_none hV
  obtain ⟨A0, cs0, cap0, rfl, l0, m0, b0, again0⟩ := arg_bytes (hval 0 22 v0 rfl rfl) h0
  have x0 := arg_extra h0
  obtain ⟨A1, css1, cap1, rfl, l1, m1, e1, b1⟩ := arg_rows (hval 1 28 v1 rfl rfl) h1
  obtain ⟨a2, rfl, rfl, rfl, w2⟩ := open_int Try.underlying3 (hval 2 3 v2 rfl rfl) h2
  have k2 := wf_i64 w2
  obtain ⟨a3, rfl, rfl, rfl, w3⟩ := open_int Try.underlying24 (hval 3 24 v3 rfl rfl) h3
  have k3 := wf_u16 w3
  obtain ⟨n3, rfl⟩ : ∃ n : Nat, a3 = n := ⟨a3.toNat, by omega⟩
  obtain ⟨a4, rfl, rfl, rfl, w4⟩ := open_int Try.underlying24 (hval 4 24 v4 rfl rfl) h4
  have k4 := wf_u16 w4
  obtain ⟨n4, rfl⟩ : ∃ n : Nat, a4 = n := ⟨a4.toNat, by omega⟩
  obtain ⟨a5, rfl, rfl, rfl, w5⟩ := open_int Try.underlying5 (hval 5 5 v5 rfl rfl) h5
  have k5 := wf_u8 w5
  obtain ⟨n5, rfl⟩ : ∃ u : UInt8, a5 = (u.toNat : Int) := ⟨UInt8.ofNat a5.toNat, by simp; omega⟩
  clear hA0 hval0
  simp only [List.append_nil] at hW'
  refine (takes_walk A0 A1 cs0 css1 cs0.length cap0 css1.length cap1 n3 n4 a2 n5 W rfl l0 m0 b0 x0.1 rfl l1 b1 (by omega) (by omega)).mono fun e W' ⟨he, hg⟩ => ?_
  subst he
  exact ⟨_, rfl, true_last hW' rfl (by kernel_rfl) Try.underlying4 rfl rfl rfl (of_decide_eq_true (by kernel_rfl)) hg⟩

/-- **FrameTakes, at every input.** -/
theorem proved : Rows.FrameTakesSaid :=
  OpenClaim.holds_of_wide 4 Try.f4 rfl rfl rfl rfl rfl rfl rfl ⟨rfl, rfl, rfl, rfl, rfl⟩ rfl rfl rfl rfl rfl (by kernel_rfl) Try.func4 (by kernel_rfl)
    (of_decide_eq_true (by kernel_rfl)) (by unfold Func.isWrapper; first | (rw [if_pos (by decide +kernel)]; kernel_rfl) | (rw [if_neg (by decide +kernel)]; exact ⟨rfl, rfl⟩))
    (fun os started H enc _ => lifted os started H enc)
end FrameTakes

end Go.Proofs.Ytdjejkjkcahdgaa
