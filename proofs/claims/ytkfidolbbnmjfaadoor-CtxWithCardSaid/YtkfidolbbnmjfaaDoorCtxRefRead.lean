/-
  What the document's own Read of layer 4 (telemeterref04) says of a text: its error; the marks are some. Laid by wip/tools/gen_refread.py.
-/
import Derived.Test.YtkfidolbbnmjfaaDoorCtxRefMarks
namespace Go.Proofs.YtkfidolbbnmjfaaDoor
open Go.RowKit Go.Shelf Go.Proofs.CtxState Go.Proofs.SeqOwn

theorem read_code (cs : List UInt8) : (readSt cs).1 = if tooLong cs then 3 else if (members cs).2 then 31 else (otRead (otOf (members cs).1)).1 := by
  have := congrArg Prod.fst (readSt_ref cs)
  simp only at this
  rw [this]
  split
  · rfl
  · split <;> rfl
theorem code_long {cs : List UInt8} (h : tooLong cs = true) : (readSt cs).1 = 3 := by rw [read_code, h]; rfl
theorem code_bad {cs : List UInt8} (h : tooLong cs = false) (h2 : refMem [] (pieces 44 cs) = none) : (readSt cs).1 = 31 := by
  rw [refMem_members] at h2
  cases hm : (members cs).2 with
  | true => rw [read_code, h, hm]; rfl
  | false => rw [hm] at h2; cases h2
theorem code_good {cs : List UInt8} {l : List (List UInt8 × List UInt8)} (h : tooLong cs = false) (h2 : refMem [] (pieces 44 cs) = some l) : (readSt cs).1 = (otRead (otOf l)).1 ∧ CtxState.Good l := by
  rw [refMem_members] at h2
  cases hm : (members cs).2 with
  | true => rw [hm] at h2; cases h2
  | false =>
    rw [hm] at h2
    injection h2 with h2
    rw [read_code, h, hm, h2]
    exact ⟨rfl, h2 ▸ members_good hm⟩
theorem ot_marks {v : List UInt8} (h : v ≠ []) : refMk CtxState.start (pieces 59 v) = if (marks v).wrong then none else some (marks v) := by
  rw [pieces_some (by cases v; exact absurd rfl h; simp), refMk_marks]
theorem val_some {v : List UInt8} (h : rightVal v = true) : v ≠ [] ∧ v.length ≤ 200 := by
  unfold rightVal at h
  simp only [Bool.and_eq_true, Bool.not_eq_true', decide_eq_true_eq] at h
  refine ⟨fun e => ?_, h.1.1.2⟩
  rw [e] at h; exact absurd h.1.1.1 (by decide)

set_option maxRecDepth 100000 in
set_option maxHeartbeats 8000000 in
theorem refRead_any (s : ByteArray) (w : World) : Calls Tryd.prog 43 #[.string s] w fun e w' => (∃ (a : Bool) (t : Nat) (b : Bool) (r : Nat), e = .returned (.tuple #[.agg #[.bool a, .int .u64 (t : Int), .bool b, .int .u64 (r : Int)], .int .i64 ((readSt s.data.toList).1 : Int)])) ∧ Below w.heap.size w w' := by
  obtain ⟨cs, hcs⟩ : ∃ cs, s.data.toList = cs := ⟨_, rfl⟩
  obtain ⟨n, hn⟩ : ∃ n, s.size = n := ⟨_, rfl⟩
  have hl : cs.length = n := by rw [← hcs, ← hn]; simp
  have hK := blk_new w #[.bool false, .int .u64 0, .bool false, .int .u64 0] 29
  have hB := box_below (W := w) (.cells #[.bool false, .int .u64 0, .bool false, .int .u64 0] 29)
  have HK := Lib.hid hK
  have HB := Lib.hid hB
  clear hK hB
  by_cases h5 : n ≤ 512
  · have d5 : decide ((n : Int) > 512) = false := by simp; omega
    have d5' : decide (512 < n) = false := by simp; omega
    have HSp : Hid (∀ W, Calls Tryd.prog 63 #[.string s, .int .u8 44] W fun e w' => ∃ sl, e = .returned sl ∧ SL w' W.heap.size sl (pieces 44 s.data.toList) ∧ Below W.heap.size W w') := Lib.hid (fun W => refSplit_any s 44 W (by omega))
    have HMm := Lib.hid (fun W => refMembers_any s W (by omega))
    rw [hcs] at HSp HMm ⊢
    have htl := pieces_long cs
    rw [hl, d5', Bool.false_or] at htl
    obtain ⟨ps, hps⟩ : ∃ ps, pieces 44 cs = ps := ⟨_, rfl⟩
    rw [hps] at HSp HMm htl
    obtain ⟨N, hN⟩ : ∃ N, ps.length = N := ⟨_, rfl⟩
    rw [hN] at htl
    have HN := Lib.hid hN
    cases h32 : decide (32 < N) with
    | true =>
      have d3 : decide ((N : Int) > 32) = true := by simp at h32 ⊢; omega
      rw [h32] at htl
      have HC : Hid ((readSt cs).1 = 3) := Lib.hid (code_long htl)
      clear htl hps hcs hl hN
      go_enter Tryd.func43, Tryd.ntmps43
      go_wp2_with fail
      refine (HSp.out _).mono ?_
      rintro e w1 ⟨sl, rfl, hsl, hb1⟩
      have K2 := Lib.hid (HK.out.later hb1)
      have HB2 := Lib.hid (HB.out.trans (hb1.mono HB.out.size))
      obtain ⟨A, cap, rfl⟩ := hsl.len
      rw [HN.out]
      clear hsl hb1
      go_wp2_with (refine wpList_store_row rfl 29 (.tmp 2) _ rfl w.heap.size #[.bool false, .int .u64 0, .bool false, .int .u64 0] rfl rfl 29 #[.bool false, .int .u64 0, .bool false, .int .u64 0] K2.out (by kernel_rfl) rfl (by simp [Value.oneCell']) ?_)
      have hrz := setRow_heap _ _ _ #[.bool false, .int .u64 0, .bool false, .int .u64 0] _ _ (K2.out)
      have r0 := cell_of_row _ _ 0 _ _ _ hrz
      have r1 := cell_of_row _ _ 1 _ _ _ hrz
      have r2 := cell_of_row _ _ 2 _ _ _ hrz
      have r3 := cell_of_row _ _ 3 _ _ _ hrz
      exact bodyPost_ret (v := .tuple #[.agg #[.bool false, .int .u64 0, .bool false, .int .u64 0], .int .i64 3]) (by simp [results, Tryd.results43, go_sem, r0, r1, r2, r3]) rfl ⟨⟨false, 0, false, 0, by rw [HC.out]; rfl⟩, below_setRow (HB2.out) (Nat.le_refl _) _⟩
    | false =>
      have d3 : decide ((N : Int) > 32) = false := by simp at h32 ⊢; omega
      rw [h32] at htl
      obtain ⟨R, hR⟩ : ∃ R, refMem [] ps = R := ⟨_, rfl⟩
      rw [hR] at HMm
      cases R with
      | none =>
        have HC : Hid ((readSt cs).1 = 31) := Lib.hid (code_bad htl (by rw [hps]; exact hR))
        clear htl hps hcs hl hN hR
        go_enter Tryd.func43, Tryd.ntmps43
        go_wp2_with fail
        refine (HSp.out _).mono ?_
        rintro e w1 ⟨sl, rfl, hsl, hb1⟩
        have K2 := Lib.hid (HK.out.later hb1)
        have HB2 := Lib.hid (HB.out.trans (hb1.mono HB.out.size))
        obtain ⟨A, cap, rfl⟩ := hsl.len
        rw [HN.out]
        clear hsl hb1
        go_wp2_with fail
        refine (HMm.out _).mono ?_
        rintro e w2 ⟨⟨kv, vv, ok, rfl, hmp⟩, hb2⟩
        have K3 := Lib.hid (K2.out.later hb2)
        have HB3 := Lib.hid (HB2.out.trans (hb2.mono HB2.out.size))
        obtain rfl : ok = false := hmp
        clear hb2
        go_wp2_with (refine wpList_store_row rfl 29 (.tmp 2) _ rfl w.heap.size #[.bool false, .int .u64 0, .bool false, .int .u64 0] rfl rfl 29 #[.bool false, .int .u64 0, .bool false, .int .u64 0] K3.out (by kernel_rfl) rfl (by simp [Value.oneCell']) ?_)
        have hrz := setRow_heap _ _ _ #[.bool false, .int .u64 0, .bool false, .int .u64 0] _ _ (K3.out)
        have r0 := cell_of_row _ _ 0 _ _ _ hrz
        have r1 := cell_of_row _ _ 1 _ _ _ hrz
        have r2 := cell_of_row _ _ 2 _ _ _ hrz
        have r3 := cell_of_row _ _ 3 _ _ _ hrz
        exact bodyPost_ret (v := .tuple #[.agg #[.bool false, .int .u64 0, .bool false, .int .u64 0], .int .i64 31]) (by simp [results, Tryd.results43, go_sem, r0, r1, r2, r3]) rfl ⟨⟨false, 0, false, 0, by rw [HC.out]; rfl⟩, below_setRow (HB3.out) (Nat.le_refl _) _⟩
      | some l =>
        obtain ⟨hcg, hgood⟩ := code_good htl (by rw [hps]; exact hR)
        have HCG := Lib.hid hcg
        have HG := Lib.hid hgood
        obtain ⟨M, hM⟩ : ∃ M, l.length = M := ⟨_, rfl⟩
        have hMb : M ≤ 5001 := by
          have h1 := members_count cs
          have h2 := refMem_members cs
          rw [hps, hR] at h2
          split at h2
          · cases h2
          · injection h2 with h2
            rw [← h2] at h1
            omega
        have HM := Lib.hid hM
        clear htl hps hcs hl hN hR hcg hgood hM
        go_enter Tryd.func43, Tryd.ntmps43
        go_wp2_with fail
        refine (HSp.out _).mono ?_
        rintro e w1 ⟨sl, rfl, hsl, hb1⟩
        have K2 := Lib.hid (HK.out.later hb1)
        have HB2 := Lib.hid (HB.out.trans (hb1.mono HB.out.size))
        obtain ⟨A, cap, rfl⟩ := hsl.len
        rw [HN.out]
        clear hsl hb1
        go_wp2_with fail
        refine (HMm.out _).mono ?_
        rintro e w2 ⟨⟨kv, vv, ok, rfl, hmp⟩, hb2⟩
        have K3 := Lib.hid (K2.out.later hb2)
        have HB3 := Lib.hid (HB2.out.trans (hb2.mono HB2.out.size))
        obtain ⟨rfl, hk, hv⟩ := hmp
        have HKs := Lib.hid hk
        have HVs := Lib.hid hv
        obtain ⟨Ak, ck, rfl⟩ := hk.len
        rw [List.length_map, HM.out]
        clear hk hv hb2
        go_wp2_with fail
        go_loopw [7] (fun iv wr => ∃ i : Nat, i ≤ M ∧ iv = .int .i64 (i : Int) ∧ Hid (otOf (l.drop i) = otOf l) ∧ wr = w2) (fun b _ => M - (intOf b).toNat)
        case atStart => exact ⟨0, by omega, rfl, Lib.hid rfl, rfl⟩
        case round =>
          obtain ⟨i, hi, rfl, hO, rfl⟩ := hrel
          by_cases hlt : i < M
          · have dl : decide ((i : Int) < (M : Int)) = true := by simp; omega
            have dl' : decide (i < M) = true := by simp; omega
            have hll : i < l.length := by rw [HM.out]; exact hlt
            obtain ⟨⟨k, v⟩, hkv⟩ : ∃ kv, l[i]? = some kv := ⟨_, List.getElem?_eq_getElem hll⟩
            have hks : (l.map Prod.fst)[i]? = some k := by rw [List.getElem?_map, hkv]; rfl
            have hvs : (l.map Prod.snd)[i]? = some v := by rw [List.getElem?_map, hkv]; rfl
            obtain ⟨g, cap', hsl', hcell⟩ := HKs.out.at hks
            injection hsl' with e1 e2 e3
            subst e1
            clear e2 e3
            obtain ⟨g2, cap2, rfl, hcell2⟩ := HVs.out.at hvs
            have hvv := HG.out.val (k, v) (List.mem_of_getElem? hkv)
            obtain ⟨hv0, hv200⟩ : v ≠ [] ∧ v.length ≤ 200 := val_some hvv
            unfold strV at hcell hcell2
            obtain ⟨kb, hkb⟩ : ∃ kb, bs k = kb := ⟨_, rfl⟩
            obtain ⟨vb, hvb⟩ : ∃ vb, bs v = vb := ⟨_, rfl⟩
            rw [hkb] at hcell
            rw [hvb] at hcell2
            by_cases hot : k = [111, 116]
            · have dk : (kb.toList == [111, 116]) = true := by rw [← hkb]; exact key_is _ hot
              have hoo : otOf l = some v := by rw [← hO.out]; exact otOf_here hkv hot
              have HRM := Lib.hid (fun W => refMarks_any vb W (by rw [← hvb, size_bs]; omega))
              rw [show vb.data.toList = v by rw [← hvb, list_bs], ot_marks hv0] at HRM
              have HOO := Lib.hid hoo
              clear hO hoo hkv hks hvs hkb hvb hot hvv hv0 hv200
              cases hw : (marks v).wrong with
              | true =>
                rw [hw] at HRM
                have HC : Hid ((readSt cs).1 = 31) := Lib.hid (by rw [HCG.out, HOO.out]; simp [otRead, hw])
                clear hw
                go_wp2_with fail
                refine (HRM.out _).mono ?_
                rintro e w4 ⟨⟨a, t, b, r, ok, rfl, hmk⟩, hb4⟩
                obtain rfl : ok = false := hmk
                have K4 := Lib.hid ((K3.out.later hb4).later (box_below (.cells #[.bool a, .int .u64 (t : Int), .bool b, .int .u64 (r : Int)] 29)))
                have HB4 := Lib.hid ((HB3.out.trans (hb4.mono HB3.out.size)).alloc (HB3.out.trans (hb4.mono HB3.out.size)).size (.cells #[.bool a, .int .u64 (t : Int), .bool b, .int .u64 (r : Int)] 29))
                clear hb4
                go_wp2_with (refine wpList_store_row rfl 29 (.tmp 2) _ rfl w.heap.size #[.bool false, .int .u64 0, .bool false, .int .u64 0] rfl rfl 29 #[.bool false, .int .u64 0, .bool false, .int .u64 0] K4.out (by kernel_rfl) rfl (by simp [Value.oneCell']) ?_)
                have hrz := setRow_heap _ _ _ #[.bool false, .int .u64 0, .bool false, .int .u64 0] _ _ (K4.out)
                have r0 := cell_of_row _ _ 0 _ _ _ hrz
                have r1 := cell_of_row _ _ 1 _ _ _ hrz
                have r2 := cell_of_row _ _ 2 _ _ _ hrz
                have r3 := cell_of_row _ _ 3 _ _ _ hrz
                exact bodyPost_ret (v := .tuple #[.agg #[.bool false, .int .u64 0, .bool false, .int .u64 0], .int .i64 31]) (by simp [results, Tryd.results43, go_sem, r0, r1, r2, r3]) rfl ⟨⟨false, 0, false, 0, by rw [HC.out]; rfl⟩, below_setRow (HB4.out) (Nat.le_refl _) _⟩
              | false =>
                rw [hw] at HRM
                have HC : Hid ((readSt cs).1 = 0) := Lib.hid (by rw [HCG.out, HOO.out]; simp [otRead, hw])
                clear hw
                go_wp2_with fail
                refine (HRM.out _).mono ?_
                rintro e w4 ⟨⟨a, t, b, r, ok, rfl, hmk⟩, hb4⟩
                obtain ⟨rfl, _⟩ := hmk
                have K4 := Lib.hid ((K3.out.later hb4).later (box_below (.cells #[.bool a, .int .u64 (t : Int), .bool b, .int .u64 (r : Int)] 29)))
                have HB4 := Lib.hid ((HB3.out.trans (hb4.mono HB3.out.size)).alloc (HB3.out.trans (hb4.mono HB3.out.size)).size (.cells #[.bool a, .int .u64 (t : Int), .bool b, .int .u64 (r : Int)] 29))
                clear hb4
                go_wp2_with (refine wpList_store_row rfl 29 (.tmp 2) _ rfl w.heap.size #[.bool a, .int .u64 (t : Int), .bool b, .int .u64 (r : Int)] rfl rfl 29 #[.bool false, .int .u64 0, .bool false, .int .u64 0] K4.out (by kernel_rfl) rfl (by simp [Value.oneCell']) ?_)
                have hrz := setRow_heap _ _ _ #[.bool a, .int .u64 (t : Int), .bool b, .int .u64 (r : Int)] _ _ (K4.out)
                have r0 := cell_of_row _ _ 0 _ _ _ hrz
                have r1 := cell_of_row _ _ 1 _ _ _ hrz
                have r2 := cell_of_row _ _ 2 _ _ _ hrz
                have r3 := cell_of_row _ _ 3 _ _ _ hrz
                exact bodyPost_ret (v := .tuple #[.agg #[.bool a, .int .u64 (t : Int), .bool b, .int .u64 (r : Int)], .int .i64 0]) (by simp [results, Tryd.results43, go_sem, r0, r1, r2, r3]) rfl ⟨⟨a, t, b, r, by rw [HC.out]; rfl⟩, below_setRow (HB4.out) (Nat.le_refl _) _⟩
            · have dk : (kb.toList == [111, 116]) = false := by rw [← hkb]; exact key_not hot
              have HO2 : Hid (otOf (l.drop (i + 1)) = otOf l) := Lib.hid (by rw [← hO.out, otOf_skip hkv hot])
              clear hO hkv hks hvs hkb hvb hot hvv hv0 hv200
              go_wp2_with fail
              go_roundw
              case rel => exact ⟨i + 1, by omega, by go_num, HO2, by trivial⟩
              case measure => simp [intOf]; omega
          · have dl : decide ((i : Int) < (M : Int)) = false := by simp; omega
            have dl' : decide (i < M) = false := by simp; omega
            obtain rfl : i = M := by omega
            have HC : Hid ((readSt cs).1 = 0) := Lib.hid (by rw [HCG.out, ← hO.out, List.drop_of_length_le (by rw [HM.out]; omega)]; rfl)
            clear hO
            go_wp2_with (refine wpList_store_row rfl 29 (.tmp 2) _ rfl w.heap.size #[.bool false, .int .u64 0, .bool false, .int .u64 0] rfl rfl 29 #[.bool false, .int .u64 0, .bool false, .int .u64 0] K3.out (by kernel_rfl) rfl (by simp [Value.oneCell']) ?_)
            have hrz := setRow_heap _ _ _ #[.bool false, .int .u64 0, .bool false, .int .u64 0] _ _ (K3.out)
            have r0 := cell_of_row _ _ 0 _ _ _ hrz
            have r1 := cell_of_row _ _ 1 _ _ _ hrz
            have r2 := cell_of_row _ _ 2 _ _ _ hrz
            have r3 := cell_of_row _ _ 3 _ _ _ hrz
            exact bodyPost_ret (v := .tuple #[.agg #[.bool false, .int .u64 0, .bool false, .int .u64 0], .int .i64 0]) (by simp [results, Tryd.results43, go_sem, r0, r1, r2, r3]) rfl ⟨⟨false, 0, false, 0, by rw [HC.out]; rfl⟩, below_setRow (HB3.out) (Nat.le_refl _) _⟩
  · have d5 : decide ((n : Int) > 512) = true := by simp; omega
    have d5' : decide (512 < n) = true := by simp; omega
    rw [hcs]
    have HC : Hid ((readSt cs).1 = 3) := Lib.hid (code_long (by rw [pieces_long, hl, d5']; rfl))
    clear hcs hl
    go_enter Tryd.func43, Tryd.ntmps43
    go_wp2_with (refine wpList_store_row rfl 29 (.tmp 2) _ rfl w.heap.size #[.bool false, .int .u64 0, .bool false, .int .u64 0] rfl rfl 29 #[.bool false, .int .u64 0, .bool false, .int .u64 0] HK.out (by kernel_rfl) rfl (by simp [Value.oneCell']) ?_)
    have hrz := setRow_heap _ _ _ #[.bool false, .int .u64 0, .bool false, .int .u64 0] _ _ (HK.out)
    have r0 := cell_of_row _ _ 0 _ _ _ hrz
    have r1 := cell_of_row _ _ 1 _ _ _ hrz
    have r2 := cell_of_row _ _ 2 _ _ _ hrz
    have r3 := cell_of_row _ _ 3 _ _ _ hrz
    exact bodyPost_ret (v := .tuple #[.agg #[.bool false, .int .u64 0, .bool false, .int .u64 0], .int .i64 3]) (by simp [results, Tryd.results43, go_sem, r0, r1, r2, r3]) rfl ⟨⟨false, 0, false, 0, by rw [HC.out]; rfl⟩, below_setRow (HB.out) (Nat.le_refl _) _⟩
end Go.Proofs.YtkfidolbbnmjfaaDoor
