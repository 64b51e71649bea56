/-
  What the document's own With of layer 4 (telemeterref04) tells, whatever the text and the marks. Laid by wip/tools/gen_refwith.py.
-/
import Derived.Test.YtkfidolbbnmjfaaDoorCtxRefShort
import Derived.Test.YtkfidolbbnmjfaaDoorCtxWith2
namespace Go.Proofs.YtkfidolbbnmjfaaDoor
open Go.RowKit Go.Shelf Go.Proofs.CtxState Go.Proofs.SeqOwn

def refV (p : List UInt8 × Nat) : Value := .tuple #[.string (bs p.1), .int .i64 (p.2 : Int)]
theorem with_bad {cs : List UInt8} {a : Bool} {t : Nat} {b : Bool} {r e : Nat} (h : (readSt cs).1 = e) (he : e ≠ 0) : withOf cs a t b r = ([], e) := by unfold withOf; rw [h, if_pos he]
theorem with_not {cs : List UInt8} {a : Bool} {t : Nat} {b : Bool} {r : Nat} (h : (readSt cs).1 = 0) (hm : areM a t b r = false) : withOf cs a t b r = ([], 1) := by unfold withOf; rw [h, hm]; rfl
theorem with_is {cs : List UInt8} {a : Bool} {t : Nat} {b : Bool} {r : Nat} (h : (readSt cs).1 = 0) (hm : areM a t b r = true) : withOf cs a t b r =
    if tooLong (Lib.join (membersW a t b r (readSt cs).2.2) [44]) then ([], 3) else (Lib.join (membersW a t b r (readSt cs).2.2) [44], 0) := by unfold withOf; rw [h, hm]; rfl
theorem mem_of {cs : List UInt8} (h : (members cs).2 = false) : refMem [] (pieces 44 cs) = some (members cs).1 := by rw [refMem_members, h]; rfl
theorem are_no {a : Bool} {t : Nat} {b : Bool} {r : Nat} : areM a t b r = !(decide (72057594037927936 ≤ (t : Int)) || decide (72057594037927936 ≤ (r : Int)) || (!a && decide (0 < (t : Int))) || (!b && decide (0 < (r : Int)))) := by
  unfold areM
  rw [Bool.eq_iff_iff]
  cases a <;> cases b <;> simp <;> omega
theorem txt_join {L : List (List UInt8)} (k v : List UInt8) (h : L ≠ []) : Lib.join (L ++ [txt (k, v)]) [44] = Lib.join L [44] ++ [44] ++ k ++ [61] ++ v := by
  rw [join_snoc _ _ _ h]; unfold txt; simp [List.append_assoc]
theorem txt_first (k v : List UInt8) : Lib.join ([] ++ [txt (k, v)]) [44] = k ++ [61] ++ v := by rw [List.nil_append, Lib.join_one]; rfl
theorem key_some {k : List UInt8} (h : rightKey k = true) : k.length ≤ 60 := by
  unfold rightKey at h
  simp only [Bool.and_eq_true, decide_eq_true_eq] at h
  exact h.1.2
/-- The loop's step: what is laid with one more. -/
theorem texts_more {ob kb vb : ByteArray} {L : List (List UInt8)} {k v : List UInt8} (h : ob = bs (Lib.join L [44])) (hk : kb = bs k) (hv : vb = bs v) (hl : (Lib.join L [44]).length ≤ 1000000) (hk60 : k.length ≤ 60) (hv200 : v.length ≤ 200) (hne : L ≠ []) :
    ∃ oc z1 z2 z3, ob ++ (⟨#[44]⟩ : ByteArray) = oc ∧ oc ++ kb = z1 ∧ z1 ++ (⟨#[61]⟩ : ByteArray) = z2 ∧ z2 ++ vb = z3 ∧ ¬ 9223372036854775807 < ob.size + 1 ∧ ¬ 9223372036854775807 < oc.size + kb.size ∧ ¬ 9223372036854775807 < z1.size + 1 ∧ ¬ 9223372036854775807 < z2.size + vb.size ∧ z3 = bs (Lib.join (L ++ [txt (k, v)]) [44]) := by
  refine ⟨_, _, _, _, rfl, rfl, rfl, rfl, ?_, ?_, ?_, ?_, ?_⟩
  · rw [h, size_bs]; omega
  · rw [h, hk, show (⟨#[44]⟩ : ByteArray) = bs [44] from rfl, addStr, size_bs, size_bs, List.length_append, List.length_singleton]; omega
  · rw [h, hk, show (⟨#[44]⟩ : ByteArray) = bs [44] from rfl, addStr, addStr, size_bs]; simp only [List.length_append, List.length_singleton]; omega
  · rw [h, hk, hv, show (⟨#[44]⟩ : ByteArray) = bs [44] from rfl, show (⟨#[61]⟩ : ByteArray) = bs [61] from rfl, addStr, addStr, addStr, size_bs, size_bs]; simp only [List.length_append, List.length_singleton]; omega
  · rw [h, hk, hv, show (⟨#[44]⟩ : ByteArray) = bs [44] from rfl, show (⟨#[61]⟩ : ByteArray) = bs [61] from rfl, addStr, addStr, addStr, addStr, txt_join k v hne]
theorem texts_first {ob kb vb : ByteArray} {k v : List UInt8} (h : ob = bs (Lib.join [] [44])) (hk : kb = bs k) (hv : vb = bs v) (hk60 : k.length ≤ 60) (hv200 : v.length ≤ 200) :
    ∃ z1 z2 z3, ob ++ kb = z1 ∧ z1 ++ (⟨#[61]⟩ : ByteArray) = z2 ∧ z2 ++ vb = z3 ∧ ¬ 9223372036854775807 < ob.size + kb.size ∧ ¬ 9223372036854775807 < z1.size + 1 ∧ ¬ 9223372036854775807 < z2.size + vb.size ∧ z3 = bs (Lib.join ([] ++ [txt (k, v)]) [44]) := by
  have h0 : ob = bs [] := h
  refine ⟨_, _, _, rfl, rfl, rfl, ?_, ?_, ?_, ?_⟩
  · rw [h0, hk, size_bs, size_bs]; simp only [List.length_nil]; omega
  · rw [h0, hk, addStr, size_bs, List.nil_append]; omega
  · rw [h0, hk, hv, show (⟨#[61]⟩ : ByteArray) = bs [61] from rfl, addStr, addStr, size_bs, size_bs]; simp only [List.length_append, List.length_singleton, List.length_nil]; omega
  · rw [h0, hk, hv, show (⟨#[61]⟩ : ByteArray) = bs [61] from rfl, addStr, addStr, addStr, txt_first k v, List.nil_append]
theorem join_size {L : List (List UInt8)} {ob : ByteArray} (h : ob = bs (Lib.join L [44])) (hne : ∀ x ∈ L, x ≠ []) : (ob.size = 0 ↔ L = []) := by
  rw [h, size_bs, List.length_eq_zero_iff]; exact join_empty L hne
/-- What is asked of the rest: members laid so far, and those to come, are all. -/
structure SoFar (cs : List UInt8) (a : Bool) (t : Nat) (b : Bool) (r i : Nat) (L : List (List UInt8)) (ob : ByteArray) : Prop where
  all : L ++ (others ((members cs).1.drop i)).map txt = membersW a t b r (readSt cs).2.2
  text : ob = bs (Lib.join L [44])

set_option maxRecDepth 100000 in
set_option maxHeartbeats 20000000 in
theorem refWith_any (s : ByteArray) (a : Bool) (t : Nat) (b : Bool) (r : Nat) (w : World) :
    Calls Tryd.prog 32 #[.string s, .agg #[.bool a, .int .u64 (t : Int), .bool b, .int .u64 (r : Int)]] w fun e w' => e = .returned (refV (withOf s.data.toList a t b r)) ∧ Below w.heap.size w w' := by
  have HRd := Lib.hid (fun W => refRead_any s W)
  obtain ⟨cs, hcs⟩ : ∃ cs, s.data.toList = cs := ⟨_, rfl⟩
  have hsl : cs.length = s.size := by rw [← hcs]; simp
  have hMm := fun W h => refMembers_any s W h
  rw [hcs] at HRd hMm ⊢
  obtain ⟨wo, hwo⟩ : ∃ wo, withOf cs a t b r = wo := ⟨_, rfl⟩
  rw [hwo]
  have hK := blk_new w #[.bool a, .int .u64 (t : Int), .bool b, .int .u64 (r : Int)] 29
  have hB := box_below (W := w) (.cells #[.bool a, .int .u64 (t : Int), .bool b, .int .u64 (r : Int)] 29)
  have HK := Lib.hid hK
  have HB := Lib.hid hB
  clear hK hB hcs
  rcases read_err cs with he | he | he
  · have HW : Hid (wo = ([], 3)) := Lib.hid (hwo.symm.trans (with_bad he (by decide)))
    rw [he] at HRd
    clear hwo hMm hsl he
    go_enter Tryd.func32, Tryd.ntmps32
    go_wp2_with fail
    refine (HRd.out _).mono ?_
    rintro e w1 ⟨⟨a0, t0, b0, r0, rfl⟩, hb1⟩
    have HB1 := Lib.hid ((HB.out.trans (hb1.mono HB.out.size)).alloc (HB.out.trans (hb1.mono HB.out.size)).size (.cells #[.bool a0, .int .u64 (t0 : Int), .bool b0, .int .u64 (r0 : Int)] 29))
    clear hb1
    go_wp2_with fail
    go_ret2
    exact ⟨by rw [HW.out]; rfl, HB1.out⟩
  · have HW : Hid (wo = ([], 31)) := Lib.hid (hwo.symm.trans (with_bad he (by decide)))
    rw [he] at HRd
    clear hwo hMm hsl he
    go_enter Tryd.func32, Tryd.ntmps32
    go_wp2_with fail
    refine (HRd.out _).mono ?_
    rintro e w1 ⟨⟨a0, t0, b0, r0, rfl⟩, hb1⟩
    have HB1 := Lib.hid ((HB.out.trans (hb1.mono HB.out.size)).alloc (HB.out.trans (hb1.mono HB.out.size)).size (.cells #[.bool a0, .int .u64 (t0 : Int), .bool b0, .int .u64 (r0 : Int)] 29))
    clear hb1
    go_wp2_with fail
    go_ret2
    exact ⟨by rw [HW.out]; rfl, HB1.out⟩
  · obtain ⟨hlo, hmb, hoth⟩ := readSt_oth he
    have hMm2 := fun W => hMm W (by
      unfold tooLong at hlo
      simp only [Bool.or_eq_false_iff, decide_eq_false_iff_not] at hlo
      omega)
    rw [mem_of hmb] at hMm2
    rw [he] at HRd
    have HMm := Lib.hid hMm2
    have HMB := Lib.hid hmb
    have HGd := Lib.hid (members_good hmb)
    have HOT := Lib.hid hoth
    cases hare : areM a t b r with
    | false =>
      have HW : Hid (wo = ([], 1)) := Lib.hid (hwo.symm.trans (with_not he hare))
      rw [are_no] at hare
      obtain ⟨p1, hp1⟩ : ∃ p, decide (72057594037927936 ≤ (t : Int)) = p := ⟨_, rfl⟩
      obtain ⟨p2, hp2⟩ : ∃ p, decide (72057594037927936 ≤ (r : Int)) = p := ⟨_, rfl⟩
      obtain ⟨p3, hp3⟩ : ∃ p, decide (0 < (t : Int)) = p := ⟨_, rfl⟩
      obtain ⟨p4, hp4⟩ : ∃ p, decide (0 < (r : Int)) = p := ⟨_, rfl⟩
      rw [hp1, hp2, hp3, hp4] at hare
      have n1 : decide (72057594037927936 ≤ t) = p1 := by rw [← hp1]; exact decide_eq_decide.2 (by omega)
      have n2 : decide (72057594037927936 ≤ r) = p2 := by rw [← hp2]; exact decide_eq_decide.2 (by omega)
      have n3 : decide (0 < t) = p3 := by rw [← hp3]; exact decide_eq_decide.2 (by omega)
      have n4 : decide (0 < r) = p4 := by rw [← hp4]; exact decide_eq_decide.2 (by omega)
      clear hwo hMm hMm2 hsl he hlo hmb hoth HMm HMB HGd HOT
      have fin : p1 = true ∨ (p1 = false ∧ p2 = true) ∨ (p1 = false ∧ p2 = false ∧ a = false ∧ p3 = true) ∨ (p1 = false ∧ p2 = false ∧ a = false ∧ p3 = false ∧ b = false ∧ p4 = true) ∨ (p1 = false ∧ p2 = false ∧ a = true ∧ b = false ∧ p4 = true) := by
        clear hp1 hp2 hp3 hp4 n1 n2 n3 n4 HRd HW HK HB
        revert hare
        cases p1 <;> cases p2 <;> cases a <;> cases p3 <;> cases b <;> cases p4 <;> simp
      clear hare
      rcases fin with rfl | ⟨rfl, rfl⟩ | ⟨rfl, rfl, rfl, rfl⟩ | ⟨rfl, rfl, rfl, rfl, rfl, rfl⟩ | ⟨rfl, rfl, rfl, rfl, rfl⟩ <;>
      · go_enter Tryd.func32, Tryd.ntmps32
        go_wp2_with fail
        refine (HRd.out _).mono ?_
        rintro e w1 ⟨⟨a0, t0, b0, r0, rfl⟩, hb1⟩
        have HB1 := Lib.hid ((HB.out.trans (hb1.mono HB.out.size)).alloc (HB.out.trans (hb1.mono HB.out.size)).size (.cells #[.bool a0, .int .u64 (t0 : Int), .bool b0, .int .u64 (r0 : Int)] 29))
        have k1 := (HK.out.later hb1).later (box_below (.cells #[.bool a0, .int .u64 (t0 : Int), .bool b0, .int .u64 (r0 : Int)] 29))
        have c0 := k1.cell 0 rfl
        have c1 := k1.cell 1 rfl
        have c2 := k1.cell 2 rfl
        have c3 := k1.cell 3 rfl
        clear hb1 k1
        go_wp2_with fail
        go_ret2
        exact ⟨by rw [HW.out]; rfl, HB1.out⟩
    | true =>
      have hW := hwo.symm.trans (with_is he hare)
      have HW := Lib.hid hW
      rw [are_no] at hare
      simp only [Bool.not_eq_true', Bool.or_eq_false_iff] at hare
      obtain ⟨⟨⟨p1, p2⟩, p3⟩, p4⟩ := hare
      have n1 : decide (72057594037927936 ≤ t) = false := by rw [← p1]; exact decide_eq_decide.2 (by omega)
      have n2 : decide (72057594037927936 ≤ r) = false := by rw [← p2]; exact decide_eq_decide.2 (by omega)
      have n3 : (!a && decide (0 < t)) = false := by rw [← p3]; congr 1; exact decide_eq_decide.2 (by omega)
      have n4 : (!b && decide (0 < r)) = false := by rw [← p4]; congr 1; exact decide_eq_decide.2 (by omega)
      obtain ⟨l, hl⟩ : ∃ l, (members cs).1 = l := ⟨_, rfl⟩
      rw [hl] at HMm HGd
      obtain ⟨M, hM⟩ : ∃ M, l.length = M := ⟨_, rfl⟩
      have hMb : M ≤ 5001 := by
        have h1 := members_count cs
        rw [hl] at h1
        unfold tooLong at hlo
        simp only [Bool.or_eq_false_iff, decide_eq_false_iff_not] at hlo
        omega
      have HM := Lib.hid hM
      have HL := Lib.hid hl
      have ht : t < 18446744073709551616 := by simp at n1; omega
      have hr : r < 18446744073709551616 := by simp at n2; omega
      have HSh := Lib.hid (fun W => refShort_any t W ht)
      have HDg : Hid (∀ W, Calls Tryd.prog 30 #[.int .u64 (r : Int), .int .i64 14] W fun e w' => e = .returned (.string (bs (CtxMath.last r 14))) ∧ W = w') := Lib.hid (fun W => refDigits_any r 14 W hr (by decide))
      obtain ⟨sb, hsb⟩ : ∃ sb, bs (shortL t) = sb := ⟨_, rfl⟩
      obtain ⟨rb, hrb⟩ : ∃ rb, bs (CtxMath.last r 14) = rb := ⟨_, rfl⟩
      have hsbl : sb.size ≤ 14 := by rw [← hsb, size_bs]; exact short_len t
      have hrbl : rb.size = 14 := by rw [← hrb, size_bs]; exact CtxMath.last_len r 14 (by omega)
      rw [hsb] at HSh
      rw [hrb] at HDg
      have HSB := Lib.hid hsb
      have HRB := Lib.hid hrb
      clear hwo hMm hMm2 hsl he hlo hmb hoth hW hM hl hsb hrb ht hr
      have HSo : Hid (∀ i L ob, SoFar cs a t b r i L ob → (Lib.join L [44]).length ≤ 1000000 ∧ L.length ≤ 514 ∧ (∀ x ∈ L, x ≠ []) ∧ (∀ x ∈ L, (44 : UInt8) ∉ x)) := Lib.hid (fun i L ob h => laid_so h.all HMB.out HOT.out)
      -- way 0: false, false
      have W0 : a = false → b = false → Calls Tryd.prog 32 #[.string s, .agg #[.bool a, .int .u64 (t : Int), .bool b, .int .u64 (r : Int)]] w fun e w' => e = .returned (refV wo) ∧ Below w.heap.size w w' := by
        rintro rfl rfl
        have n3a : decide (0 < t) = false := by simpa using n3
        have n3b : decide (0 < (t : Int)) = false := by simpa using p3
        have n4a : decide (0 < r) = false := by simpa using n4
        have n4b : decide (0 < (r : Int)) = false := by simpa using p4
        clear n3 n4 p3 p4
        have HS0 : Hid (SoFar cs false t false r 0 [] ⟨#[]⟩) := Lib.hid ⟨by rw [List.drop_zero, ← HOT.out]; rfl, rfl⟩
        go_enter Tryd.func32, Tryd.ntmps32
        go_wp2_with fail
        refine (HRd.out _).mono ?_
        rintro e w1 ⟨⟨a0, t0, b0, r0, rfl⟩, hb1⟩
        have HB1 := Lib.hid ((HB.out.trans (hb1.mono HB.out.size)).alloc (HB.out.trans (hb1.mono HB.out.size)).size (.cells #[.bool a0, .int .u64 (t0 : Int), .bool b0, .int .u64 (r0 : Int)] 29))
        have k1 := (HK.out.later hb1).later (box_below (.cells #[.bool a0, .int .u64 (t0 : Int), .bool b0, .int .u64 (r0 : Int)] 29))
        have c0 := k1.cell 0 rfl
        have c1 := k1.cell 1 rfl
        have c2 := k1.cell 2 rfl
        have c3 := k1.cell 3 rfl
        clear hb1 k1
        go_wp2_with fail
        refine (HMm.out _).mono ?_
        rintro e w3 ⟨⟨kv, vv, ok, rfl, hmp⟩, hb3⟩
        have HB3 := Lib.hid (HB1.out.trans (hb3.mono HB1.out.size))
        obtain ⟨rfl, hk, hv⟩ := hmp
        have HKs := Lib.hid hk
        have HVs := Lib.hid hv
        obtain ⟨Ak, ck, rfl⟩ := hk.len
        rw [List.length_map, HM.out]
        clear hk hv hb3 c0 c1 c2 c3
        go_wp2_with fail
        go_loopw [9, 10, 14] (fun ov mv iv wr => ∃ (i : Nat) (L : List (List UInt8)) (ob : ByteArray), i ≤ M ∧ ov = .string ob ∧ mv = .int .i64 (L.length : Int) ∧ iv = .int .i64 (i : Int) ∧ Hid (SoFar cs false t false r i L ob) ∧ Hid (Below w3.heap.size w3 wr)) (fun _ _ b _ => M - (intOf b).toNat)
        case atStart => exact ⟨0, [], ⟨#[]⟩, by omega, rfl, rfl, rfl, HS0, Lib.hid (Below.refl _ _)⟩
        case round =>
          obtain ⟨i, L, ob, hi, rfl, rfl, rfl, hS, hBw⟩ := hrel
          obtain ⟨l1, l2, l3, l4⟩ := HSo.out i L ob hS.out
          obtain ⟨m, hm⟩ : ∃ m, L.length = m := ⟨_, rfl⟩
          rw [hm] at l2 ⊢
          by_cases hlt : i < M
          · have dl : decide ((i : Int) < (M : Int)) = true := by simp; omega
            have dl' : decide (i < M) = true := by simp; omega
            have hll : i < l.length := by rw [HM.out]; exact hlt
            obtain ⟨⟨k, v⟩, hkv⟩ : ∃ kv, l[i]? = some kv := ⟨_, List.getElem?_eq_getElem hll⟩
            have hks : (l.map Prod.fst)[i]? = some k := by rw [List.getElem?_map, hkv]; rfl
            have hvs : (l.map Prod.snd)[i]? = some v := by rw [List.getElem?_map, hkv]; rfl
            obtain ⟨g, cap', hsl', hcellA⟩ := HKs.out.at hks
            injection hsl' with e1 e2 e3
            subst e1
            clear e2 e3
            obtain ⟨g2, cap2, rfl, hcellB⟩ := HVs.out.at hvs
            have hcell := (hBw.out.cell (p := ⟨g, i, none⟩) (World.block_lt_of_cell? _ _ hcellA)).trans hcellA
            have hcell2 := (hBw.out.cell (p := ⟨g2, i, none⟩) (World.block_lt_of_cell? _ _ hcellB)).trans hcellB
            have hv200 : v.length ≤ 200 := (val_some (HGd.out.val (k, v) (List.mem_of_getElem? hkv))).2
            have hk60 : k.length ≤ 60 := key_some (HGd.out.key (k, v) (List.mem_of_getElem? hkv))
            unfold strV at hcell hcell2
            clear hcellA hcellB
            obtain ⟨kb, hkb⟩ : ∃ kb, bs k = kb := ⟨_, rfl⟩
            obtain ⟨vb, hvb⟩ : ∃ vb, bs v = vb := ⟨_, rfl⟩
            rw [hkb] at hcell
            rw [hvb] at hcell2
            by_cases hot2 : k = [111, 116]
            · have dk : (kb.toList == [111, 116]) = true := by rw [← hkb]; exact key_is _ hot2
              have HS2 : Hid (SoFar cs false t false r (i + 1) L ob) := Lib.hid ⟨by
                have := hS.out.all
                rw [HL.out] at this ⊢
                rw [← others_skip hkv hot2]
                exact this, hS.out.text⟩
              clear hS hkv hks hvs hkb hvb hot2 hv200 hk60 l1 l3 l4
              have HLm := Lib.hid hm
              clear hm
              go_wp2_with fail
              go_roundw
              case rel => exact ⟨i + 1, L, ob, by omega, rfl, by rw [HLm.out], by go_num, HS2, hBw⟩
              case measure => simp [intOf]; omega
            · have dk : (kb.toList == [111, 116]) = false := by rw [← hkb]; exact key_not hot2
              have hall : (L ++ [txt (k, v)]) ++ (others (l.drop (i + 1))).map txt = membersW false t false r (readSt cs).2.2 := by
                have := hS.out.all
                rw [HL.out, others_here hkv hot2, List.map_cons] at this
                rw [List.append_assoc]
                exact this
              have HAll := Lib.hid hall
              by_cases hL0 : L = []
              · have de := empty_of (s := ob) ((join_size hS.out.text l3).2 hL0)
                have hSt := hS.out.text
                rw [hL0] at hSt
                obtain ⟨z1, z2, z3, t1, t2, t3, u1, u2, u3, hz⟩ := texts_first hSt hkb.symm hvb.symm hk60 hv200
                have HS2 : Hid (SoFar cs false t false r (i + 1) (L ++ [txt (k, v)]) z3) := Lib.hid ⟨by rw [HL.out]; exact HAll.out, by rw [hL0]; exact hz⟩
                have hm0 : m = 0 := by rw [← hm, hL0]; rfl
                have HLm : Hid ((L ++ [txt (k, v)]).length = m + 1) := Lib.hid (by simp [hm])
                clear hS hkv hks hvs hkb hvb hot2 hv200 hk60 l1 l3 l4 hSt hz hall hL0 hm hm0
                go_wp2_with fail
                go_quiet (fail)
                go_wp2_with fail
                go_roundw
                case rel => exact ⟨i + 1, L ++ [txt (k, v)], z3, by omega, rfl, by rw [HLm.out]; go_num, by go_num, HS2, Lib.hid (below_draws hBw.out _)⟩
                case measure => simp [intOf]; omega
              · have de := full_of (s := ob) (fun e => hL0 ((join_size hS.out.text l3).1 e))
                obtain ⟨oc, z1, z2, z3, t0, t1, t2, t3, u0, u1, u2, u3, hz⟩ := texts_more hS.out.text hkb.symm hvb.symm l1 hk60 hv200 hL0
                have HS2 : Hid (SoFar cs false t false r (i + 1) (L ++ [txt (k, v)]) z3) := Lib.hid ⟨by rw [HL.out]; exact HAll.out, hz⟩
                have HLm : Hid ((L ++ [txt (k, v)]).length = m + 1) := Lib.hid (by simp [hm])
                clear hS hkv hks hvs hkb hvb hot2 hv200 hk60 l1 l3 l4 hz hall hL0 hm
                go_wp2_with fail
                go_quiet (fail)
                go_wp2_with fail
                go_roundw
                case rel => exact ⟨i + 1, L ++ [txt (k, v)], z3, by omega, rfl, by rw [HLm.out]; go_num, by go_num, HS2, Lib.hid (below_draws hBw.out _)⟩
                case measure => simp [intOf]; omega
          · have dl : decide ((i : Int) < (M : Int)) = false := by simp; omega
            have dl' : decide (i < M) = false := by simp; omega
            obtain rfl : i = M := by omega
            have hLw : L = membersW false t false r (readSt cs).2.2 := by
              have := hS.out.all
              rw [HL.out, List.drop_of_length_le (by rw [HM.out]; omega)] at this
              simpa [others] using this
            have hjl := join_long l4
            obtain ⟨S, hS2⟩ : ∃ S, ob.size = S := ⟨_, rfl⟩
            have hjs : (Lib.join L [44]).length = S := by rw [← hS2, hS.out.text, size_bs]
            rw [hjs, hm] at hjl
            have hw := HW.out
            rw [← hLw, hjl] at hw
            have HTx := Lib.hid hS.out.text
            obtain ⟨b1, hb1⟩ : ∃ p, decide (512 < S) = p := ⟨_, rfl⟩
            obtain ⟨b2, hb2⟩ : ∃ p, decide (32 < m) = p := ⟨_, rfl⟩
            have i1 : decide ((S : Int) > 512) = b1 := by rw [← hb1]; exact decide_eq_decide.2 (by omega)
            have i2 : decide ((m : Int) > 32) = b2 := by rw [← hb2]; exact decide_eq_decide.2 (by omega)
            rw [hb1, hb2] at hw
            have HBf := Lib.hid (HB3.out.trans (hBw.out.mono HB3.out.size))
            have HWf := Lib.hid hw
            clear hLw hjl hjs hw hS l1 l3 l4 hm
            cases b1
            · cases b2
              · go_wp2_with fail
                go_ret2
                exact ⟨by rw [HWf.out, HTx.out]; rfl, HBf.out⟩
              · go_wp2_with fail
                go_ret2
                exact ⟨by rw [HWf.out]; rfl, HBf.out⟩
            · go_wp2_with fail
              go_ret2
              exact ⟨by rw [HWf.out]; rfl, HBf.out⟩
      -- way 1: false, true
      have W1 : a = false → b = true → Calls Tryd.prog 32 #[.string s, .agg #[.bool a, .int .u64 (t : Int), .bool b, .int .u64 (r : Int)]] w fun e w' => e = .returned (refV wo) ∧ Below w.heap.size w w' := by
        rintro rfl rfl
        have n3a : decide (0 < t) = false := by simpa using n3
        have n3b : decide (0 < (t : Int)) = false := by simpa using p3
        clear n3 n4 p3 p4
        have e0 : (⟨#[]⟩ : ByteArray) ++ (⟨#[114, 118, 58]⟩ : ByteArray) = ⟨#[114, 118, 58]⟩ := by decide
        obtain ⟨ot, hot⟩ : ∃ ot, (⟨#[114, 118, 58]⟩ : ByteArray) ++ rb = ot := ⟨_, rfl⟩
        have q4 : ¬ 9223372036854775807 < 3 + rb.size := by omega
        have hots : ot.size = 3 + rb.size := by rw [← hot, ByteArray.size_append]; rfl
        have HOv : Hid (ot = bs (laidV false t true r)) := Lib.hid (by rw [← hot, ← HRB.out, show (⟨#[114, 118, 58]⟩ : ByteArray) = bs [114, 118, 58] from rfl, addStr]; show bs _ = bs (Lib.join [[114, 118, 58] ++ CtxMath.last r 14] [59]); rw [Lib.join_one])
        have dot := full_of (s := ot) (by omega)
        obtain ⟨lm, hlm⟩ : ∃ lm, (⟨#[111, 116, 61]⟩ : ByteArray) ++ ot = lm := ⟨_, rfl⟩
        have q5 : ¬ 9223372036854775807 < 3 + ot.size := by omega
        have HS0 : Hid (SoFar cs false t true r 0 [laidM false t true r] lm) := Lib.hid ⟨by rw [List.drop_zero, ← HOT.out]; rfl, by
          rw [← hlm, HOv.out, show (⟨#[111, 116, 61]⟩ : ByteArray) = bs [111, 116, 61] from rfl, addStr, Lib.join_one]
          rfl⟩
        clear hots
        go_enter Tryd.func32, Tryd.ntmps32
        go_wp2_with fail
        refine (HRd.out _).mono ?_
        rintro e w1 ⟨⟨a0, t0, b0, r0, rfl⟩, hb1⟩
        have HB1 := Lib.hid ((HB.out.trans (hb1.mono HB.out.size)).alloc (HB.out.trans (hb1.mono HB.out.size)).size (.cells #[.bool a0, .int .u64 (t0 : Int), .bool b0, .int .u64 (r0 : Int)] 29))
        have k1 := (HK.out.later hb1).later (box_below (.cells #[.bool a0, .int .u64 (t0 : Int), .bool b0, .int .u64 (r0 : Int)] 29))
        have c0 := k1.cell 0 rfl
        have c1 := k1.cell 1 rfl
        have c2 := k1.cell 2 rfl
        have c3 := k1.cell 3 rfl
        clear hb1 k1
        go_wp2_with fail
        refine (HDg.out _).mono ?_
        rintro e w2 ⟨rfl, rfl⟩
        go_wp2_with fail
        refine (HMm.out _).mono ?_
        rintro e w3 ⟨⟨kv, vv, ok, rfl, hmp⟩, hb3⟩
        have HB3 := Lib.hid (HB1.out.trans (hb3.mono HB1.out.size))
        obtain ⟨rfl, hk, hv⟩ := hmp
        have HKs := Lib.hid hk
        have HVs := Lib.hid hv
        obtain ⟨Ak, ck, rfl⟩ := hk.len
        rw [List.length_map, HM.out]
        clear hk hv hb3 c0 c1 c2 c3
        go_wp2_with fail
        go_loopw [9, 10, 14] (fun ov mv iv wr => ∃ (i : Nat) (L : List (List UInt8)) (ob : ByteArray), i ≤ M ∧ ov = .string ob ∧ mv = .int .i64 (L.length : Int) ∧ iv = .int .i64 (i : Int) ∧ Hid (SoFar cs false t true r i L ob) ∧ Hid (Below w3.heap.size w3 wr)) (fun _ _ b _ => M - (intOf b).toNat)
        case atStart => exact ⟨0, [laidM false t true r], lm, by omega, rfl, rfl, rfl, HS0, Lib.hid (Below.refl _ _)⟩
        case round =>
          obtain ⟨i, L, ob, hi, rfl, rfl, rfl, hS, hBw⟩ := hrel
          obtain ⟨l1, l2, l3, l4⟩ := HSo.out i L ob hS.out
          obtain ⟨m, hm⟩ : ∃ m, L.length = m := ⟨_, rfl⟩
          rw [hm] at l2 ⊢
          by_cases hlt : i < M
          · have dl : decide ((i : Int) < (M : Int)) = true := by simp; omega
            have dl' : decide (i < M) = true := by simp; omega
            have hll : i < l.length := by rw [HM.out]; exact hlt
            obtain ⟨⟨k, v⟩, hkv⟩ : ∃ kv, l[i]? = some kv := ⟨_, List.getElem?_eq_getElem hll⟩
            have hks : (l.map Prod.fst)[i]? = some k := by rw [List.getElem?_map, hkv]; rfl
            have hvs : (l.map Prod.snd)[i]? = some v := by rw [List.getElem?_map, hkv]; rfl
            obtain ⟨g, cap', hsl', hcellA⟩ := HKs.out.at hks
            injection hsl' with e1 e2 e3
            subst e1
            clear e2 e3
            obtain ⟨g2, cap2, rfl, hcellB⟩ := HVs.out.at hvs
            have hcell := (hBw.out.cell (p := ⟨g, i, none⟩) (World.block_lt_of_cell? _ _ hcellA)).trans hcellA
            have hcell2 := (hBw.out.cell (p := ⟨g2, i, none⟩) (World.block_lt_of_cell? _ _ hcellB)).trans hcellB
            have hv200 : v.length ≤ 200 := (val_some (HGd.out.val (k, v) (List.mem_of_getElem? hkv))).2
            have hk60 : k.length ≤ 60 := key_some (HGd.out.key (k, v) (List.mem_of_getElem? hkv))
            unfold strV at hcell hcell2
            clear hcellA hcellB
            obtain ⟨kb, hkb⟩ : ∃ kb, bs k = kb := ⟨_, rfl⟩
            obtain ⟨vb, hvb⟩ : ∃ vb, bs v = vb := ⟨_, rfl⟩
            rw [hkb] at hcell
            rw [hvb] at hcell2
            by_cases hot2 : k = [111, 116]
            · have dk : (kb.toList == [111, 116]) = true := by rw [← hkb]; exact key_is _ hot2
              have HS2 : Hid (SoFar cs false t true r (i + 1) L ob) := Lib.hid ⟨by
                have := hS.out.all
                rw [HL.out] at this ⊢
                rw [← others_skip hkv hot2]
                exact this, hS.out.text⟩
              clear hS hkv hks hvs hkb hvb hot2 hv200 hk60 l1 l3 l4
              have HLm := Lib.hid hm
              clear hm
              go_wp2_with fail
              go_roundw
              case rel => exact ⟨i + 1, L, ob, by omega, rfl, by rw [HLm.out], by go_num, HS2, hBw⟩
              case measure => simp [intOf]; omega
            · have dk : (kb.toList == [111, 116]) = false := by rw [← hkb]; exact key_not hot2
              have hall : (L ++ [txt (k, v)]) ++ (others (l.drop (i + 1))).map txt = membersW false t true r (readSt cs).2.2 := by
                have := hS.out.all
                rw [HL.out, others_here hkv hot2, List.map_cons] at this
                rw [List.append_assoc]
                exact this
              have HAll := Lib.hid hall
              by_cases hL0 : L = []
              · have de := empty_of (s := ob) ((join_size hS.out.text l3).2 hL0)
                have hSt := hS.out.text
                rw [hL0] at hSt
                obtain ⟨z1, z2, z3, t1, t2, t3, u1, u2, u3, hz⟩ := texts_first hSt hkb.symm hvb.symm hk60 hv200
                have HS2 : Hid (SoFar cs false t true r (i + 1) (L ++ [txt (k, v)]) z3) := Lib.hid ⟨by rw [HL.out]; exact HAll.out, by rw [hL0]; exact hz⟩
                have hm0 : m = 0 := by rw [← hm, hL0]; rfl
                have HLm : Hid ((L ++ [txt (k, v)]).length = m + 1) := Lib.hid (by simp [hm])
                clear hS hkv hks hvs hkb hvb hot2 hv200 hk60 l1 l3 l4 hSt hz hall hL0 hm hm0
                go_wp2_with fail
                go_quiet (fail)
                go_wp2_with fail
                go_roundw
                case rel => exact ⟨i + 1, L ++ [txt (k, v)], z3, by omega, rfl, by rw [HLm.out]; go_num, by go_num, HS2, Lib.hid (below_draws hBw.out _)⟩
                case measure => simp [intOf]; omega
              · have de := full_of (s := ob) (fun e => hL0 ((join_size hS.out.text l3).1 e))
                obtain ⟨oc, z1, z2, z3, t0, t1, t2, t3, u0, u1, u2, u3, hz⟩ := texts_more hS.out.text hkb.symm hvb.symm l1 hk60 hv200 hL0
                have HS2 : Hid (SoFar cs false t true r (i + 1) (L ++ [txt (k, v)]) z3) := Lib.hid ⟨by rw [HL.out]; exact HAll.out, hz⟩
                have HLm : Hid ((L ++ [txt (k, v)]).length = m + 1) := Lib.hid (by simp [hm])
                clear hS hkv hks hvs hkb hvb hot2 hv200 hk60 l1 l3 l4 hz hall hL0 hm
                go_wp2_with fail
                go_quiet (fail)
                go_wp2_with fail
                go_roundw
                case rel => exact ⟨i + 1, L ++ [txt (k, v)], z3, by omega, rfl, by rw [HLm.out]; go_num, by go_num, HS2, Lib.hid (below_draws hBw.out _)⟩
                case measure => simp [intOf]; omega
          · have dl : decide ((i : Int) < (M : Int)) = false := by simp; omega
            have dl' : decide (i < M) = false := by simp; omega
            obtain rfl : i = M := by omega
            have hLw : L = membersW false t true r (readSt cs).2.2 := by
              have := hS.out.all
              rw [HL.out, List.drop_of_length_le (by rw [HM.out]; omega)] at this
              simpa [others] using this
            have hjl := join_long l4
            obtain ⟨S, hS2⟩ : ∃ S, ob.size = S := ⟨_, rfl⟩
            have hjs : (Lib.join L [44]).length = S := by rw [← hS2, hS.out.text, size_bs]
            rw [hjs, hm] at hjl
            have hw := HW.out
            rw [← hLw, hjl] at hw
            have HTx := Lib.hid hS.out.text
            obtain ⟨b1, hb1⟩ : ∃ p, decide (512 < S) = p := ⟨_, rfl⟩
            obtain ⟨b2, hb2⟩ : ∃ p, decide (32 < m) = p := ⟨_, rfl⟩
            have i1 : decide ((S : Int) > 512) = b1 := by rw [← hb1]; exact decide_eq_decide.2 (by omega)
            have i2 : decide ((m : Int) > 32) = b2 := by rw [← hb2]; exact decide_eq_decide.2 (by omega)
            rw [hb1, hb2] at hw
            have HBf := Lib.hid (HB3.out.trans (hBw.out.mono HB3.out.size))
            have HWf := Lib.hid hw
            clear hLw hjl hjs hw hS l1 l3 l4 hm
            cases b1
            · cases b2
              · go_wp2_with fail
                go_ret2
                exact ⟨by rw [HWf.out, HTx.out]; rfl, HBf.out⟩
              · go_wp2_with fail
                go_ret2
                exact ⟨by rw [HWf.out]; rfl, HBf.out⟩
            · go_wp2_with fail
              go_ret2
              exact ⟨by rw [HWf.out]; rfl, HBf.out⟩
      -- way 2: true, false
      have W2 : a = true → b = false → Calls Tryd.prog 32 #[.string s, .agg #[.bool a, .int .u64 (t : Int), .bool b, .int .u64 (r : Int)]] w fun e w' => e = .returned (refV wo) ∧ Below w.heap.size w w' := by
        rintro rfl rfl
        have n4a : decide (0 < r) = false := by simpa using n4
        have n4b : decide (0 < (r : Int)) = false := by simpa using p4
        clear n3 n4 p3 p4
        obtain ⟨zb, hzb⟩ : ∃ zb, (⟨#[116, 104, 58]⟩ : ByteArray) ++ sb = zb := ⟨_, rfl⟩
        have q1 : ¬ 9223372036854775807 < 3 + sb.size := by omega
        have hzbs : zb.size ≤ 17 := by rw [← hzb, ByteArray.size_append]; show 3 + sb.size ≤ 17; omega
        have HZB : Hid (zb = bs ([116, 104, 58] ++ shortL t)) := Lib.hid (by rw [← hzb, ← HSB.out, ← addStr]; rfl)
        obtain ⟨ot, hot⟩ : ∃ ot, zb = ot := ⟨_, rfl⟩
        rw [hot] at hzb hzbs HZB
        clear hot
        have hots : ot.size = 3 + sb.size := by rw [← hzb, ByteArray.size_append]; rfl
        have HOv : Hid (ot = bs (laidV true t false r)) := Lib.hid (by rw [HZB.out]; show bs _ = bs (Lib.join [[116, 104, 58] ++ shortL t] [59]); rw [Lib.join_one])
        have dot := full_of (s := ot) (by omega)
        obtain ⟨lm, hlm⟩ : ∃ lm, (⟨#[111, 116, 61]⟩ : ByteArray) ++ ot = lm := ⟨_, rfl⟩
        have q5 : ¬ 9223372036854775807 < 3 + ot.size := by omega
        have HS0 : Hid (SoFar cs true t false r 0 [laidM true t false r] lm) := Lib.hid ⟨by rw [List.drop_zero, ← HOT.out]; rfl, by
          rw [← hlm, HOv.out, show (⟨#[111, 116, 61]⟩ : ByteArray) = bs [111, 116, 61] from rfl, addStr, Lib.join_one]
          rfl⟩
        clear hots
        go_enter Tryd.func32, Tryd.ntmps32
        go_wp2_with fail
        refine (HRd.out _).mono ?_
        rintro e w1 ⟨⟨a0, t0, b0, r0, rfl⟩, hb1⟩
        have HB1 := Lib.hid ((HB.out.trans (hb1.mono HB.out.size)).alloc (HB.out.trans (hb1.mono HB.out.size)).size (.cells #[.bool a0, .int .u64 (t0 : Int), .bool b0, .int .u64 (r0 : Int)] 29))
        have k1 := (HK.out.later hb1).later (box_below (.cells #[.bool a0, .int .u64 (t0 : Int), .bool b0, .int .u64 (r0 : Int)] 29))
        have c0 := k1.cell 0 rfl
        have c1 := k1.cell 1 rfl
        have c2 := k1.cell 2 rfl
        have c3 := k1.cell 3 rfl
        clear hb1 k1
        go_wp2_with fail
        refine (HSh.out _).mono ?_
        rintro e w2 ⟨rfl, rfl⟩
        go_wp2_with fail
        refine (HMm.out _).mono ?_
        rintro e w3 ⟨⟨kv, vv, ok, rfl, hmp⟩, hb3⟩
        have HB3 := Lib.hid (HB1.out.trans (hb3.mono HB1.out.size))
        obtain ⟨rfl, hk, hv⟩ := hmp
        have HKs := Lib.hid hk
        have HVs := Lib.hid hv
        obtain ⟨Ak, ck, rfl⟩ := hk.len
        rw [List.length_map, HM.out]
        clear hk hv hb3 c0 c1 c2 c3
        go_wp2_with fail
        go_loopw [9, 10, 14] (fun ov mv iv wr => ∃ (i : Nat) (L : List (List UInt8)) (ob : ByteArray), i ≤ M ∧ ov = .string ob ∧ mv = .int .i64 (L.length : Int) ∧ iv = .int .i64 (i : Int) ∧ Hid (SoFar cs true t false r i L ob) ∧ Hid (Below w3.heap.size w3 wr)) (fun _ _ b _ => M - (intOf b).toNat)
        case atStart => exact ⟨0, [laidM true t false r], lm, by omega, rfl, rfl, rfl, HS0, Lib.hid (Below.refl _ _)⟩
        case round =>
          obtain ⟨i, L, ob, hi, rfl, rfl, rfl, hS, hBw⟩ := hrel
          obtain ⟨l1, l2, l3, l4⟩ := HSo.out i L ob hS.out
          obtain ⟨m, hm⟩ : ∃ m, L.length = m := ⟨_, rfl⟩
          rw [hm] at l2 ⊢
          by_cases hlt : i < M
          · have dl : decide ((i : Int) < (M : Int)) = true := by simp; omega
            have dl' : decide (i < M) = true := by simp; omega
            have hll : i < l.length := by rw [HM.out]; exact hlt
            obtain ⟨⟨k, v⟩, hkv⟩ : ∃ kv, l[i]? = some kv := ⟨_, List.getElem?_eq_getElem hll⟩
            have hks : (l.map Prod.fst)[i]? = some k := by rw [List.getElem?_map, hkv]; rfl
            have hvs : (l.map Prod.snd)[i]? = some v := by rw [List.getElem?_map, hkv]; rfl
            obtain ⟨g, cap', hsl', hcellA⟩ := HKs.out.at hks
            injection hsl' with e1 e2 e3
            subst e1
            clear e2 e3
            obtain ⟨g2, cap2, rfl, hcellB⟩ := HVs.out.at hvs
            have hcell := (hBw.out.cell (p := ⟨g, i, none⟩) (World.block_lt_of_cell? _ _ hcellA)).trans hcellA
            have hcell2 := (hBw.out.cell (p := ⟨g2, i, none⟩) (World.block_lt_of_cell? _ _ hcellB)).trans hcellB
            have hv200 : v.length ≤ 200 := (val_some (HGd.out.val (k, v) (List.mem_of_getElem? hkv))).2
            have hk60 : k.length ≤ 60 := key_some (HGd.out.key (k, v) (List.mem_of_getElem? hkv))
            unfold strV at hcell hcell2
            clear hcellA hcellB
            obtain ⟨kb, hkb⟩ : ∃ kb, bs k = kb := ⟨_, rfl⟩
            obtain ⟨vb, hvb⟩ : ∃ vb, bs v = vb := ⟨_, rfl⟩
            rw [hkb] at hcell
            rw [hvb] at hcell2
            by_cases hot2 : k = [111, 116]
            · have dk : (kb.toList == [111, 116]) = true := by rw [← hkb]; exact key_is _ hot2
              have HS2 : Hid (SoFar cs true t false r (i + 1) L ob) := Lib.hid ⟨by
                have := hS.out.all
                rw [HL.out] at this ⊢
                rw [← others_skip hkv hot2]
                exact this, hS.out.text⟩
              clear hS hkv hks hvs hkb hvb hot2 hv200 hk60 l1 l3 l4
              have HLm := Lib.hid hm
              clear hm
              go_wp2_with fail
              go_roundw
              case rel => exact ⟨i + 1, L, ob, by omega, rfl, by rw [HLm.out], by go_num, HS2, hBw⟩
              case measure => simp [intOf]; omega
            · have dk : (kb.toList == [111, 116]) = false := by rw [← hkb]; exact key_not hot2
              have hall : (L ++ [txt (k, v)]) ++ (others (l.drop (i + 1))).map txt = membersW true t false r (readSt cs).2.2 := by
                have := hS.out.all
                rw [HL.out, others_here hkv hot2, List.map_cons] at this
                rw [List.append_assoc]
                exact this
              have HAll := Lib.hid hall
              by_cases hL0 : L = []
              · have de := empty_of (s := ob) ((join_size hS.out.text l3).2 hL0)
                have hSt := hS.out.text
                rw [hL0] at hSt
                obtain ⟨z1, z2, z3, t1, t2, t3, u1, u2, u3, hz⟩ := texts_first hSt hkb.symm hvb.symm hk60 hv200
                have HS2 : Hid (SoFar cs true t false r (i + 1) (L ++ [txt (k, v)]) z3) := Lib.hid ⟨by rw [HL.out]; exact HAll.out, by rw [hL0]; exact hz⟩
                have hm0 : m = 0 := by rw [← hm, hL0]; rfl
                have HLm : Hid ((L ++ [txt (k, v)]).length = m + 1) := Lib.hid (by simp [hm])
                clear hS hkv hks hvs hkb hvb hot2 hv200 hk60 l1 l3 l4 hSt hz hall hL0 hm hm0
                go_wp2_with fail
                go_quiet (fail)
                go_wp2_with fail
                go_roundw
                case rel => exact ⟨i + 1, L ++ [txt (k, v)], z3, by omega, rfl, by rw [HLm.out]; go_num, by go_num, HS2, Lib.hid (below_draws hBw.out _)⟩
                case measure => simp [intOf]; omega
              · have de := full_of (s := ob) (fun e => hL0 ((join_size hS.out.text l3).1 e))
                obtain ⟨oc, z1, z2, z3, t0, t1, t2, t3, u0, u1, u2, u3, hz⟩ := texts_more hS.out.text hkb.symm hvb.symm l1 hk60 hv200 hL0
                have HS2 : Hid (SoFar cs true t false r (i + 1) (L ++ [txt (k, v)]) z3) := Lib.hid ⟨by rw [HL.out]; exact HAll.out, hz⟩
                have HLm : Hid ((L ++ [txt (k, v)]).length = m + 1) := Lib.hid (by simp [hm])
                clear hS hkv hks hvs hkb hvb hot2 hv200 hk60 l1 l3 l4 hz hall hL0 hm
                go_wp2_with fail
                go_quiet (fail)
                go_wp2_with fail
                go_roundw
                case rel => exact ⟨i + 1, L ++ [txt (k, v)], z3, by omega, rfl, by rw [HLm.out]; go_num, by go_num, HS2, Lib.hid (below_draws hBw.out _)⟩
                case measure => simp [intOf]; omega
          · have dl : decide ((i : Int) < (M : Int)) = false := by simp; omega
            have dl' : decide (i < M) = false := by simp; omega
            obtain rfl : i = M := by omega
            have hLw : L = membersW true t false r (readSt cs).2.2 := by
              have := hS.out.all
              rw [HL.out, List.drop_of_length_le (by rw [HM.out]; omega)] at this
              simpa [others] using this
            have hjl := join_long l4
            obtain ⟨S, hS2⟩ : ∃ S, ob.size = S := ⟨_, rfl⟩
            have hjs : (Lib.join L [44]).length = S := by rw [← hS2, hS.out.text, size_bs]
            rw [hjs, hm] at hjl
            have hw := HW.out
            rw [← hLw, hjl] at hw
            have HTx := Lib.hid hS.out.text
            obtain ⟨b1, hb1⟩ : ∃ p, decide (512 < S) = p := ⟨_, rfl⟩
            obtain ⟨b2, hb2⟩ : ∃ p, decide (32 < m) = p := ⟨_, rfl⟩
            have i1 : decide ((S : Int) > 512) = b1 := by rw [← hb1]; exact decide_eq_decide.2 (by omega)
            have i2 : decide ((m : Int) > 32) = b2 := by rw [← hb2]; exact decide_eq_decide.2 (by omega)
            rw [hb1, hb2] at hw
            have HBf := Lib.hid (HB3.out.trans (hBw.out.mono HB3.out.size))
            have HWf := Lib.hid hw
            clear hLw hjl hjs hw hS l1 l3 l4 hm
            cases b1
            · cases b2
              · go_wp2_with fail
                go_ret2
                exact ⟨by rw [HWf.out, HTx.out]; rfl, HBf.out⟩
              · go_wp2_with fail
                go_ret2
                exact ⟨by rw [HWf.out]; rfl, HBf.out⟩
            · go_wp2_with fail
              go_ret2
              exact ⟨by rw [HWf.out]; rfl, HBf.out⟩
      -- way 3: true, true
      have W3 : a = true → b = true → Calls Tryd.prog 32 #[.string s, .agg #[.bool a, .int .u64 (t : Int), .bool b, .int .u64 (r : Int)]] w fun e w' => e = .returned (refV wo) ∧ Below w.heap.size w w' := by
        rintro rfl rfl
        clear n3 n4 p3 p4
        obtain ⟨zb, hzb⟩ : ∃ zb, (⟨#[116, 104, 58]⟩ : ByteArray) ++ sb = zb := ⟨_, rfl⟩
        have q1 : ¬ 9223372036854775807 < 3 + sb.size := by omega
        have hzbs : zb.size ≤ 17 := by rw [← hzb, ByteArray.size_append]; show 3 + sb.size ≤ 17; omega
        have HZB : Hid (zb = bs ([116, 104, 58] ++ shortL t)) := Lib.hid (by rw [← hzb, ← HSB.out, ← addStr]; rfl)
        obtain ⟨zc, hzc⟩ : ∃ zc, zb ++ (⟨#[59]⟩ : ByteArray) = zc := ⟨_, rfl⟩
        have q2 : ¬ 9223372036854775807 < zb.size + 1 := by omega
        have hzcs : zc.size ≤ 18 := by rw [← hzc, ByteArray.size_append]; show zb.size + 1 ≤ 18; omega
        obtain ⟨zd, hzd⟩ : ∃ zd, zc ++ (⟨#[114, 118, 58]⟩ : ByteArray) = zd := ⟨_, rfl⟩
        have q3 : ¬ 9223372036854775807 < zc.size + 3 := by omega
        have hzds : zd.size ≤ 21 := by rw [← hzd, ByteArray.size_append]; show zc.size + 3 ≤ 21; omega
        obtain ⟨ot, hot⟩ : ∃ ot, zd ++ rb = ot := ⟨_, rfl⟩
        have q4 : ¬ 9223372036854775807 < zd.size + rb.size := by omega
        have hots : ot.size = zd.size + rb.size := by rw [← hot, ByteArray.size_append]
        have HOv : Hid (ot = bs (laidV true t true r)) := Lib.hid (by
          rw [← hot, ← hzd, ← hzc, HZB.out, ← HRB.out, show (⟨#[59]⟩ : ByteArray) = bs [59] from rfl, show (⟨#[114, 118, 58]⟩ : ByteArray) = bs [114, 118, 58] from rfl, addStr, addStr, addStr]
          congr 1
          show _ = Lib.join [[116, 104, 58] ++ shortL t, [114, 118, 58] ++ CtxMath.last r 14] [59]
          rw [join_two, Lib.join_one]
          simp [List.append_assoc])
        have dot := full_of (s := ot) (by omega)
        obtain ⟨lm, hlm⟩ : ∃ lm, (⟨#[111, 116, 61]⟩ : ByteArray) ++ ot = lm := ⟨_, rfl⟩
        have q5 : ¬ 9223372036854775807 < 3 + ot.size := by omega
        have HS0 : Hid (SoFar cs true t true r 0 [laidM true t true r] lm) := Lib.hid ⟨by rw [List.drop_zero, ← HOT.out]; rfl, by
          rw [← hlm, HOv.out, show (⟨#[111, 116, 61]⟩ : ByteArray) = bs [111, 116, 61] from rfl, addStr, Lib.join_one]
          rfl⟩
        clear hots
        go_enter Tryd.func32, Tryd.ntmps32
        go_wp2_with fail
        refine (HRd.out _).mono ?_
        rintro e w1 ⟨⟨a0, t0, b0, r0, rfl⟩, hb1⟩
        have HB1 := Lib.hid ((HB.out.trans (hb1.mono HB.out.size)).alloc (HB.out.trans (hb1.mono HB.out.size)).size (.cells #[.bool a0, .int .u64 (t0 : Int), .bool b0, .int .u64 (r0 : Int)] 29))
        have k1 := (HK.out.later hb1).later (box_below (.cells #[.bool a0, .int .u64 (t0 : Int), .bool b0, .int .u64 (r0 : Int)] 29))
        have c0 := k1.cell 0 rfl
        have c1 := k1.cell 1 rfl
        have c2 := k1.cell 2 rfl
        have c3 := k1.cell 3 rfl
        clear hb1 k1
        go_wp2_with fail
        refine (HSh.out _).mono ?_
        rintro e w2 ⟨rfl, rfl⟩
        go_wp2_with fail
        refine (HDg.out _).mono ?_
        rintro e w2 ⟨rfl, rfl⟩
        go_wp2_with fail
        refine (HMm.out _).mono ?_
        rintro e w3 ⟨⟨kv, vv, ok, rfl, hmp⟩, hb3⟩
        have HB3 := Lib.hid (HB1.out.trans (hb3.mono HB1.out.size))
        obtain ⟨rfl, hk, hv⟩ := hmp
        have HKs := Lib.hid hk
        have HVs := Lib.hid hv
        obtain ⟨Ak, ck, rfl⟩ := hk.len
        rw [List.length_map, HM.out]
        clear hk hv hb3 c0 c1 c2 c3
        go_wp2_with fail
        go_loopw [9, 10, 14] (fun ov mv iv wr => ∃ (i : Nat) (L : List (List UInt8)) (ob : ByteArray), i ≤ M ∧ ov = .string ob ∧ mv = .int .i64 (L.length : Int) ∧ iv = .int .i64 (i : Int) ∧ Hid (SoFar cs true t true r i L ob) ∧ Hid (Below w3.heap.size w3 wr)) (fun _ _ b _ => M - (intOf b).toNat)
        case atStart => exact ⟨0, [laidM true t true r], lm, by omega, rfl, rfl, rfl, HS0, Lib.hid (Below.refl _ _)⟩
        case round =>
          obtain ⟨i, L, ob, hi, rfl, rfl, rfl, hS, hBw⟩ := hrel
          obtain ⟨l1, l2, l3, l4⟩ := HSo.out i L ob hS.out
          obtain ⟨m, hm⟩ : ∃ m, L.length = m := ⟨_, rfl⟩
          rw [hm] at l2 ⊢
          by_cases hlt : i < M
          · have dl : decide ((i : Int) < (M : Int)) = true := by simp; omega
            have dl' : decide (i < M) = true := by simp; omega
            have hll : i < l.length := by rw [HM.out]; exact hlt
            obtain ⟨⟨k, v⟩, hkv⟩ : ∃ kv, l[i]? = some kv := ⟨_, List.getElem?_eq_getElem hll⟩
            have hks : (l.map Prod.fst)[i]? = some k := by rw [List.getElem?_map, hkv]; rfl
            have hvs : (l.map Prod.snd)[i]? = some v := by rw [List.getElem?_map, hkv]; rfl
            obtain ⟨g, cap', hsl', hcellA⟩ := HKs.out.at hks
            injection hsl' with e1 e2 e3
            subst e1
            clear e2 e3
            obtain ⟨g2, cap2, rfl, hcellB⟩ := HVs.out.at hvs
            have hcell := (hBw.out.cell (p := ⟨g, i, none⟩) (World.block_lt_of_cell? _ _ hcellA)).trans hcellA
            have hcell2 := (hBw.out.cell (p := ⟨g2, i, none⟩) (World.block_lt_of_cell? _ _ hcellB)).trans hcellB
            have hv200 : v.length ≤ 200 := (val_some (HGd.out.val (k, v) (List.mem_of_getElem? hkv))).2
            have hk60 : k.length ≤ 60 := key_some (HGd.out.key (k, v) (List.mem_of_getElem? hkv))
            unfold strV at hcell hcell2
            clear hcellA hcellB
            obtain ⟨kb, hkb⟩ : ∃ kb, bs k = kb := ⟨_, rfl⟩
            obtain ⟨vb, hvb⟩ : ∃ vb, bs v = vb := ⟨_, rfl⟩
            rw [hkb] at hcell
            rw [hvb] at hcell2
            by_cases hot2 : k = [111, 116]
            · have dk : (kb.toList == [111, 116]) = true := by rw [← hkb]; exact key_is _ hot2
              have HS2 : Hid (SoFar cs true t true r (i + 1) L ob) := Lib.hid ⟨by
                have := hS.out.all
                rw [HL.out] at this ⊢
                rw [← others_skip hkv hot2]
                exact this, hS.out.text⟩
              clear hS hkv hks hvs hkb hvb hot2 hv200 hk60 l1 l3 l4
              have HLm := Lib.hid hm
              clear hm
              go_wp2_with fail
              go_roundw
              case rel => exact ⟨i + 1, L, ob, by omega, rfl, by rw [HLm.out], by go_num, HS2, hBw⟩
              case measure => simp [intOf]; omega
            · have dk : (kb.toList == [111, 116]) = false := by rw [← hkb]; exact key_not hot2
              have hall : (L ++ [txt (k, v)]) ++ (others (l.drop (i + 1))).map txt = membersW true t true r (readSt cs).2.2 := by
                have := hS.out.all
                rw [HL.out, others_here hkv hot2, List.map_cons] at this
                rw [List.append_assoc]
                exact this
              have HAll := Lib.hid hall
              by_cases hL0 : L = []
              · have de := empty_of (s := ob) ((join_size hS.out.text l3).2 hL0)
                have hSt := hS.out.text
                rw [hL0] at hSt
                obtain ⟨z1, z2, z3, t1, t2, t3, u1, u2, u3, hz⟩ := texts_first hSt hkb.symm hvb.symm hk60 hv200
                have HS2 : Hid (SoFar cs true t true r (i + 1) (L ++ [txt (k, v)]) z3) := Lib.hid ⟨by rw [HL.out]; exact HAll.out, by rw [hL0]; exact hz⟩
                have hm0 : m = 0 := by rw [← hm, hL0]; rfl
                have HLm : Hid ((L ++ [txt (k, v)]).length = m + 1) := Lib.hid (by simp [hm])
                clear hS hkv hks hvs hkb hvb hot2 hv200 hk60 l1 l3 l4 hSt hz hall hL0 hm hm0
                go_wp2_with fail
                go_quiet (fail)
                go_wp2_with fail
                go_roundw
                case rel => exact ⟨i + 1, L ++ [txt (k, v)], z3, by omega, rfl, by rw [HLm.out]; go_num, by go_num, HS2, Lib.hid (below_draws hBw.out _)⟩
                case measure => simp [intOf]; omega
              · have de := full_of (s := ob) (fun e => hL0 ((join_size hS.out.text l3).1 e))
                obtain ⟨oc, z1, z2, z3, t0, t1, t2, t3, u0, u1, u2, u3, hz⟩ := texts_more hS.out.text hkb.symm hvb.symm l1 hk60 hv200 hL0
                have HS2 : Hid (SoFar cs true t true r (i + 1) (L ++ [txt (k, v)]) z3) := Lib.hid ⟨by rw [HL.out]; exact HAll.out, hz⟩
                have HLm : Hid ((L ++ [txt (k, v)]).length = m + 1) := Lib.hid (by simp [hm])
                clear hS hkv hks hvs hkb hvb hot2 hv200 hk60 l1 l3 l4 hz hall hL0 hm
                go_wp2_with fail
                go_quiet (fail)
                go_wp2_with fail
                go_roundw
                case rel => exact ⟨i + 1, L ++ [txt (k, v)], z3, by omega, rfl, by rw [HLm.out]; go_num, by go_num, HS2, Lib.hid (below_draws hBw.out _)⟩
                case measure => simp [intOf]; omega
          · have dl : decide ((i : Int) < (M : Int)) = false := by simp; omega
            have dl' : decide (i < M) = false := by simp; omega
            obtain rfl : i = M := by omega
            have hLw : L = membersW true t true r (readSt cs).2.2 := by
              have := hS.out.all
              rw [HL.out, List.drop_of_length_le (by rw [HM.out]; omega)] at this
              simpa [others] using this
            have hjl := join_long l4
            obtain ⟨S, hS2⟩ : ∃ S, ob.size = S := ⟨_, rfl⟩
            have hjs : (Lib.join L [44]).length = S := by rw [← hS2, hS.out.text, size_bs]
            rw [hjs, hm] at hjl
            have hw := HW.out
            rw [← hLw, hjl] at hw
            have HTx := Lib.hid hS.out.text
            obtain ⟨b1, hb1⟩ : ∃ p, decide (512 < S) = p := ⟨_, rfl⟩
            obtain ⟨b2, hb2⟩ : ∃ p, decide (32 < m) = p := ⟨_, rfl⟩
            have i1 : decide ((S : Int) > 512) = b1 := by rw [← hb1]; exact decide_eq_decide.2 (by omega)
            have i2 : decide ((m : Int) > 32) = b2 := by rw [← hb2]; exact decide_eq_decide.2 (by omega)
            rw [hb1, hb2] at hw
            have HBf := Lib.hid (HB3.out.trans (hBw.out.mono HB3.out.size))
            have HWf := Lib.hid hw
            clear hLw hjl hjs hw hS l1 l3 l4 hm
            cases b1
            · cases b2
              · go_wp2_with fail
                go_ret2
                exact ⟨by rw [HWf.out, HTx.out]; rfl, HBf.out⟩
              · go_wp2_with fail
                go_ret2
                exact ⟨by rw [HWf.out]; rfl, HBf.out⟩
            · go_wp2_with fail
              go_ret2
              exact ⟨by rw [HWf.out]; rfl, HBf.out⟩
      cases a
      · cases b
        · exact W0 rfl rfl
        · exact W1 rfl rfl
      · cases b
        · exact W2 rfl rfl
        · exact W3 rfl rfl
end Go.Proofs.YtkfidolbbnmjfaaDoor
