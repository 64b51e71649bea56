/-
  The document's own marks of layer 4 (telemeterref04), whatever the text. Laid by wip/tools/gen_refmarks.py.
-/
import Derived.Test.YtkfidolbbnmjfaaDoorCtxRefMem
import Derived.Test.YtkfidolbbnmjfaaDoorCtxRefNum
import Derived.Test.YtkfidolbbnmjfaaDoorBlk0
namespace Go.Proofs.YtkfidolbbnmjfaaDoor
open Go.RowKit Go.Shelf Go.Proofs.CtxState Go.Proofs.SeqOwn

theorem times_step (v k : Nat) : (16 * v % 18446744073709551616) * 16 ^ k % 18446744073709551616 = v * 16 ^ (k + 1) % 18446744073709551616 := by
  rw [Nat.mod_mul_mod, Nat.pow_succ]
  congr 1
  rw [Nat.mul_comm 16 v, Nat.mul_assoc, Nat.mul_comm 16]
theorem times_u (v : Nat) : ∃ u : Nat, IntKind.u64.wrap (16 * (v : Int)) = (u : Int) ∧ u = 16 * v % 18446744073709551616 := ⟨16 * v % 18446744073709551616, by rw [IntKind.wrap_u64]; omega, rfl⟩
theorem part_yes {l n : Nat} {x : List UInt8} (h : CtxMath.hexNum x = some n) (h1 : l ≤ x.length) (h2 : x.length ≤ 14) : partOf l x = some (n * 16 ^ (14 - x.length) % 18446744073709551616) := by
  unfold partOf; rw [h]; simp only; rw [if_pos (by simp [h1, h2])]
theorem part_no {l : Nat} {x : List UInt8} (h : CtxMath.hexNum x = none ∨ x.length < l ∨ 14 < x.length) : partOf l x = none := by
  unfold partOf
  split
  · rfl
  · rename_i n hn
    rcases h with h | h | h
    · rw [h] at hn; cases hn
    · rw [if_neg (by simp; omega)]
    · rw [if_neg (by simp; omega)]
theorem th_wrong {m : Mk} {y : List UInt8} (h : m.hasT = true ∨ CtxMath.hexNum y = none ∨ y.length < 1 ∨ 14 < y.length) : (CtxState.step m ([116, 104], y)).wrong = true := by
  rw [step_th_no (h.elim .inl (fun h => .inr (part_no h)))]
theorem rv_wrong {m : Mk} {y : List UInt8} (h : m.hasR = true ∨ CtxMath.hexNum y = none ∨ y.length < 14 ∨ 14 < y.length) : (CtxState.step m ([114, 118], y)).wrong = true := by
  rw [step_rv_no (h.elim .inl (fun h => .inr (part_no h)))]
theorem key_is (k : List UInt8) {l : List UInt8} (h : k = l) : ((bs k).toList == l) = true := by
  subst h
  rw [ByteArray.toList_eq, list_bs]
  exact beq_self_eq_true _
theorem key_not {k l : List UInt8} (h : k ≠ l) : ((bs k).toList == l) = false := by
  rw [ByteArray.toList_eq, list_bs, beq_eq_false_iff_ne]
  exact h
def mkPost (R : Option Mk) (a : Bool) (t : Nat) (b : Bool) (r : Nat) (ok : Bool) : Prop :=
  match R with
  | none => ok = false
  | some m => ok = true ∧ m = ⟨a, t, b, r, false⟩

set_option maxRecDepth 100000 in
set_option maxHeartbeats 8000000 in
theorem refMarks_any (s : ByteArray) (w : World) (hs : s.size ≤ 5000) : Calls Tryd.prog 64 #[.string s] w fun e w' => (∃ a t b r ok, e = .returned (.tuple #[.agg #[.bool a, .int .u64 ((t : Nat) : Int), .bool b, .int .u64 ((r : Nat) : Int)], .bool ok]) ∧ mkPost (refMk CtxState.start (pieces 59 s.data.toList)) a t b r ok) ∧ Below w.heap.size w w' := by
  have HSp : Hid (∀ W, Calls Tryd.prog 63 #[.string s, .int .u8 59] W fun e w' => ∃ sl, e = .returned sl ∧ SL w' W.heap.size sl (pieces 59 s.data.toList) ∧ Below W.heap.size W w') := Lib.hid (fun W => refSplit_any s 59 W hs)
  obtain ⟨ps, hps⟩ : ∃ ps, pieces 59 s.data.toList = ps := ⟨_, rfl⟩
  have hpn : ∀ p ∈ ps, p.length ≤ 5000 := fun p hp => by
    rw [← hps] at hp
    obtain ⟨h1, h2⟩ := pieces_no hp
    simp at h2; omega
  have hpc : ps.length ≤ 5001 := by rw [← hps]; have := pieces_count 59 s.data.toList; simp at this; omega
  rw [hps] at HSp ⊢
  clear hps hs
  obtain ⟨R, hR⟩ : ∃ R, refMk CtxState.start ps = R := ⟨_, rfl⟩
  rw [hR]
  have HR := Lib.hid hR
  have HPN := Lib.hid hpn
  obtain ⟨N, hN⟩ : ∃ N, ps.length = N := ⟨_, rfl⟩
  rw [hN] at hpc
  have HN := Lib.hid hN
  clear hR hpn hN
  have hk2 := (blk_new w #[.bool false, .int .u64 0, .bool false, .int .u64 0] 29).later (box_below (.cells #[.bool false, .int .u64 0, .bool false, .int .u64 0] 29))
  have hk4 := blk_new (w.alloc (.cells #[.bool false, .int .u64 0, .bool false, .int .u64 0] 29)) #[.bool false, .int .u64 0, .bool false, .int .u64 0] 29
  have hb2 := (box_below (W := w) (.cells #[.bool false, .int .u64 0, .bool false, .int .u64 0] 29)).alloc (by simp) (.cells #[.bool false, .int .u64 0, .bool false, .int .u64 0] 29)
  rw [World.size_alloc] at hk4
  have H2 := Lib.hid hk2
  have H4 := Lib.hid hk4
  have HB2 := Lib.hid hb2
  clear hk2 hk4 hb2
  go_enter Tryd.func64, Tryd.ntmps64
  go_wp2_with fail
  refine (HSp.out _).mono ?_
  rintro e w3 ⟨sl, rfl, hsl, hb3⟩
  have HS := Lib.hid hsl
  have K2 := Lib.hid (H2.out.later hb3)
  have K4 := Lib.hid (H4.out.later hb3)
  have HB := Lib.hid (HB2.out.trans (hb3.mono HB2.out.size))
  obtain ⟨A, cap, rfl⟩ := hsl.len
  rw [HN.out]
  clear hsl hb3 H2 H4 HB2
  go_wp2_with fail
  go_loopw [6] (fun iv wr => ∃ (i : Nat) (a : Bool) (t : Nat) (b : Bool) (r : Nat), i ≤ N ∧ iv = .int .i64 (i : Int) ∧ Hid (Below w.heap.size w wr) ∧ Hid (Blk wr w.heap.size #[.bool false, .int .u64 0, .bool false, .int .u64 0] 29) ∧ Hid (Blk wr (w.heap.size + 1) #[.bool a, .int .u64 (t : Int), .bool b, .int .u64 (r : Int)] 29) ∧ Hid (Only (fun k => k = w.heap.size + 1) w3 wr) ∧ Hid (refMk ⟨a, t, b, r, false⟩ (ps.drop i) = R)) (fun b _ => N - (intOf b).toNat)
  case atStart => exact ⟨0, false, 0, false, 0, by omega, rfl, HB, K2, K4, Lib.hid (Only.refl _ _), HR⟩
  case round =>
    clear HB K2 K4
    obtain ⟨i, a, t, b, r, hi, rfl, HB, K2, K4, HO, hG⟩ := hrel
    have c0 := K4.out.cell 0 rfl
    have c1 := K4.out.cell 1 rfl
    have c2 := K4.out.cell 2 rfl
    have c3 := K4.out.cell 3 rfl
    by_cases hlt : i < N
    · have dl : decide ((i : Int) < (N : Int)) = true := by simp; omega
      have dl' : decide (i < N) = true := by simp; omega
      obtain ⟨p, hp, hpm, hdr⟩ := piece_cases (ps := ps) (i := i) (by rw [HN.out]; exact hlt)
      obtain ⟨g, cap', hsl', hcell⟩ := HS.out.at hp
      have hgb : g ≠ w.heap.size + 1 := by
        have := (World.ownsRow.lt HS.out g (by rw [hsl']; rfl)).1
        simp at this; omega
      injection hsl' with e1 e2 e3
      subst e1
      clear e2 e3
      have hPN := HPN.out p hpm
      have hc1 := HO.out.cell hcell hgb
      unfold strV at hc1 hcell
      obtain ⟨pb, hpb⟩ : ∃ pb, bs p = pb := ⟨_, rfl⟩
      have hpl : pb.size ≤ 5000 := by rw [← hpb, size_bs]; exact hPN
      have hpd : pb.data.toList = p := by rw [← hpb, list_bs]
      have HPl : Hid (∀ W, Calls Tryd.prog 65 #[.string pb, .int .u8 58] W fun e w' => e = .returned (.int .i64 (Lib.indexByte p 58)) ∧ W = w') := Lib.hid (fun W => (refPlace_any pb 58 W (by omega)).mono (R' := fun e w' => e = .returned (.int .i64 (Lib.indexByte p 58)) ∧ W = w') (fun _ _ h => by rw [hpd] at h; exact h))
      rw [hpb] at hc1 hcell
      rcases index_cases p 58 with ⟨q1, q2, _⟩ | ⟨k, q1, q2, q3, _⟩
      · have HNo : Hid (R = none) := Lib.hid (by rw [← hG.out, hdr]; exact refMk_none _ q2)
        rw [q1] at HPl
        clear q1 q2 hdr hp hpm hcell hPN hpl hpd hpb hG
        go_wp2_with fail
        refine (HPl.out _).mono ?_
        rintro e w4 ⟨rfl, rfl⟩
        go_wp2_with (refine wpList_store_row rfl 29 (.tmp 2) _ rfl w.heap.size #[.bool a, .int .u64 (t : Int), .bool b, .int .u64 (r : Int)] rfl rfl 29 #[.bool false, .int .u64 0, .bool false, .int .u64 0] K2.out (by kernel_rfl) rfl (by simp [Value.oneCell']) ?_)
        have hrz := setRow_heap _ _ _ #[.bool a, .int .u64 (t : Int), .bool b, .int .u64 (r : Int)] _ _ K2.out
        have r0 := cell_of_row _ _ 0 _ _ _ hrz
        have r1 := cell_of_row _ _ 1 _ _ _ hrz
        have r2 := cell_of_row _ _ 2 _ _ _ hrz
        have r3 := cell_of_row _ _ 3 _ _ _ hrz
        exact bodyPost_ret (v := .tuple #[.agg #[.bool a, .int .u64 (t : Int), .bool b, .int .u64 (r : Int)], .bool false]) (by simp [results, Tryd.results64, go_sem, r0, r1, r2, r3]) rfl ⟨⟨_, _, _, _, _, rfl, by rw [HNo.out]; rfl⟩, below_setRow HB.out (Nat.le_refl _) _⟩
      · rw [q1] at HPl
        have hpk : p.length = pb.size := by rw [← hpd]; simp
        have hkl : k < pb.size := by omega
        obtain ⟨kb, hkb⟩ : ∃ kb, pb.extract 0 k = kb := ⟨_, rfl⟩
        obtain ⟨vb, hvb⟩ : ∃ vb, pb.extract (k + 1) pb.size = vb := ⟨_, rfl⟩
        have ekb : kb = bs (p.take k) := by rw [← hkb, ← hpb, bs_take]
        have evb : vb = bs (p.drop (k + 1)) := by rw [← hvb, ← hpb, bs_drop]
        obtain ⟨x, hx⟩ : ∃ x, p.take k = x := ⟨_, rfl⟩
        obtain ⟨y, hy⟩ : ∃ y, p.drop (k + 1) = y := ⟨_, rfl⟩
        rw [hx] at ekb q3
        rw [hy] at evb q3
        have hvd : vb.data.toList = y := by rw [evb, list_bs]
        obtain ⟨Ln, hLn⟩ : ∃ L, vb.size = L := ⟨_, rfl⟩
        have hyl : y.length = Ln := by rw [← hLn, evb, size_bs]
        have hvs : Ln ≤ 9223372036854775807 := by rw [← hyl, ← hy, List.length_drop]; omega
        have HQ := Lib.hid q3
        have HDR := Lib.hid hdr
        have HYL := Lib.hid hyl
        obtain ⟨o, ho⟩ : ∃ o, CtxMath.hexNum y = o := ⟨_, rfl⟩
        have HHx := Lib.hid (fun W => (refHex_any vb W (by omega)).mono (R' := fun e w' => e = .returned (numV o) ∧ W = w') (fun _ _ h => by rw [hvd, ho] at h; exact h))
        have HBad : Hid ((CtxState.step ⟨a, t, b, r, false⟩ (x, y)).wrong = true → R = none) := Lib.hid (fun h => by rw [← hG.out, hdr]; exact refMk_bad _ q3 h)
        have HGood : Hid ((CtxState.step ⟨a, t, b, r, false⟩ (x, y)).wrong = false → refMk (CtxState.step ⟨a, t, b, r, false⟩ (x, y)) (ps.drop (i + 1)) = R) := Lib.hid (fun h => by rw [← hG.out, hdr]; exact (refMk_step _ q3 h).symm)
        clear q1 q2 q3 hdr hp hpm hPN hpd hpb hx hy hvd evb hpk hyl hG
        by_cases hth : x = [116, 104]
        · subst hth
          have dth : (kb.toList == [116, 104]) = true := by rw [ekb]; exact key_is _ rfl
          have drv : (kb.toList == [114, 118]) = false := by rw [ekb]; exact key_not (by decide)
          clear ekb
          cases a with
          | true =>
            have HH2 : Hid (∃ v ok, numV o = .tuple #[.int .u64 v, .bool ok]) := Lib.hid (by cases o <;> exact ⟨_, _, rfl⟩)
            obtain ⟨hv, hok, hnv⟩ := HH2.out
            rw [hnv] at HHx
            clear hnv HH2
            have HNo : Hid (R = none) := Lib.hid (HBad.out (th_wrong (.inl rfl)))
            clear ho
            clear HBad HGood
            go_wp2_with fail
            refine (HPl.out _).mono ?_
            rintro e w4 ⟨rfl, rfl⟩
            go_wp2_with fail
            refine (HHx.out _).mono ?_
            rintro e w4 ⟨rfl, rfl⟩
            go_wp2_with (refine wpList_store_row rfl 29 (.tmp 2) _ rfl w.heap.size #[.bool true, .int .u64 (t : Int), .bool b, .int .u64 (r : Int)] rfl rfl 29 #[.bool false, .int .u64 0, .bool false, .int .u64 0] K2.out (by kernel_rfl) rfl (by simp [Value.oneCell']) ?_)
            have hrz := setRow_heap _ _ _ #[.bool true, .int .u64 (t : Int), .bool b, .int .u64 (r : Int)] _ _ K2.out
            have r0 := cell_of_row _ _ 0 _ _ _ hrz
            have r1 := cell_of_row _ _ 1 _ _ _ hrz
            have r2 := cell_of_row _ _ 2 _ _ _ hrz
            have r3 := cell_of_row _ _ 3 _ _ _ hrz
            exact bodyPost_ret (v := .tuple #[.agg #[.bool true, .int .u64 (t : Int), .bool b, .int .u64 (r : Int)], .bool false]) (by simp [results, Tryd.results64, go_sem, r0, r1, r2, r3]) rfl ⟨⟨_, _, _, _, _, rfl, by rw [HNo.out]; rfl⟩, below_setRow HB.out (Nat.le_refl _) _⟩
          | false =>
            cases o with
            | none =>
              dsimp only [numV] at HHx
              have HNo : Hid (R = none) := Lib.hid (HBad.out (th_wrong (.inr (.inl ho))))
              clear ho
              clear HBad HGood
              go_wp2_with fail
              refine (HPl.out _).mono ?_
              rintro e w4 ⟨rfl, rfl⟩
              go_wp2_with fail
              refine (HHx.out _).mono ?_
              rintro e w4 ⟨rfl, rfl⟩
              go_wp2_with (refine wpList_store_row rfl 29 (.tmp 2) _ rfl w.heap.size #[.bool false, .int .u64 (t : Int), .bool b, .int .u64 (r : Int)] rfl rfl 29 #[.bool false, .int .u64 0, .bool false, .int .u64 0] K2.out (by kernel_rfl) rfl (by simp [Value.oneCell']) ?_)
              have hrz := setRow_heap _ _ _ #[.bool false, .int .u64 (t : Int), .bool b, .int .u64 (r : Int)] _ _ K2.out
              have r0 := cell_of_row _ _ 0 _ _ _ hrz
              have r1 := cell_of_row _ _ 1 _ _ _ hrz
              have r2 := cell_of_row _ _ 2 _ _ _ hrz
              have r3 := cell_of_row _ _ 3 _ _ _ hrz
              exact bodyPost_ret (v := .tuple #[.agg #[.bool false, .int .u64 (t : Int), .bool b, .int .u64 (r : Int)], .bool false]) (by simp [results, Tryd.results64, go_sem, r0, r1, r2, r3]) rfl ⟨⟨_, _, _, _, _, rfl, by rw [HNo.out]; rfl⟩, below_setRow HB.out (Nat.le_refl _) _⟩
            | some n =>
              dsimp only [numV] at HHx
              by_cases h1 : Ln < 1
              · have d1 : decide ((Ln : Int) < 1) = true := by simp; omega
                have d1' : decide (Ln < 1) = true := by simp; omega
                have HNo : Hid (R = none) := Lib.hid (HBad.out (th_wrong (.inr (.inr (.inl (by rw [HYL.out]; exact h1))))))
                clear ho h1
                clear HBad HGood
                go_wp2_with fail
                refine (HPl.out _).mono ?_
                rintro e w4 ⟨rfl, rfl⟩
                go_wp2_with fail
                refine (HHx.out _).mono ?_
                rintro e w4 ⟨rfl, rfl⟩
                go_wp2_with (refine wpList_store_row rfl 29 (.tmp 2) _ rfl w.heap.size #[.bool false, .int .u64 (t : Int), .bool b, .int .u64 (r : Int)] rfl rfl 29 #[.bool false, .int .u64 0, .bool false, .int .u64 0] K2.out (by kernel_rfl) rfl (by simp [Value.oneCell']) ?_)
                have hrz := setRow_heap _ _ _ #[.bool false, .int .u64 (t : Int), .bool b, .int .u64 (r : Int)] _ _ K2.out
                have r0 := cell_of_row _ _ 0 _ _ _ hrz
                have r1 := cell_of_row _ _ 1 _ _ _ hrz
                have r2 := cell_of_row _ _ 2 _ _ _ hrz
                have r3 := cell_of_row _ _ 3 _ _ _ hrz
                exact bodyPost_ret (v := .tuple #[.agg #[.bool false, .int .u64 (t : Int), .bool b, .int .u64 (r : Int)], .bool false]) (by simp [results, Tryd.results64, go_sem, r0, r1, r2, r3]) rfl ⟨⟨_, _, _, _, _, rfl, by rw [HNo.out]; rfl⟩, below_setRow HB.out (Nat.le_refl _) _⟩
              · have d1 : decide ((Ln : Int) < 1) = false := by simp; omega
                have d1' : decide (Ln < 1) = false := by simp; omega
                by_cases h2 : 14 < Ln
                · have d2 : decide (14 < (Ln : Int)) = true := by simp; omega
                  have d2' : decide (14 < Ln) = true := by simp; omega
                  have HNo : Hid (R = none) := Lib.hid (HBad.out (th_wrong (.inr (.inr (.inr (by rw [HYL.out]; exact h2))))))
                  clear ho h1 h2
                  clear HBad HGood
                  go_wp2_with fail
                  refine (HPl.out _).mono ?_
                  rintro e w4 ⟨rfl, rfl⟩
                  go_wp2_with fail
                  refine (HHx.out _).mono ?_
                  rintro e w4 ⟨rfl, rfl⟩
                  go_wp2_with (refine wpList_store_row rfl 29 (.tmp 2) _ rfl w.heap.size #[.bool false, .int .u64 (t : Int), .bool b, .int .u64 (r : Int)] rfl rfl 29 #[.bool false, .int .u64 0, .bool false, .int .u64 0] K2.out (by kernel_rfl) rfl (by simp [Value.oneCell']) ?_)
                  have hrz := setRow_heap _ _ _ #[.bool false, .int .u64 (t : Int), .bool b, .int .u64 (r : Int)] _ _ K2.out
                  have r0 := cell_of_row _ _ 0 _ _ _ hrz
                  have r1 := cell_of_row _ _ 1 _ _ _ hrz
                  have r2 := cell_of_row _ _ 2 _ _ _ hrz
                  have r3 := cell_of_row _ _ 3 _ _ _ hrz
                  exact bodyPost_ret (v := .tuple #[.agg #[.bool false, .int .u64 (t : Int), .bool b, .int .u64 (r : Int)], .bool false]) (by simp [results, Tryd.results64, go_sem, r0, r1, r2, r3]) rfl ⟨⟨_, _, _, _, _, rfl, by rw [HNo.out]; rfl⟩, below_setRow HB.out (Nat.le_refl _) _⟩
                · have d2 : decide (14 < (Ln : Int)) = false := by simp; omega
                  have d2' : decide (14 < Ln) = false := by simp; omega
                  have hp := part_yes (l := 1) ho (by rw [HYL.out]; omega) (by rw [HYL.out]; omega)
                  obtain ⟨q, hq⟩ : ∃ q, n * 16 ^ (14 - y.length) % 18446744073709551616 = q := ⟨_, rfl⟩
                  rw [hq] at hp
                  rw [HYL.out] at hq
                  have HQv := Lib.hid hq
                  have hn64 := CtxMath.hexNum_lt ho
                  have hst : CtxState.step ⟨false, t, b, r, false⟩ ([116, 104], y) = ⟨true, q, b, r, false⟩ := by rw [step_th rfl hp]
                  have HG2 : Hid (refMk ⟨true, q, b, r, false⟩ (ps.drop (i + 1)) = R) := Lib.hid (by rw [← hst]; exact HGood.out (by rw [hst]))
                  clear ho hp hq hst HBad HGood h1
                  go_wp2_with fail
                  refine (HPl.out _).mono ?_
                  rintro e w4 ⟨rfl, rfl⟩
                  go_wp2_with fail
                  refine (HHx.out _).mono ?_
                  rintro e w4 ⟨rfl, rfl⟩
                  go_wp2_with fail
                  go_loopw [9, 11] (fun nv jv wi => ∃ v j : Nat, j ≤ 14 ∧ nv = .int .u64 (v : Int) ∧ jv = .int .i64 (j : Int) ∧ v < 18446744073709551616 ∧ Hid (v * 16 ^ (14 - j) % 18446744073709551616 = q) ∧ wi = wr) (fun _ jv _ => 14 - (intOf jv).toNat)
                  case atStart => exact ⟨n, Ln, by omega, rfl, rfl, hn64, HQv, rfl⟩
                  case round =>
                    obtain ⟨v, j, hj, rfl, rfl, hv, hV, rfl⟩ := hrel
                    by_cases hjl : j < 14
                    · have dj : decide ((j : Int) < 14) = true := by simp; omega
                      have dj' : decide (j < 14) = true := by simp; omega
                      obtain ⟨u, hu, hu'⟩ := times_u v
                      have hul : u < 18446744073709551616 := by rw [hu']; exact Nat.mod_lt _ (by omega)
                      have HU : Hid (u * 16 ^ (14 - (j + 1)) % 18446744073709551616 = q) := Lib.hid (by rw [hu', times_step, show 14 - (j + 1) + 1 = 14 - j by omega]; exact hV.out)
                      clear hu' hV
                      go_wp2_with fail
                      go_roundw
                      case rel => exact ⟨u, j + 1, by omega, rfl, by go_num, hul, HU, by trivial⟩
                      case measure => simp [intOf]; omega
                    · have dj : decide ((j : Int) < 14) = false := by simp; omega
                      have dj' : decide (j < 14) = false := by simp; omega
                      obtain rfl : j = 14 := by omega
                      have hvq : v = q := by
                        have := hV.out
                        rw [Nat.sub_self, Nat.pow_zero, Nat.mul_one, Nat.mod_eq_of_lt hv] at this
                        exact this
                      subst hvq
                      clear hV
                      have HBx := HB
                      have f0 := K4.out.free 0
                      have f1 := K4.out.free 1
                      have K4' := Lib.hid ((K4.out.set 0 (.bool true)).set 1 (.int .u64 (v : Int)))
                      have K2' := Lib.hid (Blk.same (Blk.same K2.out (Below.heap_setCell _ ⟨w.heap.size + 1, 0, none⟩ (.bool true) w.heap.size (by simp))) (Below.heap_setCell _ ⟨w.heap.size + 1, 1, none⟩ (.int .u64 (v : Int)) w.heap.size (by simp)))
                      have HB' := Lib.hid ((HB.out.setCell (p := ⟨w.heap.size + 1, 0, none⟩) (by simp) (.bool true)).setCell (p := ⟨w.heap.size + 1, 1, none⟩) (by simp) (.int .u64 (v : Int)))
                      have HO' := Lib.hid (Only.setCell (T := fun k => k = w.heap.size + 1) (Only.setCell (T := fun k => k = w.heap.size + 1) HO.out (a := ⟨w.heap.size + 1, 0, none⟩) (.bool true) (fun _ => rfl)) (a := ⟨w.heap.size + 1, 1, none⟩) (.int .u64 (v : Int)) (fun _ => rfl))
                      have hc5 := HO'.out.cell hcell hgb
                      have hc4 := (Only.setCell (T := fun k => k = w.heap.size + 1) HO.out (a := ⟨w.heap.size + 1, 0, none⟩) (.bool true) (fun _ => rfl)).cell hcell hgb
                      clear HBx
                      go_wp2_with fail
                      go_roundw
                      case rel => exact ⟨i + 1, true, v, b, r, by omega, by go_num, HB', K2', K4', HO', HG2⟩
                      case measure => simp [intOf]; omega
        · have dth : (kb.toList == [116, 104]) = false := by rw [ekb]; exact key_not hth
          by_cases hrv : x = [114, 118]
          · subst hrv
            have drv : (kb.toList == [114, 118]) = true := by rw [ekb]; exact key_is _ rfl
            clear ekb hth
            cases b with
            | true =>
              have HH2 : Hid (∃ v ok, numV o = .tuple #[.int .u64 v, .bool ok]) := Lib.hid (by cases o <;> exact ⟨_, _, rfl⟩)
              obtain ⟨hv, hok, hnv⟩ := HH2.out
              rw [hnv] at HHx
              clear hnv HH2
              have HNo : Hid (R = none) := Lib.hid (HBad.out (rv_wrong (.inl rfl)))
              clear ho
              clear HBad HGood
              go_wp2_with fail
              refine (HPl.out _).mono ?_
              rintro e w4 ⟨rfl, rfl⟩
              go_wp2_with fail
              refine (HHx.out _).mono ?_
              rintro e w4 ⟨rfl, rfl⟩
              go_wp2_with (refine wpList_store_row rfl 29 (.tmp 2) _ rfl w.heap.size #[.bool a, .int .u64 (t : Int), .bool true, .int .u64 (r : Int)] rfl rfl 29 #[.bool false, .int .u64 0, .bool false, .int .u64 0] K2.out (by kernel_rfl) rfl (by simp [Value.oneCell']) ?_)
              have hrz := setRow_heap _ _ _ #[.bool a, .int .u64 (t : Int), .bool true, .int .u64 (r : Int)] _ _ K2.out
              have r0 := cell_of_row _ _ 0 _ _ _ hrz
              have r1 := cell_of_row _ _ 1 _ _ _ hrz
              have r2 := cell_of_row _ _ 2 _ _ _ hrz
              have r3 := cell_of_row _ _ 3 _ _ _ hrz
              exact bodyPost_ret (v := .tuple #[.agg #[.bool a, .int .u64 (t : Int), .bool true, .int .u64 (r : Int)], .bool false]) (by simp [results, Tryd.results64, go_sem, r0, r1, r2, r3]) rfl ⟨⟨_, _, _, _, _, rfl, by rw [HNo.out]; rfl⟩, below_setRow HB.out (Nat.le_refl _) _⟩
            | false =>
              cases o with
              | none =>
                dsimp only [numV] at HHx
                have HNo : Hid (R = none) := Lib.hid (HBad.out (rv_wrong (.inr (.inl ho))))
                clear ho
                clear HBad HGood
                go_wp2_with fail
                refine (HPl.out _).mono ?_
                rintro e w4 ⟨rfl, rfl⟩
                go_wp2_with fail
                refine (HHx.out _).mono ?_
                rintro e w4 ⟨rfl, rfl⟩
                go_wp2_with (refine wpList_store_row rfl 29 (.tmp 2) _ rfl w.heap.size #[.bool a, .int .u64 (t : Int), .bool false, .int .u64 (r : Int)] rfl rfl 29 #[.bool false, .int .u64 0, .bool false, .int .u64 0] K2.out (by kernel_rfl) rfl (by simp [Value.oneCell']) ?_)
                have hrz := setRow_heap _ _ _ #[.bool a, .int .u64 (t : Int), .bool false, .int .u64 (r : Int)] _ _ K2.out
                have r0 := cell_of_row _ _ 0 _ _ _ hrz
                have r1 := cell_of_row _ _ 1 _ _ _ hrz
                have r2 := cell_of_row _ _ 2 _ _ _ hrz
                have r3 := cell_of_row _ _ 3 _ _ _ hrz
                exact bodyPost_ret (v := .tuple #[.agg #[.bool a, .int .u64 (t : Int), .bool false, .int .u64 (r : Int)], .bool false]) (by simp [results, Tryd.results64, go_sem, r0, r1, r2, r3]) rfl ⟨⟨_, _, _, _, _, rfl, by rw [HNo.out]; rfl⟩, below_setRow HB.out (Nat.le_refl _) _⟩
              | some n =>
                dsimp only [numV] at HHx
                by_cases h1 : Ln = 14
                · have d1 : ((Ln : Int) == 14) = true := by simp; omega
                  have hp := part_yes (l := 14) ho (by rw [HYL.out]; omega) (by rw [HYL.out]; omega)
                  have hn64 := CtxMath.hexNum_lt ho
                  rw [HYL.out, h1, Nat.sub_self, Nat.pow_zero, Nat.mul_one, Nat.mod_eq_of_lt hn64] at hp
                  have hst : CtxState.step ⟨a, t, false, r, false⟩ ([114, 118], y) = ⟨a, t, true, n, false⟩ := by rw [step_rv rfl hp]
                  have HG2 : Hid (refMk ⟨a, t, true, n, false⟩ (ps.drop (i + 1)) = R) := Lib.hid (by rw [← hst]; exact HGood.out (by rw [hst]))
                  clear ho hp hst HBad HGood h1
                  have HBx := HB
                  have f0 := K4.out.free 2
                  have f1 := K4.out.free 3
                  have K4' := Lib.hid ((K4.out.set 2 (.bool true)).set 3 (.int .u64 (n : Int)))
                  have K2' := Lib.hid (Blk.same (Blk.same K2.out (Below.heap_setCell _ ⟨w.heap.size + 1, 2, none⟩ (.bool true) w.heap.size (by simp))) (Below.heap_setCell _ ⟨w.heap.size + 1, 3, none⟩ (.int .u64 (n : Int)) w.heap.size (by simp)))
                  have HB' := Lib.hid ((HB.out.setCell (p := ⟨w.heap.size + 1, 2, none⟩) (by simp) (.bool true)).setCell (p := ⟨w.heap.size + 1, 3, none⟩) (by simp) (.int .u64 (n : Int)))
                  have HO' := Lib.hid (Only.setCell (T := fun k => k = w.heap.size + 1) (Only.setCell (T := fun k => k = w.heap.size + 1) HO.out (a := ⟨w.heap.size + 1, 2, none⟩) (.bool true) (fun _ => rfl)) (a := ⟨w.heap.size + 1, 3, none⟩) (.int .u64 (n : Int)) (fun _ => rfl))
                  have hc5 := HO'.out.cell hcell hgb
                  have hc4 := (Only.setCell (T := fun k => k = w.heap.size + 1) HO.out (a := ⟨w.heap.size + 1, 2, none⟩) (.bool true) (fun _ => rfl)).cell hcell hgb
                  clear HBx
                  go_wp2_with fail
                  refine (HPl.out _).mono ?_
                  rintro e w4 ⟨rfl, rfl⟩
                  go_wp2_with fail
                  refine (HHx.out _).mono ?_
                  rintro e w4 ⟨rfl, rfl⟩
                  go_wp2_with fail
                  go_roundw
                  case rel => exact ⟨i + 1, a, t, true, n, by omega, by go_num, HB', K2', K4', HO', HG2⟩
                  case measure => simp [intOf]; omega
                · have d1 : ((Ln : Int) == 14) = false := by simp; omega
                  have HNo : Hid (R = none) := Lib.hid (HBad.out (rv_wrong (.inr (.inr (by rw [HYL.out]; omega)))))
                  clear ho h1
                  clear HBad HGood
                  go_wp2_with fail
                  refine (HPl.out _).mono ?_
                  rintro e w4 ⟨rfl, rfl⟩
                  go_wp2_with fail
                  refine (HHx.out _).mono ?_
                  rintro e w4 ⟨rfl, rfl⟩
                  go_wp2_with (refine wpList_store_row rfl 29 (.tmp 2) _ rfl w.heap.size #[.bool a, .int .u64 (t : Int), .bool false, .int .u64 (r : Int)] rfl rfl 29 #[.bool false, .int .u64 0, .bool false, .int .u64 0] K2.out (by kernel_rfl) rfl (by simp [Value.oneCell']) ?_)
                  have hrz := setRow_heap _ _ _ #[.bool a, .int .u64 (t : Int), .bool false, .int .u64 (r : Int)] _ _ K2.out
                  have r0 := cell_of_row _ _ 0 _ _ _ hrz
                  have r1 := cell_of_row _ _ 1 _ _ _ hrz
                  have r2 := cell_of_row _ _ 2 _ _ _ hrz
                  have r3 := cell_of_row _ _ 3 _ _ _ hrz
                  exact bodyPost_ret (v := .tuple #[.agg #[.bool a, .int .u64 (t : Int), .bool false, .int .u64 (r : Int)], .bool false]) (by simp [results, Tryd.results64, go_sem, r0, r1, r2, r3]) rfl ⟨⟨_, _, _, _, _, rfl, by rw [HNo.out]; rfl⟩, below_setRow HB.out (Nat.le_refl _) _⟩
          · have drv : (kb.toList == [114, 118]) = false := by rw [ekb]; exact key_not hrv
            have hst : CtxState.step ⟨a, t, b, r, false⟩ (x, y) = ⟨a, t, b, r, false⟩ := step_other hth hrv
            have HG2 : Hid (refMk ⟨a, t, b, r, false⟩ (ps.drop (i + 1)) = R) := Lib.hid (by have := HGood.out; rw [hst] at this; exact this rfl)
            have HH2 : Hid (∃ v ok, numV o = .tuple #[.int .u64 v, .bool ok]) := Lib.hid (by cases o <;> exact ⟨_, _, rfl⟩)
            obtain ⟨hv, hok, hnv⟩ := HH2.out
            rw [hnv] at HHx
            clear hnv HH2 ekb hth hrv hst HBad HGood ho
            go_wp2_with fail
            refine (HPl.out _).mono ?_
            rintro e w4 ⟨rfl, rfl⟩
            go_wp2_with fail
            refine (HHx.out _).mono ?_
            rintro e w4 ⟨rfl, rfl⟩
            go_wp2_with fail
            go_roundw
            case rel => exact ⟨i + 1, a, t, b, r, by omega, by go_num, HB, K2, K4, HO, HG2⟩
            case measure => simp [intOf]; omega
    · have dl : decide ((i : Int) < (N : Int)) = false := by simp; omega
      have dl' : decide (i < N) = false := by simp; omega
      obtain rfl : i = N := by omega
      have HE : Hid (R = some ⟨a, t, b, r, false⟩) := Lib.hid (by rw [← hG.out, List.drop_of_length_le (by rw [HN.out]; omega)]; rfl)
      clear hG
      go_wp2_with (refine wpList_store_row rfl 29 (.tmp 2) _ rfl w.heap.size #[.bool a, .int .u64 (t : Int), .bool b, .int .u64 (r : Int)] rfl rfl 29 #[.bool false, .int .u64 0, .bool false, .int .u64 0] K2.out (by kernel_rfl) rfl (by simp [Value.oneCell']) ?_)
      have hrz := setRow_heap _ _ _ #[.bool a, .int .u64 (t : Int), .bool b, .int .u64 (r : Int)] _ _ K2.out
      have r0 := cell_of_row _ _ 0 _ _ _ hrz
      have r1 := cell_of_row _ _ 1 _ _ _ hrz
      have r2 := cell_of_row _ _ 2 _ _ _ hrz
      have r3 := cell_of_row _ _ 3 _ _ _ hrz
      exact bodyPost_ret (v := .tuple #[.agg #[.bool a, .int .u64 (t : Int), .bool b, .int .u64 (r : Int)], .bool true]) (by simp [results, Tryd.results64, go_sem, r0, r1, r2, r3]) rfl ⟨⟨_, _, _, _, _, rfl, by rw [HE.out]; exact ⟨rfl, rfl⟩⟩, below_setRow HB.out (Nat.le_refl _) _⟩
end Go.Proofs.YtkfidolbbnmjfaaDoor
