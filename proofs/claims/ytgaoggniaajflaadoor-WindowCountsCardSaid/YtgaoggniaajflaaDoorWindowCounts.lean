/-
  Proved: WindowCounts returns true for every seed, shape, keys, times and steps: any window tells of any keys, at any times, what the chapter says. No condition but the card's own: hash's table of steps, tied to the program's text, holds at the start what that text lays.
-/
import Derived.Deep.CutBlock
import Derived.Deep.DeepCutAuto
import Derived.Deep.QuietTactic
import Derived.BigQuiet
import Derived.Deep.LoopGhost
import Derived.Deep.RegionHeld
import Derived.Test.YtgaoggniaajflaaDoorRegionBut
import Derived.Test.YtgaoggniaajflaaDoorWinBoth
namespace Go.Proofs.YtgaoggniaajflaaDoor
open Go.ChangeShapes Go.WideShapes Go.ChangeAt Go.RowKit Go.Proofs.HashMath Go.Proofs.SkMath

set_option linter.unusedSimpArgs false in
set_option maxRecDepth 100000 in
set_option maxHeartbeats 8000000 in
theorem windowCounts_walk (seed a b lg : Nat) (A4 : Option Addr) (cs : List UInt8) (cap4 : Nat) (A5 : Option Addr) (ds : List UInt8) (cap5 : Nat) (far : Int)
    (hx : seed < 18446744073709551616) (ha : a ≤ 255) (hb : b ≤ 255) (hg : lg ≤ 255) (w : World) (hH4 : Holds8 w.heap.size w A4 cs) (hH5 : Holds8 w.heap.size w A5 ds) (hS : Steps w) :
    Calls Tryd.prog 4 #[.int .u64 (seed : Int), .int .u8 (a : Int), .int .u8 (b : Int), .int .u8 (lg : Int), .slice A4 cs.length cap4, .slice A5 ds.length cap5, .int .i64 far] w fun e w' => e = .returned (.bool true) ∧ Below w.heap.size w w' := by
  obtain ⟨N, hN⟩ : ∃ N, cs.length = N := ⟨_, rfl⟩
  obtain ⟨D, hD⟩ : ∃ D, ds.length = D := ⟨_, rfl⟩
  rw [hN, hD]
  have HN := Lib.hid hN
  have HD := Lib.hid hD
  have HKN := Lib.hid (fun W (h : Below w.heap.size w W) => known8_any W (hS.below hS.lt h))
  clear hN hD
  by_cases hn60 : 60 < N
  · have d2 : decide ((60 : Int) < (N : Int)) = true := by simp; omega
    clear hH4 hH5 hS
    go_enter Tryd.func4, Tryd.ntmps4
    go_wp2_with fail
    refine (HKN.out _ (Below.refl _ _)).mono ?_
    rintro e w1 ⟨rfl, g⟩
    go_wp2_with fail
    go_ret
    exact ⟨rfl, g⟩
  have d2 : decide ((60 : Int) < (N : Int)) = false := by simp; omega
  obtain ⟨r, hr, r1, r8⟩ : ∃ r : Nat, (1 : Int) + (a : Int) % 3 = (r : Int) ∧ 1 ≤ r ∧ r ≤ 8 := ⟨1 + a % 3, by omega, by omega, by omega⟩
  obtain ⟨m, hm, m1, m2⟩ : ∃ m : Nat, (1 : Int) + (b : Int) % 12 = (m : Int) ∧ 1 ≤ m ∧ m ≤ 1024 := ⟨1 + b % 12, by omega, by omega, by omega⟩
  obtain ⟨long, hlg, l1, l2⟩ : ∃ n : Nat, (1 : Int) + (lg : Int) % 9 = (n : Int) ∧ 1 ≤ n ∧ n ≤ 1099511627776 := ⟨1 + lg % 9, by omega, by omega, by omega⟩
  have hlt := hS.lt
  obtain ⟨n0, hn0⟩ : ∃ n0, w.heap.size = n0 := ⟨_, rfl⟩
  have HKN0 := Lib.hid (HKN.out _ (Below.refl _ _))
  rw [hn0] at hlt hH4 hH5 HKN0 ⊢
  have HNEW := Lib.hid (fun W (h1 : n0 ≤ W.heap.size) (h2 : Below n0 w W) => wn_new (w := w) (W := W) r m seed long hS hlt h1 h2 r1 r8 m1 m2 hx l1 l2)
  have HRN := Lib.hid (fun bs W h => refWNew_any bs r m seed long W h r1 r8 m1 m2 l1 l2)
  have HN0 := Lib.hid hn0
  have HH4 := Lib.hid hH4
  have HH5 := Lib.hid hH5
  clear hn0 hH4 hH5 hS HKN
  go_enter Tryd.func4, Tryd.ntmps4
  go_wp2_with fail
  refine HKN0.out.mono ?_
  rintro e w1 ⟨rfl, g1⟩
  have hsz : n0 ≤ w1.heap.size := by have := g1.size; rw [HN0.out] at this; exact this
  have HB1 := Lib.hid g1
  clear g1
  go_wp2_with fail
  refine (HNEW.out _ hsz HB1.out).mono ?_
  rintro e w2 ⟨bs, V, rfl, _, _, hw2⟩
  have HW2 := Lib.hid hw2
  clear hw2
  go_wp2_with fail
  refine (HRN.out bs _ (fun k hk => (HW2.out.bsn k hk).2)).mono ?_
  rintro e w3 ⟨cL, ccL, cT, ccT, rfl, hd3, g3⟩
  obtain ⟨nr, hnr⟩ : ∃ nr, w3.heap.size = nr := ⟨_, rfl⟩
  have hx3 := box_below (W := w3) (.cells #[.int .i64 (r : Int), .int .i64 (m : Int), .int .u64 (seed : Int), .int .i64 (long : Int), .int .i64 0, .slice (some ⟨cL, 0, none⟩) r ccL, .int .i64 (m : Int), .int .u64 (sdL seed 0 : Int), .int .u64 0, .slice (some ⟨cT, 0, none⟩) r ccT, .int .i64 (m : Int), .int .u64 (seed : Int), .int .u64 0] 38)
  have HT : Hid (Bt n0 w V r m seed long nr 0 Z Z bs cL ccL (sdL seed 0) 0 cT ccT seed 0 (w3.alloc (.cells #[.int .i64 (r : Int), .int .i64 (m : Int), .int .u64 (seed : Int), .int .i64 (long : Int), .int .i64 0, .slice (some ⟨cL, 0, none⟩) r ccL, .int .i64 (m : Int), .int .u64 (sdL seed 0 : Int), .int .u64 0, .slice (some ⟨cT, 0, none⟩) r ccT, .int .i64 (m : Int), .int .u64 (seed : Int), .int .u64 0] 38))) := Lib.hid ⟨(HW2.out.later g3).later hx3, hd3.step (Mut.of_below hx3) (ext_new (by omega)), hnr ▸ blk_new w3 _ _, fun hk => by have := (HW2.out.bsn nr hk).2; have := g3.size; omega, by have := HW2.out.le; have := g3.size; omega, by rw [Nat.zero_div], by rw [Nat.zero_div]; unfold sd; omega⟩
  clear hx3 hd3 g3 HW2
  go_wp2_with fail
  go_loopg [18, 19] N (fun gk nv kv wr => ∃ k nw : Nat, gk + k = N ∧ kv = .int .i64 (k : Int) ∧ nv = .int .i64 (nw : Int) ∧ nw ≤ 1099511627776 + 7 * k ∧ Hid (∃ q f g bs cL ccL sL tL cT ccT sT tT, q ≤ 1099511627776 ∧ Bt n0 w V r m seed long nr q f g bs cL ccL sL tL cT ccT sT tT wr))
  case atStart => exact ⟨0, 0, by omega, rfl, rfl, by omega, Lib.hid ⟨_, _, _, _, _, _, _, _, _, _, _, _, by omega, HT.out⟩⟩
  case round =>
    clear HT hnr
    obtain ⟨k, nw, hgk, rfl, rfl, hnw, HF⟩ := hrel
    by_cases hlt : k < N
    · have dl : decide ((k : Int) < (N : Int)) = true := by simp; omega
      obtain ⟨q, f, g, bs, cL, ccL, sL, tL, cT, ccT, sT, tT, hq, hT⟩ := HF.out
      obtain ⟨bb, off, rfl, hbl, hc⟩ := HH4.out (by rw [HN.out]; omega)
      have hcl := hc k (by rw [HN.out]; exact hlt)
      obtain ⟨c, hcv⟩ : ∃ c, cs.getD k 0 = c := ⟨_, rfl⟩
      rw [hcv] at hcl
      unfold b8 at hcl
      have hcu := c.toNat_lt
      obtain ⟨y, hy⟩ : ∃ y : Nat, (c.toNat : Int) = (y : Int) := ⟨_, rfl⟩
      have hyl : y ≤ 255 := by omega
      rw [hy] at hcl
      have HCL := Lib.hid hcl
      have HTT := Lib.hid hT
      obtain ⟨bd, hbd⟩ : ∃ bd, decide ((k : Int) < (D : Int)) = bd := ⟨_, rfl⟩
      clear hT hc hcv hy HF hcl
      go_upto_if 81 with fail
      go_cut [18, 20] (fun s18 s20 wx => ∃ (nw' : Nat) (t : Int), s18 = .int .i64 (nw' : Int) ∧ s20 = .int .i64 t ∧ nw' ≤ 1099511627776 + 7 * (k + 1) ∧ wr = wx)
      case first =>
        by_cases hkD : k < D
        · have eb : bd = true := by rw [← hbd]; simp; omega
          subst eb
          obtain ⟨b5, o5, rfl, hb5, hc5⟩ := HH5.out (by rw [HD.out]; omega)
          have hd5 := (HTT.out.1.b.cell (p := ⟨b5, o5 + k, none⟩) hb5).trans (hc5 k (by rw [HD.out]; exact hkD))
          obtain ⟨dv, hdv⟩ : ∃ dv, ds.getD k 0 = dv := ⟨_, rfl⟩
          rw [hdv] at hd5
          unfold b8 at hd5
          have hdl := dv.toNat_lt
          obtain ⟨x, hxx⟩ : ∃ x : Nat, (dv.toNat : Int) = (x : Int) := ⟨_, rfl⟩
          have hxl : x ≤ 255 := by omega
          rw [hxx] at hd5
          obtain ⟨x7, h7, h7l⟩ : ∃ x7 : Nat, (x : Int) % 7 = (x7 : Int) ∧ x7 ≤ 6 := ⟨x % 7, by omega, by omega⟩
          obtain ⟨x8, h8, h8l⟩ : ∃ x8 : Nat, (x : Int) % 8 = (x8 : Int) ∧ x8 ≤ 7 := ⟨x % 8, by omega, by omega⟩
          obtain ⟨n7, hn7, hn7l⟩ : ∃ n7 : Nat, (nw : Int) + (x7 : Int) = (n7 : Int) ∧ n7 ≤ 1099511627776 + 7 * (k + 1) := ⟨nw + x7, by omega, by omega⟩
          have hn7s : n7 ≤ 1099511630000 := by omega
          have k1 : 0 ≤ (k : Int) := by omega
          have k2 : (k : Int) < (D : Int) := by omega
          clear hc5 hdv hxx
          by_cases h240 : 240 < x
          · have e1 : decide ((240 : Int) < (x : Int)) = true := by simp; omega
            have e2 : ((x : Int) == 239) = false := by simp; omega
            go_wp2
            go_meet
            exact ⟨n7, _, rfl, rfl, hn7l, rfl⟩
          · have e1 : decide ((240 : Int) < (x : Int)) = false := by simp; omega
            by_cases h239 : x = 239
            · have e2 : ((x : Int) == 239) = true := by simp; omega
              clear h239
              go_wp2
              go_meet
              exact ⟨n7, _, rfl, rfl, hn7l, rfl⟩
            · have e2 : ((x : Int) == 239) = false := by simp; omega
              go_wp2
              go_meet
              exact ⟨n7, _, rfl, rfl, hn7l, rfl⟩
        · have eb : bd = false := by rw [← hbd]; simp; omega
          subst eb
          go_wp2
          go_meet
          exact ⟨nw, _, rfl, rfl, by omega, rfl⟩
      case rest =>
        obtain ⟨nw', t, rfl, rfl, hnw', rfl⟩ := hcut
        obtain ⟨z5, hz5, hz5'⟩ : ∃ z5 : Nat, (y : Int) % 5 = (z5 : Int) ∧ z5 = y % 5 := ⟨y % 5, by omega, rfl⟩
        have hcl : wr.cell? ⟨bb, off + k, none⟩ = some (.int .u8 (y : Int)) := (HTT.out.1.b.cell (p := ⟨bb, off + k, none⟩) hbl).trans HCL.out
        go_wp2_with fail
        refine (key_any y _ hyl).mono ?_
        rintro e w4 ⟨rfl, g4⟩
        obtain ⟨ky, hky, hkz⟩ : ∃ ky, keyT (y % 12) = ky ∧ ky.size ≤ 9223372036854775807 := ⟨_, rfl, keyT_size _⟩
        rw [hky]
        have HT4 := Lib.hid (HTT.out.later g4)
        have hcl4 : w4.cell? ⟨bb, off + k, none⟩ = some (.int .u8 (y : Int)) := (HT4.out.1.b.cell (p := ⟨bb, off + k, none⟩) hbl).trans HCL.out
        clear g4 hky hcl
        have k1 : 0 ≤ (k : Int) := by omega
        have k2 : (k : Int) < (N : Int) := by omega
        by_cases hz : z5 = 0
        · have ez : ((z5 : Int) == 0) = true := by simp; omega
          obtain ⟨y3, hy3, hy3'⟩ : ∃ y3 : Nat, (y : Int) % 3 = (y3 : Int) ∧ y3 ≤ 2 := ⟨y % 3, by omega, by omega⟩
          obtain ⟨n1, hn1, hn1'⟩ : ∃ n1 : Nat, (1 : Int) + (y3 : Int) = (n1 : Int) ∧ n1 ≤ 3 := ⟨1 + y3, by omega, by omega⟩
          have ht3 : (y : Int).tmod 3 = (y3 : Int) := by rw [Int.tmod_eq_emod_of_nonneg (by omega), hy3]
          have hw1 : IntKind.u64.wrap (y3 : Int) = (y3 : Int) := by rw [IntKind.wrap_u64]; omega
          have hw2 : IntKind.u64.wrap ((1 : Int) + (y3 : Int)) = (n1 : Int) := by rw [IntKind.wrap_u64]; omega
          have hw3 : IntKind.u64.wrap (n1 : Int) = (n1 : Int) := by rw [IntKind.wrap_u64]; omega
          obtain ⟨er, q2, sL2, sT2, f2, g2, her, hq2, eL2, eT2, hDoc, hWin⟩ := add_does V r m seed long q f g t ky n1 hkz (by omega) hq r1 r8 m1 m2 l1
          have HDOC := Lib.hid hDoc
          have HWIN := Lib.hid hWin
          have EL2 := Lib.hid eL2
          have ET2 := Lib.hid eT2
          clear hDoc hWin eL2 eT2 hz hz5'
          go_upto_region 21 with fail
          go_cut [22, 23] (fun s22 s23 wx => ∃ nv cL2 ccL2 tL2 cT2 ccT2 tT2 : Nat, s22 = .pointer (some ⟨nv, 0, none⟩) ∧ s23 = .int .i64 (er : Int) ∧ Hid (Bt n0 w V r m seed long nr q f g bs cL ccL sL tL cT ccT sT tT wx ∧ Doc (nr :: bs) wx r m f2 g2 cL2 ccL2 tL2 cT2 ccT2 tT2 ∧ Blk wx nv #[.int .i64 (r : Int), .int .i64 (m : Int), .int .u64 (seed : Int), .int .i64 (long : Int), .int .i64 (q2 : Int), .slice (some ⟨cL2, 0, none⟩) r ccL2, .int .i64 (m : Int), .int .u64 (sL2 : Int), .int .u64 (tL2 : Int), .slice (some ⟨cT2, 0, none⟩) r ccT2, .int .i64 (m : Int), .int .u64 (sT2 : Int), .int .u64 (tT2 : Int)] 38 ∧ nv ∉ bs ∧ nv ≠ nr))
          case first =>
            refine wp_region_held_drew (S := fun W => Bt n0 w V r m seed long nr q f g bs cL ccL sL tL cT ccT sT tT W) (by kernel_rfl) ?_ (fun hHeld => ?_)
            · exact HT4.out.later ((Below.refl _ _).drew)
            refine wpAnyH_take (i := 0) (v := ?_) rfl (by kernel_rfl) (by kernel_rfl) (by kernel_rfl) (fun _ _ _ h => h) (Or.inl ⟨by rfl, ?_⟩) (by assumption) ?_
            rotate_left
            · intro wq hSw; (try dsimp only at hSw); have q0 := hSw.2.2.1.cell 0 rfl; have q1 := hSw.2.2.1.cell 1 rfl; have q2 := hSw.2.2.1.cell 2 rfl; have q3 := hSw.2.2.1.cell 3 rfl; have q4 := hSw.2.2.1.cell 4 rfl; have q5 := hSw.2.2.1.cell 5 rfl; have q6 := hSw.2.2.1.cell 6 rfl; have q7 := hSw.2.2.1.cell 7 rfl; have q8 := hSw.2.2.1.cell 8 rfl; have q9 := hSw.2.2.1.cell 9 rfl; have q10 := hSw.2.2.1.cell 10 rfl; have q11 := hSw.2.2.1.cell 11 rfl; have q12 := hSw.2.2.1.cell 12 rfl; go_simp; (try with_reducible rfl)
            simp only [Act.put, List.getElem_toArray, List.getElem_cons_succ, List.getElem_cons_zero, List.setIfInBounds_toArray, List.set_cons_zero, List.set_cons_succ]
            refine wpAnyH_take (i := 1) (v := ?_) rfl (by kernel_rfl) (by kernel_rfl) (by kernel_rfl) (fun _ _ _ h => h) (Or.inl ⟨by rfl, ?_⟩) (by assumption) ?_
            rotate_left
            · intro wq hSw; (try dsimp only at hSw); go_simp; (try with_reducible rfl)
            simp only [Act.put, List.getElem_toArray, List.getElem_cons_succ, List.getElem_cons_zero, List.setIfInBounds_toArray, List.set_cons_zero, List.set_cons_succ]
            refine wpAnyH_take (i := 2) (v := ?_) rfl (by kernel_rfl) (by kernel_rfl) (by kernel_rfl) (fun _ _ _ h => h) (Or.inl ⟨by rfl, ?_⟩) (by assumption) ?_
            rotate_left
            · intro wq hSw; (try dsimp only at hSw); go_simp; (try with_reducible rfl)
            simp only [Act.put, List.getElem_toArray, List.getElem_cons_succ, List.getElem_cons_zero, List.setIfInBounds_toArray, List.set_cons_zero, List.set_cons_succ]
            refine wpAnyH_take (i := 3) (v := ?_) rfl (by kernel_rfl) (by kernel_rfl) (by kernel_rfl) (fun _ _ _ h => h) (Or.inl ⟨by rfl, ?_⟩) (by assumption) ?_
            rotate_left
            · intro wq hSw; (try dsimp only at hSw); go_simp; (try with_reducible rfl)
            simp only [Act.put, List.getElem_toArray, List.getElem_cons_succ, List.getElem_cons_zero, List.setIfInBounds_toArray, List.set_cons_zero, List.set_cons_succ]
            refine wpAnyH_take (i := 4) (v := ?_) rfl (by kernel_rfl) (by kernel_rfl) (by kernel_rfl) (fun _ _ _ h => h) (Or.inl ⟨by rfl, ?_⟩) (by assumption) ?_
            rotate_left
            · intro wq hSw; (try dsimp only at hSw); go_simp; (try with_reducible rfl)
            simp only [Act.put, List.getElem_toArray, List.getElem_cons_succ, List.getElem_cons_zero, List.setIfInBounds_toArray, List.set_cons_zero, List.set_cons_succ]
            refine wpAnyH_take (i := 5) (v := ?_) rfl (by kernel_rfl) (by kernel_rfl) (by kernel_rfl) (fun _ _ _ h => h) (Or.inl ⟨by rfl, ?_⟩) (by assumption) ?_
            rotate_left
            · intro wq hSw; (try dsimp only at hSw); go_simp; (try with_reducible rfl)
            simp only [Act.put, List.getElem_toArray, List.getElem_cons_succ, List.getElem_cons_zero, List.setIfInBounds_toArray, List.set_cons_zero, List.set_cons_succ]
            refine wpAnyH_take (i := 6) (v := ?_) rfl (by kernel_rfl) (by kernel_rfl) (by kernel_rfl) (fun _ _ _ h => h) (Or.inl ⟨by rfl, ?_⟩) (by assumption) ?_
            rotate_left
            · intro wq hSw; (try dsimp only at hSw); have z0 : wq.cell? ⟨bb, off + k, none⟩ = some (.int .u8 (y : Int)) := (hSw.1.b.cell (p := ⟨bb, off + k, none⟩) hbl).trans HCL.out; go_simp; (try with_reducible rfl)
            simp only [Act.put, List.getElem_toArray, List.getElem_cons_succ, List.getElem_cons_zero, List.setIfInBounds_toArray, List.set_cons_zero, List.set_cons_succ]
            refine wpAnyH_take (i := 7) (v := ?_) rfl (by kernel_rfl) (by kernel_rfl) (by kernel_rfl) (fun _ _ _ h => h) (Or.inl ⟨by rfl, ?_⟩) (by assumption) ?_
            rotate_left
            · intro wq hSw; (try dsimp only at hSw); go_simp; (try with_reducible rfl)
            simp only [Act.put, List.getElem_toArray, List.getElem_cons_succ, List.getElem_cons_zero, List.setIfInBounds_toArray, List.set_cons_zero, List.set_cons_succ]
            refine wpAnyH_take (i := 8) (v := ?_) rfl (by kernel_rfl) (by kernel_rfl) (by kernel_rfl) (fun _ _ _ h => h) (Or.inl ⟨by rfl, ?_⟩) (by assumption) ?_
            rotate_left
            · intro wq hSw; (try dsimp only at hSw); go_simp; (try with_reducible rfl)
            simp only [Act.put, List.getElem_toArray, List.getElem_cons_succ, List.getElem_cons_zero, List.setIfInBounds_toArray, List.set_cons_zero, List.set_cons_succ]
            refine wpAnyH_take (i := 9) (v := ?_) rfl (by kernel_rfl) (by kernel_rfl) (by kernel_rfl) (fun _ _ _ h => h) (Or.inl ⟨by rfl, ?_⟩) (by assumption) ?_
            rotate_left
            · intro wq hSw; (try dsimp only at hSw); go_simp; (try with_reducible rfl)
            simp only [Act.put, List.getElem_toArray, List.getElem_cons_succ, List.getElem_cons_zero, List.setIfInBounds_toArray, List.set_cons_zero, List.set_cons_succ]
            refine wpAnyH_ready (rs := [10, 14]) (by kernel_rfl) (by simp) ?_
            refine AllReadyH.cons rfl (fun K hK => ?_) (AllReadyH.cons rfl (fun K hK => ?_) (AllReadyH.nil))
            · go_simp
              refine (HDOC.out (nr :: bs) _ _ _ _ _ _ _ _ _ hHeld.2.1 hHeld.lt hHeld.2.2.2.2.2.1 hHeld.2.2.2.2.2.2).mono ?_
              rintro e wx ⟨cL2, ccL2, tL2, cT2, ccT2, tT2, rfl, hd2, hbx⟩
              (try go_wp2_with fail)
              refine hK.out _ _ ?_ (fun hHeld => ?_)
              · exact hHeld.later hbx
              clear hK K
              try simp only [Act.put, List.getElem_toArray, List.getElem_cons_succ, List.getElem_cons_zero, List.setIfInBounds_toArray, List.set_cons_zero, List.set_cons_succ]
              refine wpAnyH_take (i := 11) (v := ?_) rfl (by kernel_rfl) (by kernel_rfl) (by kernel_rfl) (fun _ _ _ h => h) (Or.inl ⟨by rfl, ?_⟩) (by assumption) ?_
              rotate_left
              · intro wq hSw; (try dsimp only at hSw); go_simp; (try with_reducible rfl)
              simp only [Act.put, List.getElem_toArray, List.getElem_cons_succ, List.getElem_cons_zero, List.setIfInBounds_toArray, List.set_cons_zero, List.set_cons_succ]
              refine wpAnyH_take (i := 12) (v := ?_) rfl (by kernel_rfl) (by kernel_rfl) (by kernel_rfl) (fun _ _ _ h => h) (Or.inl ⟨by rfl, ?_⟩) (by assumption) ?_
              rotate_left
              · intro wq hSw; (try dsimp only at hSw); go_simp; (try with_reducible rfl)
              simp only [Act.put, List.getElem_toArray, List.getElem_cons_succ, List.getElem_cons_zero, List.setIfInBounds_toArray, List.set_cons_zero, List.set_cons_succ]
              refine wpAnyH_take (i := 13) (v := ?_) rfl (by kernel_rfl) (by kernel_rfl) (by kernel_rfl) (fun _ _ _ h => h) (Or.inl ⟨by rfl, ?_⟩) (by assumption) ?_
              rotate_left
              · intro wq hSw; (try dsimp only at hSw); go_simp; (try with_reducible rfl)
              simp only [Act.put, List.getElem_toArray, List.getElem_cons_succ, List.getElem_cons_zero, List.setIfInBounds_toArray, List.set_cons_zero, List.set_cons_succ]
              have HX := Lib.hid hHeld
              have HD2 := Lib.hid hd2
              clear hd2 hbx
              refine wpAnyH_ready (rs := [14]) (by kernel_rfl) (by simp) ?_
              refine AllReadyH.cons rfl (fun K hK => ?_) AllReadyH.nil
              go_simp
              (try go_wp2_with fail)
              refine hK.out _ _ ?_ (fun hHeld => ?_)
              · exact hHeld.later (box_below _)
              clear hK K
              try simp only [Act.put, List.getElem_toArray, List.getElem_cons_succ, List.getElem_cons_zero, List.setIfInBounds_toArray, List.set_cons_zero, List.set_cons_succ]
              refine wpAnyH_ready (rs := [15]) (by kernel_rfl) (by simp) ?_
              refine AllReadyH.cons rfl (fun K hK => ?_) AllReadyH.nil
              go_simp
              (try go_wp2_with fail)
              refine hK.out _ _ ?_ (fun hHeld => ?_)
              · exact HX.out.later (box_below _)
              clear hK K
              try simp only [Act.put, List.getElem_toArray, List.getElem_cons_succ, List.getElem_cons_zero, List.setIfInBounds_toArray, List.set_cons_zero, List.set_cons_succ]
              refine wpAnyH_take (i := 16) (v := ?_) rfl (by kernel_rfl) (by kernel_rfl) (by kernel_rfl) (fun _ _ _ h => h) (Or.inl ⟨by rfl, ?_⟩) (by assumption) ?_
              rotate_left
              · intro wq hSw; (try dsimp only at hSw); go_simp; (try with_reducible rfl)
              simp only [Act.put, List.getElem_toArray, List.getElem_cons_succ, List.getElem_cons_zero, List.setIfInBounds_toArray, List.set_cons_zero, List.set_cons_succ]
              refine wpAnyH_done (by kernel_rfl) ?_ _
              clear hHeld
              go_wp2_with fail
              go_meet
              exact ⟨_, _, _, _, _, _, _, rfl, rfl, Lib.hid ⟨HX.out.later (box_below _), HD2.out.later (box_below _), blk_new _ _ _, fun h => absurd (HX.out.lt _ (List.mem_cons_of_mem _ h)) (Nat.lt_irrefl _), fun h => absurd (HX.out.lt nr (by simp)) (by rw [← h]; exact Nat.lt_irrefl _)⟩⟩
            · go_simp
              (try go_wp2_with fail)
              refine hK.out _ _ ?_ (fun hHeld => ?_)
              · exact HT4.out.later ((box_below _).drew)
              clear hK K
              try simp only [Act.put, List.getElem_toArray, List.getElem_cons_succ, List.getElem_cons_zero, List.setIfInBounds_toArray, List.set_cons_zero, List.set_cons_succ]
              have HBZ := Lib.hid (show Blk (w4.alloc (.cells #[.int .i64 0, .int .i64 0, .int .u64 0, .int .i64 0, .int .i64 0, .slice none 0 0, .int .i64 0, .int .u64 0, .int .u64 0, .slice none 0 0, .int .i64 0, .int .u64 0, .int .u64 0] 38)).drew w4.heap.size #[.int .i64 0, .int .i64 0, .int .u64 0, .int .i64 0, .int .i64 0, .slice none 0 0, .int .i64 0, .int .u64 0, .int .u64 0, .slice none 0 0, .int .i64 0, .int .u64 0, .int .u64 0] 38 from blk_new w4 _ _)
              have HAB := Lib.hid (show Below w4.heap.size w4 (w4.alloc (.cells #[.int .i64 0, .int .i64 0, .int .u64 0, .int .i64 0, .int .i64 0, .slice none 0 0, .int .i64 0, .int .u64 0, .int .u64 0, .slice none 0 0, .int .i64 0, .int .u64 0, .int .u64 0] 38)).drew from (box_below _).drew)
              have HDD := Lib.hid (HT4.out.2.1.step (bs' := w4.heap.size :: nr :: bs) (Mut.of_below HAB.out) (ext_new (Nat.le_refl _)))
              have HLT := Lib.hid (show ∀ k ∈ w4.heap.size :: nr :: bs, k < (w4.alloc (.cells #[.int .i64 0, .int .i64 0, .int .u64 0, .int .i64 0, .int .i64 0, .slice none 0 0, .int .i64 0, .int .u64 0, .int .u64 0, .slice none 0 0, .int .i64 0, .int .u64 0, .int .u64 0] 38)).drew.heap.size from fun k hk => by
                have e : (w4.alloc (.cells #[.int .i64 0, .int .i64 0, .int .u64 0, .int .i64 0, .int .i64 0, .slice none 0 0, .int .i64 0, .int .u64 0, .int .u64 0, .slice none 0 0, .int .i64 0, .int .u64 0, .int .u64 0] 38)).drew.heap.size = w4.heap.size + 1 := World.size_alloc _ _
                rw [e]
                rcases List.mem_cons.1 hk with x | x
                · omega
                · have := HT4.out.lt k x; omega)
              refine wpAnyH_ready (rs := [10]) (by kernel_rfl) (by simp) ?_
              refine AllReadyH.cons rfl (fun K hK => ?_) AllReadyH.nil
              go_simp
              refine (HDOC.out (w4.heap.size :: nr :: bs) _ _ _ _ _ _ _ _ _ HDD.out HLT.out hHeld.2.2.2.2.2.1 hHeld.2.2.2.2.2.2).mono ?_
              rintro e wx ⟨cL2, ccL2, tL2, cT2, ccT2, tT2, rfl, hd2, hbx⟩
              (try go_wp2_with fail)
              refine hK.out _ _ ?_ (fun hHeld => ?_)
              · exact hHeld.later hbx
              clear hK K
              try simp only [Act.put, List.getElem_toArray, List.getElem_cons_succ, List.getElem_cons_zero, List.setIfInBounds_toArray, List.set_cons_zero, List.set_cons_succ]
              refine wpAnyH_take (i := 11) (v := ?_) rfl (by kernel_rfl) (by kernel_rfl) (by kernel_rfl) (fun _ _ _ h => h) (Or.inl ⟨by rfl, ?_⟩) (by assumption) ?_
              rotate_left
              · intro wq hSw; (try dsimp only at hSw); go_simp; (try with_reducible rfl)
              simp only [Act.put, List.getElem_toArray, List.getElem_cons_succ, List.getElem_cons_zero, List.setIfInBounds_toArray, List.set_cons_zero, List.set_cons_succ]
              refine wpAnyH_take (i := 12) (v := ?_) rfl (by kernel_rfl) (by kernel_rfl) (by kernel_rfl) (fun _ _ _ h => h) (Or.inl ⟨by rfl, ?_⟩) (by assumption) ?_
              rotate_left
              · intro wq hSw; (try dsimp only at hSw); go_simp; (try with_reducible rfl)
              simp only [Act.put, List.getElem_toArray, List.getElem_cons_succ, List.getElem_cons_zero, List.setIfInBounds_toArray, List.set_cons_zero, List.set_cons_succ]
              refine wpAnyH_take (i := 13) (v := ?_) rfl (by kernel_rfl) (by kernel_rfl) (by kernel_rfl) (fun _ _ _ h => h) (Or.inl ⟨by rfl, ?_⟩) (by assumption) ?_
              rotate_left
              · intro wq hSw; (try dsimp only at hSw); go_simp; (try with_reducible rfl)
              simp only [Act.put, List.getElem_toArray, List.getElem_cons_succ, List.getElem_cons_zero, List.setIfInBounds_toArray, List.set_cons_zero, List.set_cons_succ]
              have HBX := Lib.hid (HBZ.out.later hbx)
              have HD2 := Lib.hid hd2
              have HB4 := Lib.hid (HAB.out.trans (hbx.mono HAB.out.size))
              clear hd2 hbx
              refine wpAnyH_ready (rs := [15]) (by kernel_rfl) (by simp) ?_
              refine AllReadyH.cons rfl (fun K hK => ?_) AllReadyH.nil
              rw [if_pos (by rfl)]
              refine wp_store_row 38 (.tmp 22) (.tmp 133) rfl w4.heap.size #[.int .i64 (r : Int), .int .i64 (m : Int), .int .u64 (seed : Int), .int .i64 (long : Int), .int .i64 (q2 : Int), .slice (some ⟨cL2, 0, none⟩) r ccL2, .int .i64 (m : Int), .int .u64 (sL2 : Int), .int .u64 (tL2 : Int), .slice (some ⟨cT2, 0, none⟩) r ccT2, .int .i64 (m : Int), .int .u64 (sT2 : Int), .int .u64 (tT2 : Int)] rfl rfl 38 #[.int .i64 0, .int .i64 0, .int .u64 0, .int .i64 0, .int .i64 0, .slice none 0 0, .int .i64 0, .int .u64 0, .int .u64 0, .slice none 0 0, .int .i64 0, .int .u64 0, .int .u64 0] HBX.out (by kernel_rfl) rfl (by simp [Value.oneCell']) ?_
              dsimp only [Act.put]
              refine hK.out _ _ ?_ (fun hHeld => ?_)
              · exact HT4.out.later (below_setRow HB4.out (Nat.le_refl _) _)
              clear hK K
              try simp only [Act.put, List.getElem_toArray, List.getElem_cons_succ, List.getElem_cons_zero, List.setIfInBounds_toArray, List.set_cons_zero, List.set_cons_succ]
              refine wpAnyH_take (i := 16) (v := ?_) rfl (by kernel_rfl) (by kernel_rfl) (by kernel_rfl) (fun _ _ _ h => h) (Or.inl ⟨by rfl, ?_⟩) (by assumption) ?_
              rotate_left
              · intro wq hSw; (try dsimp only at hSw); go_simp; (try with_reducible rfl)
              simp only [Act.put, List.getElem_toArray, List.getElem_cons_succ, List.getElem_cons_zero, List.setIfInBounds_toArray, List.set_cons_zero, List.set_cons_succ]
              refine wpAnyH_done (by kernel_rfl) ?_ _
              clear hHeld
              go_wp2_with fail
              go_meet
              exact ⟨_, _, _, _, _, _, _, rfl, rfl, Lib.hid ⟨HT4.out.later (below_setRow HB4.out (Nat.le_refl _) _), (HD2.out.step ((Mut.setRow _ w4.heap.size _).wider (by simp)) (Ext.refl _ _)).sub (by simp +contextual), setRow_heap _ _ _ _ _ _ HBX.out, fun h => absurd (HT4.out.lt _ (List.mem_cons_of_mem _ h)) (Nat.lt_irrefl _), fun h => absurd (HT4.out.lt nr (by simp)) (by rw [← h]; exact Nat.lt_irrefl _)⟩⟩
          case rest =>
            obtain ⟨nv, cL2, ccL2, tL2, cT2, ccT2, tT2, rfl, rfl, HR⟩ := hcut
            have hcl5 : wc.cell? ⟨bb, off + k, none⟩ = some (.int .u8 (y : Int)) := (HR.out.1.1.b.cell (p := ⟨bb, off + k, none⟩) hbl).trans HCL.out
            go_wp2_with fail
            refine (HWIN.out _ _ _ _ HR.out.1.1).mono ?_
            rintro e w6 ⟨rfl, bs6, hx6, hm6, hw6⟩
            have h6v : Blk w6 nv #[.int .i64 (r : Int), .int .i64 (m : Int), .int .u64 (seed : Int), .int .i64 (long : Int), .int .i64 (q2 : Int), .slice (some ⟨cL2, 0, none⟩) r ccL2, .int .i64 (m : Int), .int .u64 (sL2 : Int), .int .u64 (tL2 : Int), .slice (some ⟨cT2, 0, none⟩) r ccT2, .int .i64 (m : Int), .int .u64 (sT2 : Int), .int .u64 (tT2 : Int)] 38 := HR.out.2.2.1.same (hm6.block nv HR.out.2.2.1.lt HR.out.2.2.2.1)
            have h6r := HR.out.1.2.2.1.same (hm6.block nr HR.out.1.2.2.1.lt HR.out.1.2.2.2.1)
            have h6n : nr ∉ bs6 := fun x => by
              rcases hx6 nr x with y | y
              · exact HR.out.1.2.2.2.1 y
              · have := HR.out.1.2.2.1.lt; omega
            have HT7 := Lib.hid (bt_store hw6 (HR.out.2.1.turn hm6 hx6) h6r h6n HR.out.1.2.2.2.2.1 EL2.out ET2.out)
            have H6R := Lib.hid h6r
            have p0 : (w6).cell? ⟨nv, 0, none⟩ = some (.int .i64 (r : Int)) := h6v.cell 0 rfl
            have p1 : (w6).cell? ⟨nv, 1, none⟩ = some (.int .i64 (m : Int)) := h6v.cell 1 rfl
            have p2 : (w6).cell? ⟨nv, 2, none⟩ = some (.int .u64 (seed : Int)) := h6v.cell 2 rfl
            have p3 : (w6).cell? ⟨nv, 3, none⟩ = some (.int .i64 (long : Int)) := h6v.cell 3 rfl
            have p4 : (w6).cell? ⟨nv, 4, none⟩ = some (.int .i64 (q2 : Int)) := h6v.cell 4 rfl
            have p5 : (w6).cell? ⟨nv, 5, none⟩ = some (.slice (some ⟨cL2, 0, none⟩) r ccL2) := h6v.cell 5 rfl
            have p6 : (w6).cell? ⟨nv, 6, none⟩ = some (.int .i64 (m : Int)) := h6v.cell 6 rfl
            have p7 : (w6).cell? ⟨nv, 7, none⟩ = some (.int .u64 (sL2 : Int)) := h6v.cell 7 rfl
            have p8 : (w6).cell? ⟨nv, 8, none⟩ = some (.int .u64 (tL2 : Int)) := h6v.cell 8 rfl
            have p9 : (w6).cell? ⟨nv, 9, none⟩ = some (.slice (some ⟨cT2, 0, none⟩) r ccT2) := h6v.cell 9 rfl
            have p10 : (w6).cell? ⟨nv, 10, none⟩ = some (.int .i64 (m : Int)) := h6v.cell 10 rfl
            have p11 : (w6).cell? ⟨nv, 11, none⟩ = some (.int .u64 (sT2 : Int)) := h6v.cell 11 rfl
            have p12 : (w6).cell? ⟨nv, 12, none⟩ = some (.int .u64 (tT2 : Int)) := h6v.cell 12 rfl
            have hne : ((er : Int) != (er : Int)) = false := by simp
            clear h6v h6r h6n hx6 hm6 hw6
            have HT8 := Lib.hid HT7.out
            have c4 : (w6.setRow nr #[.int .i64 (r : Int), .int .i64 (m : Int), .int .u64 (seed : Int), .int .i64 (long : Int), .int .i64 (q2 : Int), .slice (some ⟨cL2, 0, none⟩) r ccL2, .int .i64 (m : Int), .int .u64 (sL2 : Int), .int .u64 (tL2 : Int), .slice (some ⟨cT2, 0, none⟩) r ccT2, .int .i64 (m : Int), .int .u64 (sT2 : Int), .int .u64 (tT2 : Int)]).cell? ⟨nr, 4, none⟩ = some (.int .i64 (q2 : Int)) := HT8.out.2.2.1.cell 4 rfl
            obtain ⟨nw2, hmx, hnw2⟩ : ∃ nw2 : Nat, (if nw' < q2 then (q2 : Int) else (nw' : Int)) = (nw2 : Int) ∧ nw2 ≤ 1099511627776 + 7 * (k + 1) := ⟨max nw' q2, by split <;> omega, by omega⟩
            go_wp2_with (refine wpList_store_row rfl 38 (.tmp 16) _ rfl nr #[.int .i64 (r : Int), .int .i64 (m : Int), .int .u64 (seed : Int), .int .i64 (long : Int), .int .i64 (q2 : Int), .slice (some ⟨cL2, 0, none⟩) r ccL2, .int .i64 (m : Int), .int .u64 (sL2 : Int), .int .u64 (tL2 : Int), .slice (some ⟨cT2, 0, none⟩) r ccT2, .int .i64 (m : Int), .int .u64 (sT2 : Int), .int .u64 (tT2 : Int)] rfl rfl 38 #[.int .i64 (r : Int), .int .i64 (m : Int), .int .u64 (seed : Int), .int .i64 (long : Int), .int .i64 (q : Int), .slice (some ⟨cL, 0, none⟩) r ccL, .int .i64 (m : Int), .int .u64 (sL : Int), .int .u64 (tL : Int), .slice (some ⟨cT, 0, none⟩) r ccT, .int .i64 (m : Int), .int .u64 (sT : Int), .int .u64 (tT : Int)] H6R.out (by kernel_rfl) rfl (by simp [Value.oneCell']) ?_)
            go_roundg (gk - 1)
            case measure => omega
            case rel => exact ⟨k + 1, nw2, by omega, by go_num, rfl, hnw2, Lib.hid ⟨q2, f2, g2, _, _, _, _, _, _, _, _, _, hq2, HT8.out⟩⟩
        · have ez : ((z5 : Int) == 0) = false := by simp; omega
          obtain ⟨er, q2, sL2, sT2, x, y2, f2, g2, her, hq2, eL2, eT2, hx0, hx1, hxl, hyl2, hDoc, hWC, hWO⟩ := at_does V r m seed long q f g t ky hkz (by omega) r1 r8 m1 m2 l1
          have HDOC := Lib.hid hDoc
          have HWC := Lib.hid hWC
          have HWO := Lib.hid hWO
          have EL2 := Lib.hid eL2
          have ET2 := Lib.hid eT2
          have HX0 := Lib.hid hx0
          have HX1 := Lib.hid hx1
          clear hDoc hWC hWO eL2 eT2 hx0 hx1 hz hz5'
          have qq0 : (w4).cell? ⟨nr, 0, none⟩ = some (.int .i64 (r : Int)) := HT4.out.2.2.1.cell 0 rfl
          have qq1 : (w4).cell? ⟨nr, 1, none⟩ = some (.int .i64 (m : Int)) := HT4.out.2.2.1.cell 1 rfl
          have qq2 : (w4).cell? ⟨nr, 2, none⟩ = some (.int .u64 (seed : Int)) := HT4.out.2.2.1.cell 2 rfl
          have qq3 : (w4).cell? ⟨nr, 3, none⟩ = some (.int .i64 (long : Int)) := HT4.out.2.2.1.cell 3 rfl
          have qq4 : (w4).cell? ⟨nr, 4, none⟩ = some (.int .i64 (q : Int)) := HT4.out.2.2.1.cell 4 rfl
          have qq5 : (w4).cell? ⟨nr, 5, none⟩ = some (.slice (some ⟨cL, 0, none⟩) r ccL) := HT4.out.2.2.1.cell 5 rfl
          have qq6 : (w4).cell? ⟨nr, 6, none⟩ = some (.int .i64 (m : Int)) := HT4.out.2.2.1.cell 6 rfl
          have qq7 : (w4).cell? ⟨nr, 7, none⟩ = some (.int .u64 (sL : Int)) := HT4.out.2.2.1.cell 7 rfl
          have qq8 : (w4).cell? ⟨nr, 8, none⟩ = some (.int .u64 (tL : Int)) := HT4.out.2.2.1.cell 8 rfl
          have qq9 : (w4).cell? ⟨nr, 9, none⟩ = some (.slice (some ⟨cT, 0, none⟩) r ccT) := HT4.out.2.2.1.cell 9 rfl
          have qq10 : (w4).cell? ⟨nr, 10, none⟩ = some (.int .i64 (m : Int)) := HT4.out.2.2.1.cell 10 rfl
          have qq11 : (w4).cell? ⟨nr, 11, none⟩ = some (.int .u64 (sT : Int)) := HT4.out.2.2.1.cell 11 rfl
          have qq12 : (w4).cell? ⟨nr, 12, none⟩ = some (.int .u64 (tT : Int)) := HT4.out.2.2.1.cell 12 rfl
          go_wp2_with fail
          refine (HDOC.out (nr :: bs) _ _ _ _ _ _ _ _ _ HT4.out.2.1 HT4.out.lt HT4.out.2.2.2.2.2.1 HT4.out.2.2.2.2.2.2).mono ?_
          rintro e w5 ⟨cL2, ccL2, tL2, cT2, ccT2, tT2, rfl, hd5, hb5⟩
          obtain ⟨nv, hnv⟩ : ∃ nv, w5.heap.size = nv := ⟨_, rfl⟩
          have hx5 := box_below (W := w5) (.cells #[.int .i64 (r : Int), .int .i64 (m : Int), .int .u64 (seed : Int), .int .i64 (long : Int), .int .i64 (q2 : Int), .slice (some ⟨cL2, 0, none⟩) r ccL2, .int .i64 (m : Int), .int .u64 (sL2 : Int), .int .u64 (tL2 : Int), .slice (some ⟨cT2, 0, none⟩) r ccT2, .int .i64 (m : Int), .int .u64 (sT2 : Int), .int .u64 (tT2 : Int)] 38)
          have hT5 := (HT4.out.later hb5).later hx5
          have hd6 := hd5.later hx5
          have h5v : Blk (w5.alloc (.cells #[.int .i64 (r : Int), .int .i64 (m : Int), .int .u64 (seed : Int), .int .i64 (long : Int), .int .i64 (q2 : Int), .slice (some ⟨cL2, 0, none⟩) r ccL2, .int .i64 (m : Int), .int .u64 (sL2 : Int), .int .u64 (tL2 : Int), .slice (some ⟨cT2, 0, none⟩) r ccT2, .int .i64 (m : Int), .int .u64 (sT2 : Int), .int .u64 (tT2 : Int)] 38)) nv #[.int .i64 (r : Int), .int .i64 (m : Int), .int .u64 (seed : Int), .int .i64 (long : Int), .int .i64 (q2 : Int), .slice (some ⟨cL2, 0, none⟩) r ccL2, .int .i64 (m : Int), .int .u64 (sL2 : Int), .int .u64 (tL2 : Int), .slice (some ⟨cT2, 0, none⟩) r ccT2, .int .i64 (m : Int), .int .u64 (sT2 : Int), .int .u64 (tT2 : Int)] 38 := hnv ▸ blk_new w5 _ _
          have H5R := Lib.hid hT5.2.2.1
          have hms := Mut.setRow (w5.alloc (.cells #[.int .i64 (r : Int), .int .i64 (m : Int), .int .u64 (seed : Int), .int .i64 (long : Int), .int .i64 (q2 : Int), .slice (some ⟨cL2, 0, none⟩) r ccL2, .int .i64 (m : Int), .int .u64 (sL2 : Int), .int .u64 (tL2 : Int), .slice (some ⟨cT2, 0, none⟩) r ccT2, .int .i64 (m : Int), .int .u64 (sT2 : Int), .int .u64 (tT2 : Int)] 38)) nr #[.int .i64 (r : Int), .int .i64 (m : Int), .int .u64 (seed : Int), .int .i64 (long : Int), .int .i64 (q2 : Int), .slice (some ⟨cL2, 0, none⟩) r ccL2, .int .i64 (m : Int), .int .u64 (sL2 : Int), .int .u64 (tL2 : Int), .slice (some ⟨cT2, 0, none⟩) r ccT2, .int .i64 (m : Int), .int .u64 (sT2 : Int), .int .u64 (tT2 : Int)]
          have HT7 := Lib.hid (show Wn n0 w ((w5.alloc (.cells #[.int .i64 (r : Int), .int .i64 (m : Int), .int .u64 (seed : Int), .int .i64 (long : Int), .int .i64 (q2 : Int), .slice (some ⟨cL2, 0, none⟩) r ccL2, .int .i64 (m : Int), .int .u64 (sL2 : Int), .int .u64 (tL2 : Int), .slice (some ⟨cT2, 0, none⟩) r ccT2, .int .i64 (m : Int), .int .u64 (sT2 : Int), .int .u64 (tT2 : Int)] 38)).setRow nr #[.int .i64 (r : Int), .int .i64 (m : Int), .int .u64 (seed : Int), .int .i64 (long : Int), .int .i64 (q2 : Int), .slice (some ⟨cL2, 0, none⟩) r ccL2, .int .i64 (m : Int), .int .u64 (sL2 : Int), .int .u64 (tL2 : Int), .slice (some ⟨cT2, 0, none⟩) r ccT2, .int .i64 (m : Int), .int .u64 (sT2 : Int), .int .u64 (tT2 : Int)]) bs V r m seed long q f g ∧ Doc (nr :: bs) ((w5.alloc (.cells #[.int .i64 (r : Int), .int .i64 (m : Int), .int .u64 (seed : Int), .int .i64 (long : Int), .int .i64 (q2 : Int), .slice (some ⟨cL2, 0, none⟩) r ccL2, .int .i64 (m : Int), .int .u64 (sL2 : Int), .int .u64 (tL2 : Int), .slice (some ⟨cT2, 0, none⟩) r ccT2, .int .i64 (m : Int), .int .u64 (sT2 : Int), .int .u64 (tT2 : Int)] 38)).setRow nr #[.int .i64 (r : Int), .int .i64 (m : Int), .int .u64 (seed : Int), .int .i64 (long : Int), .int .i64 (q2 : Int), .slice (some ⟨cL2, 0, none⟩) r ccL2, .int .i64 (m : Int), .int .u64 (sL2 : Int), .int .u64 (tL2 : Int), .slice (some ⟨cT2, 0, none⟩) r ccT2, .int .i64 (m : Int), .int .u64 (sT2 : Int), .int .u64 (tT2 : Int)]) r m f2 g2 cL2 ccL2 tL2 cT2 ccT2 tT2 ∧ Blk ((w5.alloc (.cells #[.int .i64 (r : Int), .int .i64 (m : Int), .int .u64 (seed : Int), .int .i64 (long : Int), .int .i64 (q2 : Int), .slice (some ⟨cL2, 0, none⟩) r ccL2, .int .i64 (m : Int), .int .u64 (sL2 : Int), .int .u64 (tL2 : Int), .slice (some ⟨cT2, 0, none⟩) r ccT2, .int .i64 (m : Int), .int .u64 (sT2 : Int), .int .u64 (tT2 : Int)] 38)).setRow nr #[.int .i64 (r : Int), .int .i64 (m : Int), .int .u64 (seed : Int), .int .i64 (long : Int), .int .i64 (q2 : Int), .slice (some ⟨cL2, 0, none⟩) r ccL2, .int .i64 (m : Int), .int .u64 (sL2 : Int), .int .u64 (tL2 : Int), .slice (some ⟨cT2, 0, none⟩) r ccT2, .int .i64 (m : Int), .int .u64 (sT2 : Int), .int .u64 (tT2 : Int)]) nr #[.int .i64 (r : Int), .int .i64 (m : Int), .int .u64 (seed : Int), .int .i64 (long : Int), .int .i64 (q2 : Int), .slice (some ⟨cL2, 0, none⟩) r ccL2, .int .i64 (m : Int), .int .u64 (sL2 : Int), .int .u64 (tL2 : Int), .slice (some ⟨cT2, 0, none⟩) r ccT2, .int .i64 (m : Int), .int .u64 (sT2 : Int), .int .u64 (tT2 : Int)] 38 ∧ nr ∉ bs ∧ n0 ≤ nr from ⟨hT5.1.mut hms (by simp [hT5.2.2.2.1, hT5.2.2.2.2.1]), hd6.step (hms.wider (by simp)) (Ext.refl _ _), setRow_heap _ _ _ _ _ _ hT5.2.2.1, hT5.2.2.2.1, hT5.2.2.2.2.1⟩)
          have p0 : (w5.alloc (.cells #[.int .i64 (r : Int), .int .i64 (m : Int), .int .u64 (seed : Int), .int .i64 (long : Int), .int .i64 (q2 : Int), .slice (some ⟨cL2, 0, none⟩) r ccL2, .int .i64 (m : Int), .int .u64 (sL2 : Int), .int .u64 (tL2 : Int), .slice (some ⟨cT2, 0, none⟩) r ccT2, .int .i64 (m : Int), .int .u64 (sT2 : Int), .int .u64 (tT2 : Int)] 38)).cell? ⟨nv, 0, none⟩ = some (.int .i64 (r : Int)) := h5v.cell 0 rfl
          have p1 : (w5.alloc (.cells #[.int .i64 (r : Int), .int .i64 (m : Int), .int .u64 (seed : Int), .int .i64 (long : Int), .int .i64 (q2 : Int), .slice (some ⟨cL2, 0, none⟩) r ccL2, .int .i64 (m : Int), .int .u64 (sL2 : Int), .int .u64 (tL2 : Int), .slice (some ⟨cT2, 0, none⟩) r ccT2, .int .i64 (m : Int), .int .u64 (sT2 : Int), .int .u64 (tT2 : Int)] 38)).cell? ⟨nv, 1, none⟩ = some (.int .i64 (m : Int)) := h5v.cell 1 rfl
          have p2 : (w5.alloc (.cells #[.int .i64 (r : Int), .int .i64 (m : Int), .int .u64 (seed : Int), .int .i64 (long : Int), .int .i64 (q2 : Int), .slice (some ⟨cL2, 0, none⟩) r ccL2, .int .i64 (m : Int), .int .u64 (sL2 : Int), .int .u64 (tL2 : Int), .slice (some ⟨cT2, 0, none⟩) r ccT2, .int .i64 (m : Int), .int .u64 (sT2 : Int), .int .u64 (tT2 : Int)] 38)).cell? ⟨nv, 2, none⟩ = some (.int .u64 (seed : Int)) := h5v.cell 2 rfl
          have p3 : (w5.alloc (.cells #[.int .i64 (r : Int), .int .i64 (m : Int), .int .u64 (seed : Int), .int .i64 (long : Int), .int .i64 (q2 : Int), .slice (some ⟨cL2, 0, none⟩) r ccL2, .int .i64 (m : Int), .int .u64 (sL2 : Int), .int .u64 (tL2 : Int), .slice (some ⟨cT2, 0, none⟩) r ccT2, .int .i64 (m : Int), .int .u64 (sT2 : Int), .int .u64 (tT2 : Int)] 38)).cell? ⟨nv, 3, none⟩ = some (.int .i64 (long : Int)) := h5v.cell 3 rfl
          have p4 : (w5.alloc (.cells #[.int .i64 (r : Int), .int .i64 (m : Int), .int .u64 (seed : Int), .int .i64 (long : Int), .int .i64 (q2 : Int), .slice (some ⟨cL2, 0, none⟩) r ccL2, .int .i64 (m : Int), .int .u64 (sL2 : Int), .int .u64 (tL2 : Int), .slice (some ⟨cT2, 0, none⟩) r ccT2, .int .i64 (m : Int), .int .u64 (sT2 : Int), .int .u64 (tT2 : Int)] 38)).cell? ⟨nv, 4, none⟩ = some (.int .i64 (q2 : Int)) := h5v.cell 4 rfl
          have p5 : (w5.alloc (.cells #[.int .i64 (r : Int), .int .i64 (m : Int), .int .u64 (seed : Int), .int .i64 (long : Int), .int .i64 (q2 : Int), .slice (some ⟨cL2, 0, none⟩) r ccL2, .int .i64 (m : Int), .int .u64 (sL2 : Int), .int .u64 (tL2 : Int), .slice (some ⟨cT2, 0, none⟩) r ccT2, .int .i64 (m : Int), .int .u64 (sT2 : Int), .int .u64 (tT2 : Int)] 38)).cell? ⟨nv, 5, none⟩ = some (.slice (some ⟨cL2, 0, none⟩) r ccL2) := h5v.cell 5 rfl
          have p6 : (w5.alloc (.cells #[.int .i64 (r : Int), .int .i64 (m : Int), .int .u64 (seed : Int), .int .i64 (long : Int), .int .i64 (q2 : Int), .slice (some ⟨cL2, 0, none⟩) r ccL2, .int .i64 (m : Int), .int .u64 (sL2 : Int), .int .u64 (tL2 : Int), .slice (some ⟨cT2, 0, none⟩) r ccT2, .int .i64 (m : Int), .int .u64 (sT2 : Int), .int .u64 (tT2 : Int)] 38)).cell? ⟨nv, 6, none⟩ = some (.int .i64 (m : Int)) := h5v.cell 6 rfl
          have p7 : (w5.alloc (.cells #[.int .i64 (r : Int), .int .i64 (m : Int), .int .u64 (seed : Int), .int .i64 (long : Int), .int .i64 (q2 : Int), .slice (some ⟨cL2, 0, none⟩) r ccL2, .int .i64 (m : Int), .int .u64 (sL2 : Int), .int .u64 (tL2 : Int), .slice (some ⟨cT2, 0, none⟩) r ccT2, .int .i64 (m : Int), .int .u64 (sT2 : Int), .int .u64 (tT2 : Int)] 38)).cell? ⟨nv, 7, none⟩ = some (.int .u64 (sL2 : Int)) := h5v.cell 7 rfl
          have p8 : (w5.alloc (.cells #[.int .i64 (r : Int), .int .i64 (m : Int), .int .u64 (seed : Int), .int .i64 (long : Int), .int .i64 (q2 : Int), .slice (some ⟨cL2, 0, none⟩) r ccL2, .int .i64 (m : Int), .int .u64 (sL2 : Int), .int .u64 (tL2 : Int), .slice (some ⟨cT2, 0, none⟩) r ccT2, .int .i64 (m : Int), .int .u64 (sT2 : Int), .int .u64 (tT2 : Int)] 38)).cell? ⟨nv, 8, none⟩ = some (.int .u64 (tL2 : Int)) := h5v.cell 8 rfl
          have p9 : (w5.alloc (.cells #[.int .i64 (r : Int), .int .i64 (m : Int), .int .u64 (seed : Int), .int .i64 (long : Int), .int .i64 (q2 : Int), .slice (some ⟨cL2, 0, none⟩) r ccL2, .int .i64 (m : Int), .int .u64 (sL2 : Int), .int .u64 (tL2 : Int), .slice (some ⟨cT2, 0, none⟩) r ccT2, .int .i64 (m : Int), .int .u64 (sT2 : Int), .int .u64 (tT2 : Int)] 38)).cell? ⟨nv, 9, none⟩ = some (.slice (some ⟨cT2, 0, none⟩) r ccT2) := h5v.cell 9 rfl
          have p10 : (w5.alloc (.cells #[.int .i64 (r : Int), .int .i64 (m : Int), .int .u64 (seed : Int), .int .i64 (long : Int), .int .i64 (q2 : Int), .slice (some ⟨cL2, 0, none⟩) r ccL2, .int .i64 (m : Int), .int .u64 (sL2 : Int), .int .u64 (tL2 : Int), .slice (some ⟨cT2, 0, none⟩) r ccT2, .int .i64 (m : Int), .int .u64 (sT2 : Int), .int .u64 (tT2 : Int)] 38)).cell? ⟨nv, 10, none⟩ = some (.int .i64 (m : Int)) := h5v.cell 10 rfl
          have p11 : (w5.alloc (.cells #[.int .i64 (r : Int), .int .i64 (m : Int), .int .u64 (seed : Int), .int .i64 (long : Int), .int .i64 (q2 : Int), .slice (some ⟨cL2, 0, none⟩) r ccL2, .int .i64 (m : Int), .int .u64 (sL2 : Int), .int .u64 (tL2 : Int), .slice (some ⟨cT2, 0, none⟩) r ccT2, .int .i64 (m : Int), .int .u64 (sT2 : Int), .int .u64 (tT2 : Int)] 38)).cell? ⟨nv, 11, none⟩ = some (.int .u64 (sT2 : Int)) := h5v.cell 11 rfl
          have p12 : (w5.alloc (.cells #[.int .i64 (r : Int), .int .i64 (m : Int), .int .u64 (seed : Int), .int .i64 (long : Int), .int .i64 (q2 : Int), .slice (some ⟨cL2, 0, none⟩) r ccL2, .int .i64 (m : Int), .int .u64 (sL2 : Int), .int .u64 (tL2 : Int), .slice (some ⟨cT2, 0, none⟩) r ccT2, .int .i64 (m : Int), .int .u64 (sT2 : Int), .int .u64 (tT2 : Int)] 38)).cell? ⟨nv, 12, none⟩ = some (.int .u64 (tT2 : Int)) := h5v.cell 12 rfl
          clear hx5 hT5 hd6 h5v hms hd5 hb5 qq0 qq1 qq2 qq3 qq4 qq5 qq6 qq7 qq8 qq9 qq10 qq11 qq12
          go_wp2_with (refine wpList_store_row rfl 38 (.tmp 16) _ rfl nr #[.int .i64 (r : Int), .int .i64 (m : Int), .int .u64 (seed : Int), .int .i64 (long : Int), .int .i64 (q2 : Int), .slice (some ⟨cL2, 0, none⟩) r ccL2, .int .i64 (m : Int), .int .u64 (sL2 : Int), .int .u64 (tL2 : Int), .slice (some ⟨cT2, 0, none⟩) r ccT2, .int .i64 (m : Int), .int .u64 (sT2 : Int), .int .u64 (tT2 : Int)] rfl rfl 38 #[.int .i64 (r : Int), .int .i64 (m : Int), .int .u64 (seed : Int), .int .i64 (long : Int), .int .i64 (q : Int), .slice (some ⟨cL, 0, none⟩) r ccL, .int .i64 (m : Int), .int .u64 (sL : Int), .int .u64 (tL : Int), .slice (some ⟨cT, 0, none⟩) r ccT, .int .i64 (m : Int), .int .u64 (sT : Int), .int .u64 (tT : Int)] H5R.out (by kernel_rfl) rfl (by simp [Value.oneCell']) ?_)
          have HT6 := Lib.hid HT7.out
          clear HT7 H5R p0 p1 p2 p3 p4 p5 p6 p7 p8 p9 p10 p11 p12
          generalize (w5.alloc (.cells #[.int .i64 (r : Int), .int .i64 (m : Int), .int .u64 (seed : Int), .int .i64 (long : Int), .int .i64 (q2 : Int), .slice (some ⟨cL2, 0, none⟩) r ccL2, .int .i64 (m : Int), .int .u64 (sL2 : Int), .int .u64 (tL2 : Int), .slice (some ⟨cT2, 0, none⟩) r ccT2, .int .i64 (m : Int), .int .u64 (sT2 : Int), .int .u64 (tT2 : Int)] 38)).setRow nr #[.int .i64 (r : Int), .int .i64 (m : Int), .int .u64 (seed : Int), .int .i64 (long : Int), .int .i64 (q2 : Int), .slice (some ⟨cL2, 0, none⟩) r ccL2, .int .i64 (m : Int), .int .u64 (sL2 : Int), .int .u64 (tL2 : Int), .slice (some ⟨cT2, 0, none⟩) r ccT2, .int .i64 (m : Int), .int .u64 (sT2 : Int), .int .u64 (tT2 : Int)] = w7 at HT6 ⊢
          (try go_wp2_with fail)
          (try dsimp only [Act.put])
          go_wp2_with fail
          refine (HWC.out _ _ _ _ HT6.out.1).mono ?_
          rintro e w9 ⟨rfl, bs9, hx9, hm9, hw9⟩
          have HT9 := Lib.hid (bt_turn HT6.out.2.1 HT6.out.2.2.1 HT6.out.2.2.2.1 HT6.out.2.2.2.2 EL2.out ET2.out hx9 hm9 hw9)
          clear hx9 hm9 hw9
          go_wp2_with fail
          refine (HWO.out _ _ _ _ HT9.out.1).mono ?_
          rintro e w10 ⟨rfl, bs10, hx10, hm10, hw10⟩
          have HT10 := Lib.hid (bt_turn HT9.out.2.1 HT9.out.2.2.1 HT9.out.2.2.2.1 HT9.out.2.2.2.2.1 EL2.out ET2.out hx10 hm10 hw10)
          clear hx10 hm10 hw10
          have hne : ((er : Int) != (er : Int)) = false := by simp
          obtain ⟨nw2, hmx, hnw2⟩ : ∃ nw2 : Nat, (if nw' < q2 then (q2 : Int) else (nw' : Int)) = (nw2 : Int) ∧ nw2 ≤ 1099511627776 + 7 * (k + 1) := ⟨max nw' q2, by split <;> omega, by omega⟩
          by_cases he0 : er = 0
          · obtain ⟨hxx, hyy⟩ := HX0.out he0
            have ee : ((er : Int) == 0) = true := by simp; omega
            have en : ((er : Int) != 0) = false := by simp; omega
            have nx : ((x : Int) != (x : Int)) = false := by simp
            have ny : ((y2 : Int) != (y2 : Int)) = false := by simp
            have hC1 := refCount_any 0 cL2 ccL2 r m sL2 tL2 g2 ky w10 r8 m1 m2 HT10.out.2.1.gl HT10.out.2.1.l.refS hkz
            have e1 : least (placeOf sL2 ky.data.toList m) g2 r = x := hxx.symm
            rw [e1] at hC1
            have HC1 := Lib.hid hC1
            have HC2 := Lib.hid (fun W (hb : Below w10.heap.size w10 W) => (show Calls Tryd.prog 16 #[.agg #[.slice (some ⟨cT2, 0, none⟩) r ccT2, .int .i64 (m : Int), .int .u64 (sT2 : Int), .int .u64 (tT2 : Int)], .string ky] W fun e w' => e = .returned (.int .u64 (y2 : Int)) ∧ Below W.heap.size W w' from by
              have hC2 := refCount_any 0 cT2 ccT2 r m sT2 tT2 f2 ky W r8 m1 m2 HT10.out.2.1.fl (HT10.out.later hb).2.1.t.refS hkz
              have e2 : least (placeOf sT2 ky.data.toList m) f2 r = y2 := hyy.symm
              rw [e2] at hC2
              exact hC2))
            have z5a : (w10).cell? ⟨nr, 5, none⟩ = some (.slice (some ⟨cL2, 0, none⟩) r ccL2) := HT10.out.2.2.1.cell 5 rfl
            have z6a : (w10).cell? ⟨nr, 6, none⟩ = some (.int .i64 (m : Int)) := HT10.out.2.2.1.cell 6 rfl
            have z7a : (w10).cell? ⟨nr, 7, none⟩ = some (.int .u64 (sL2 : Int)) := HT10.out.2.2.1.cell 7 rfl
            have z8a : (w10).cell? ⟨nr, 8, none⟩ = some (.int .u64 (tL2 : Int)) := HT10.out.2.2.1.cell 8 rfl
            clear he0 hxx hyy hC1 e1
            go_wp2_with fail
            refine HC1.out.mono ?_
            rintro e w11 ⟨rfl, hb11⟩
            have HT11 := Lib.hid (HT10.out.later hb11)
            have HB11 := Lib.hid hb11
            have y9 : (w11).cell? ⟨nr, 9, none⟩ = some (.slice (some ⟨cT2, 0, none⟩) r ccT2) := HT11.out.2.2.1.cell 9 rfl
            have y10 : (w11).cell? ⟨nr, 10, none⟩ = some (.int .i64 (m : Int)) := HT11.out.2.2.1.cell 10 rfl
            have y11 : (w11).cell? ⟨nr, 11, none⟩ = some (.int .u64 (sT2 : Int)) := HT11.out.2.2.1.cell 11 rfl
            have y12 : (w11).cell? ⟨nr, 12, none⟩ = some (.int .u64 (tT2 : Int)) := HT11.out.2.2.1.cell 12 rfl
            clear hb11 z5a z6a z7a z8a
            go_wp2_with fail
            refine (HC2.out _ HB11.out).mono ?_
            rintro e w12 ⟨rfl, hb12⟩
            have HT8 := Lib.hid (HT11.out.later hb12)
            have c4 := HT8.out.2.2.1.cell 4 rfl
            clear hb12 y9 y10 y11 y12
            go_wp2_with fail
            go_roundg (gk - 1)
            case measure => omega
            case rel => exact ⟨k + 1, nw2, by omega, by go_num, rfl, hnw2, Lib.hid ⟨q2, f2, g2, _, _, _, _, _, _, _, _, _, hq2, HT8.out⟩⟩
          · obtain ⟨rfl, rfl⟩ := HX1.out he0
            have ee : ((er : Int) == 0) = false := by simp; omega
            have en : ((er : Int) != 0) = true := by simp; omega
            have HT8 := Lib.hid HT10.out
            have c4 := HT8.out.2.2.1.cell 4 rfl
            clear he0
            go_wp2_with fail
            go_roundg (gk - 1)
            case measure => omega
            case rel => exact ⟨k + 1, nw2, by omega, by go_num, rfl, hnw2, Lib.hid ⟨q2, f2, g2, _, _, _, _, _, _, _, _, _, hq2, HT8.out⟩⟩
    · obtain rfl : k = N := by omega
      have dl : decide ((k : Int) < (k : Int)) = false := by simp
      obtain ⟨q, f, g, bs, cL, ccL, sL, tL, cT, ccT, sT, tT, hq, hT⟩ := HF.out
      have HBE := Lib.hid hT.1.b
      clear hT HF
      go_wp2
      go_ret
      exact ⟨rfl, HBE.out⟩
namespace WindowCounts
set_option linter.unusedSimpArgs false in
set_option maxRecDepth 100000 in
theorem lifted (os : Os) (started : os.Started) (H : Type) (enc : TypeId × Value → H) :
    ReturnsInHanded {} Tryd.checked os 4 .any (fun w args => (Rows.windowCountsSpec.pre enc Tryd.prog Tryd.f4 [] false w args ∧ laidMetH Tryd.prog laidL w) ∧ sizedMet enc Tryd.prog Tryd.f4 (OpenSpec.ofChange Rows.windowCountsSpec) false w args)
      (Rows.windowCountsSpec.post enc Tryd.prog Tryd.f4 false true false false) := by
  refine returnsInHanded_of_change_and (C := Tryd.checked) (X := fun w _ => laidMetH Tryd.prog laidL w) (fun _ _ _ hh h => h.of_heap hh) own started (by kernel_rfl) Tryd.func4
    (ChangeSpec.witness_shaped (enc := enc) (C := Tryd.checked) (os := os) (X := fun w _ => laidMetH Tryd.prog laidL w) false (World.doorLaid Tryd.prog 400 os) #[.int .u64 0, .int .u8 0, .int .u8 0, .int .u8 0, .slice none 0 0, .slice none 0 0, .int .i64 0] 8 rfl (World.shaped_of_RefB (by kernel_rfl) (by kernel_rfl)) (by kernel_rfl) (by kernel_rfl) (by kernel_rfl) (door_met os _)) ?_
  intro W base args ds gs before hval0 hW _ _ hL _
  have hS := of_laid hL
  have hval : ∀ (j : Nat) t v, Tryd.f4.params[j]? = some t → args[j]? = some v → Value.okWide Tryd.prog W .any base t v := hval0
  have hW' := hW
  obtain ⟨p, q, hA0, hV, rfl, _, _⟩ := hW
  have hA : DataW.TrodAll enc Tryd.prog W 0 (fun _ => true) true Tryd.f4.params.toList args.toList ds p := hA0
  rw [Tryd.params4] at hA hval
  obtain ⟨v0, vs0, d0, ds0, p0, q0, hargs, rfl, rfl, h0, r0⟩ := trodAll_cons hA
  obtain ⟨v1, vs1, d1, ds1, p1, q1, rfl, rfl, rfl, h1, r1⟩ := trodAll_cons r0
  obtain ⟨v2, vs2, d2, ds2, p2, q2, rfl, rfl, rfl, h2, r2⟩ := trodAll_cons r1
  obtain ⟨v3, vs3, d3, ds3, p3, q3, rfl, rfl, rfl, h3, r3⟩ := trodAll_cons r2
  obtain ⟨v4, vs4, d4, ds4, p4, q4, rfl, rfl, rfl, h4, r4⟩ := trodAll_cons r3
  obtain ⟨v5, vs5, d5, ds5, p5, q5, rfl, rfl, rfl, h5, r5⟩ := trodAll_cons r4
  obtain ⟨v6, vs6, d6, ds6, p6, q6, rfl, rfl, rfl, h6, r6⟩ := trodAll_cons r5
  obtain ⟨rfl, rfl, rfl⟩ := trodAll_nil r6
  obtain rfl : args = #[v0, v1, v2, v3, v4, v5, v6] := by cases args; simp_all
  obtain ⟨rfl, rfl⟩ := trodVars_none hV
  obtain ⟨a0, rfl, rfl, rfl, w0⟩ := open_int Tryd.underlying22 (hval 0 22 v0 rfl rfl) h0
  have k0 := wf_u64 w0
  obtain ⟨n0, rfl⟩ : ∃ n : Nat, a0 = n := ⟨a0.toNat, by omega⟩
  obtain ⟨a1, rfl, rfl, rfl, w1⟩ := open_int Tryd.underlying5 (hval 1 5 v1 rfl rfl) h1
  have k1 := wf_u8 w1
  obtain ⟨n1, rfl⟩ : ∃ u : UInt8, a1 = (u.toNat : Int) := ⟨UInt8.ofNat a1.toNat, by simp; omega⟩
  obtain ⟨a2, rfl, rfl, rfl, w2⟩ := open_int Tryd.underlying5 (hval 2 5 v2 rfl rfl) h2
  have k2 := wf_u8 w2
  obtain ⟨n2, rfl⟩ : ∃ u : UInt8, a2 = (u.toNat : Int) := ⟨UInt8.ofNat a2.toNat, by simp; omega⟩
  obtain ⟨a3, rfl, rfl, rfl, w3⟩ := open_int Tryd.underlying5 (hval 3 5 v3 rfl rfl) h3
  have k3 := wf_u8 w3
  obtain ⟨n3, rfl⟩ : ∃ u : UInt8, a3 = (u.toNat : Int) := ⟨UInt8.ofNat a3.toNat, by simp; omega⟩
  obtain ⟨A4, cs4, cap4, rfl, l4, m4, b4, again4⟩ := arg_bytes (hval 4 23 v4 rfl rfl) h4
  have x4 := arg_extra h4
  obtain ⟨A5, cs5, cap5, rfl, l5, m5, b5, again5⟩ := arg_bytes (hval 5 23 v5 rfl rfl) h5
  have x5 := arg_extra h5
  obtain ⟨a6, rfl, rfl, rfl, w6⟩ := open_int Tryd.underlying3 (hval 6 3 v6 rfl rfl) h6
  have k6 := wf_i64 w6
  clear hA0 hval0
  simp only [List.append_nil] at hW'
  refine (windowCounts_walk n0 n1.toNat n2.toNat n3.toNat A4 cs4 cap4 A5 cs5 cap5 a6 (by omega) (by have := n1.toNat_lt; omega) (by have := n2.toNat_lt; omega) (by have := n3.toNat_lt; omega) W b4 b5 hS).mono fun e W' ⟨he, hg⟩ => ?_
  subst he
  exact ⟨_, rfl, true_last hW' rfl (by kernel_rfl) Tryd.underlying4 rfl rfl rfl (of_decide_eq_true (by kernel_rfl)) hg⟩

/-- The row. -/
theorem said : Rows.WindowCountsSaid :=
  OpenClaim.holds_of_wide 4 Tryd.f4 rfl rfl rfl rfl rfl rfl rfl ⟨rfl, rfl, rfl, rfl, rfl⟩ rfl rfl rfl rfl rfl (by kernel_rfl) Tryd.func4 (by kernel_rfl)
    (of_decide_eq_true (by kernel_rfl)) (by unfold Func.isWrapper; first | (rw [if_pos (by decide +kernel)]; kernel_rfl) | (rw [if_neg (by decide +kernel)]; exact ⟨rfl, rfl⟩))
    (fun os started H enc _ => lifted os started H enc)
/-- **WindowCounts, at every input: the card, its listed variables tied to the program's text.** -/
theorem proved : Rows.WindowCountsCardSaid :=
  Claim7.holds_tied_plain_at .later [] [.wider] true Rows.windowCountsCard.stood.harness false
    said (fun _ h => by cases h) (by kernel_rfl) (fun _ h => by cases h) windowCounts_row_tie rfl ⟨rfl, rfl⟩ (by kernel_rfl) rfl
    (fun f fn hf hfn => by
      obtain rfl : f = 4 := Option.some.inj ((show Tryd.prog.funcNamed "telemeter/telemeterlaw08.WindowCounts" = some 4 by kernel_rfl).symm.trans hf) |>.symm
      obtain rfl : fn = Tryd.f4 := (Option.some.inj (Tryd.func4.symm.trans hfn)).symm
      exact ⟨by kernel_rfl, fun j t ht => by
        rw [Tryd.params4] at ht
        have hm : t ∈ [22, 5, 5, 5, 23, 23, 3] := by simpa using Array.mem_of_getElem? ht
        have hall : ([22, 5, 5, 5, 23, 23, 3].all fun u => !Tryd.prog.wantsStandIn u) = true := by kernel_rfl
        exact (show Tryd.prog.wantsStandIn t = false by simpa using List.all_eq_true.1 hall t hm)⟩)
    (by kernel_rfl)
end WindowCounts

end Go.Proofs.YtgaoggniaajflaaDoor
