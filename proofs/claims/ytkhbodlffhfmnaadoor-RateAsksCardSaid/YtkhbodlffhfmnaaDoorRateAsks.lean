/-
  Proved: RateAsks returns true for every seed, shape, target, keys and times: any rate tells of any keys, at any times, what the chapter says. No condition but the card's own: hash's table of steps, tied to the program's text, holds at the start what that text lays.
-/
import Derived.Deep.CutBlock
import Derived.Deep.DeepCutAuto
import Derived.Deep.LoopGhost
import Derived.Deep.RegionHeld
import Derived.Test.YtkhbodlffhfmnaaDoorRtKnown
import Derived.Test.YtkhbodlffhfmnaaDoorRtBoth
namespace Go.Proofs.YtkhbodlffhfmnaaDoor
open Go.ChangeShapes Go.WideShapes Go.ChangeAt Go.RowKit Go.Proofs.HashMath Go.Proofs.SkMath Go.Proofs.RtMath

set_option linter.unusedSimpArgs false in
set_option maxRecDepth 100000 in
set_option maxHeartbeats 8000000 in
theorem rateAsks_walk (seed a b lg tr : Nat) (A5 : Option Addr) (cs : List UInt8) (cap5 : Nat) (A6 : Option Addr) (ds : List UInt8) (cap6 : Nat) (raw : Int)
    (hx : seed < 18446744073709551616) (ha : a ≤ 255) (hb : b ≤ 255) (hg : lg ≤ 255) (htr : tr ≤ 255) (w : World) (hH5 : Holds8 w.heap.size w A5 cs) (hH6 : Holds8 w.heap.size w A6 ds) (hS : Steps w) :
    Calls Tryd.prog 4 #[.int .u64 (seed : Int), .int .u8 (a : Int), .int .u8 (b : Int), .int .u8 (lg : Int), .int .u8 (tr : Int), .slice A5 cs.length cap5, .slice A6 ds.length cap6, .int .i64 raw] w fun e w' => e = .returned (.bool true) ∧ Below w.heap.size w w' := by
  obtain ⟨N, hN⟩ : ∃ N, cs.length = N := ⟨_, rfl⟩
  obtain ⟨D, hD⟩ : ∃ D, ds.length = D := ⟨_, rfl⟩
  rw [hN, hD]
  have HN := Lib.hid hN
  have HD := Lib.hid hD
  have HKN := Lib.hid (fun W (h : Below w.heap.size w W) => known9_any W (hS.below hS.lt h))
  clear hN hD
  by_cases hn60 : 60 < N
  · have d2 : decide ((60 : Int) < (N : Int)) = true := by simp; omega
    clear hH5 hH6 hS
    go_enter Tryd.func4, Tryd.ntmps4
    go_wp2_with fail
    refine (HKN.out _ (Below.refl _ _)).mono ?_
    rintro e w1 ⟨rfl, g⟩
    go_wp2_with fail
    go_ret
    exact ⟨rfl, g⟩
  have d2 : decide ((60 : Int) < (N : Int)) = false := by simp; omega
  obtain ⟨r, hr, r1, r8⟩ : ∃ r : Nat, (1 : Int) + (a : Int) % 3 = (r : Int) ∧ 1 ≤ r ∧ r ≤ 8 := ⟨1 + a % 3, by omega, by omega, by omega⟩
  obtain ⟨m, hm, m1, m2⟩ : ∃ m : Nat, (1 : Int) + (b : Int) % 12 = (m : Int) ∧ 1 ≤ m ∧ m ≤ 1024 := ⟨1 + b % 12, by omega, by omega, by omega⟩
  obtain ⟨long, hlg, l1, l2⟩ : ∃ n : Nat, (1 : Int) + (lg : Int) % 9 = (n : Int) ∧ 1 ≤ n ∧ n ≤ 1099511627776 := ⟨1 + lg % 9, by omega, by omega, by omega⟩
  obtain ⟨u, hu, hul⟩ : ∃ u : Nat, (tr : Int) % 4 = (u : Int) ∧ u ≤ 3 := ⟨tr % 4, by omega, by omega⟩
  have huw : IntKind.u64.wrap (u : Int) = (u : Int) := by rw [IntKind.wrap_u64]; omega
  obtain ⟨tg, htg, tg1, tg4⟩ : ∃ n : Nat, (1 : Int) + (u : Int) = (n : Int) ∧ 1 ≤ n ∧ n ≤ 4 := ⟨1 + u, by omega, by omega, by omega⟩
  have htw : IntKind.u64.wrap (tg : Int) = (tg : Int) := by rw [IntKind.wrap_u64]; omega
  have hlt := hS.lt
  obtain ⟨n0, hn0⟩ : ∃ n0, w.heap.size = n0 := ⟨_, rfl⟩
  have HKN0 := Lib.hid (HKN.out _ (Below.refl _ _))
  rw [hn0] at hlt hH5 hH6 HKN0 ⊢
  have HNEW := Lib.hid (fun W (h1 : n0 ≤ W.heap.size) (h2 : Below n0 w W) => rt_new (w := w) (W := W) r m seed long tg hS hlt h1 h2 r1 r8 m1 m2 hx l1 l2 tg1)
  have HRN := Lib.hid (fun bs W h => refRNew_any bs r m seed long tg W h r1 r8 m1 m2 l1 l2 tg1)
  have HN0 := Lib.hid hn0
  have HH5 := Lib.hid hH5
  have HH6 := Lib.hid hH6
  clear hn0 hH5 hH6 hS HKN
  go_enter Tryd.func4, Tryd.ntmps4
  go_wp2_with fail
  refine HKN0.out.mono ?_
  rintro e w1 ⟨rfl, g1⟩
  have hsz : n0 ≤ w1.heap.size := by have := g1.size; rw [HN0.out] at this; exact this
  have HB1 := Lib.hid g1
  clear g1
  go_wp2_with fail
  refine (HNEW.out _ hsz HB1.out).mono ?_
  rintro e w2 ⟨bs, V, RT, rfl, _, _, hw2⟩
  have HW2 := Lib.hid hw2
  clear hw2
  go_wp2_with fail
  refine (HRN.out bs _ (fun k hk => (HW2.out.1.bsn k hk).2)).mono ?_
  rintro e w3 ⟨cL, ccL, cT, ccT, rfl, hd3, g3⟩
  obtain ⟨nr, hnr⟩ : ∃ nr, w3.heap.size = nr := ⟨_, rfl⟩
  have hx3 := box_below (W := w3) (.cells #[.int .i64 (r : Int), .int .i64 (m : Int), .int .u64 (seed : Int), .int .i64 (long : Int), .int .i64 0, .slice (some ⟨cL, 0, none⟩) r ccL, .int .i64 (m : Int), .int .u64 (sdL seed 0 : Int), .int .u64 0, .slice (some ⟨cT, 0, none⟩) r ccT, .int .i64 (m : Int), .int .u64 (seed : Int), .int .u64 0, .int .u64 (tg : Int)] 42)
  have HT : Hid (Bp n0 w RT V r m seed long tg nr 0 Z Z 0 Z Z bs cL ccL (sdL seed 0) 0 cT ccT seed 0 (w3.alloc (.cells #[.int .i64 (r : Int), .int .i64 (m : Int), .int .u64 (seed : Int), .int .i64 (long : Int), .int .i64 0, .slice (some ⟨cL, 0, none⟩) r ccL, .int .i64 (m : Int), .int .u64 (sdL seed 0 : Int), .int .u64 0, .slice (some ⟨cT, 0, none⟩) r ccT, .int .i64 (m : Int), .int .u64 (seed : Int), .int .u64 0, .int .u64 (tg : Int)] 42))) := Lib.hid { p := (HW2.out.later g3).later hx3, d := hd3.step (Mut.of_below hx3) (ext_cons (by omega)), b := hnr ▸ blk_new w3 _ _, n1 := fun hk => by have := (HW2.out.1.bsn nr hk).2; have := g3.size; omega, n2 := fun e => by have := HW2.out.2.1.lt; have := g3.size; omega, n3 := by have := HW2.out.1.le; have := g3.size; omega, eL := by rw [Nat.zero_div], eT := by rw [Nat.zero_div]; unfold sd; omega }
  clear hx3 hd3 g3 HW2
  go_wp2_with fail
  go_loopg [20, 21] N (fun gk nv kv wr => ∃ k nw : Nat, gk + k = N ∧ kv = .int .i64 (k : Int) ∧ nv = .int .i64 (nw : Int) ∧ nw ≤ 1099511627776 + 4 * k ∧ Hid (∃ q f g bs cL ccL sL tL cT ccT sT tT, q ≤ 1099511627776 ∧ Bp n0 w RT V r m seed long tg nr q f g q f g bs cL ccL sL tL cT ccT sT tT wr))
  case atStart => exact ⟨0, 0, by omega, rfl, rfl, by omega, Lib.hid ⟨_, _, _, _, _, _, _, _, _, _, _, _, by omega, HT.out⟩⟩
  case round =>
    clear HT hnr
    obtain ⟨k, nw, hgk, rfl, rfl, hnw, HF⟩ := hrel
    by_cases hlt : k < N
    · have dl : decide ((k : Int) < (N : Int)) = true := by simp; omega
      obtain ⟨q, f, g, bs, cL, ccL, sL, tL, cT, ccT, sT, tT, hq, hT⟩ := HF.out
      obtain ⟨bb, off, rfl, hbl, hc⟩ := HH5.out (by rw [HN.out]; omega)
      have hcl := hc k (by rw [HN.out]; exact hlt)
      obtain ⟨c, hcv⟩ : ∃ c, cs.getD k 0 = c := ⟨_, rfl⟩
      rw [hcv] at hcl
      unfold b8 at hcl
      have hcu := c.toNat_lt
      obtain ⟨y, hy⟩ : ∃ y : Nat, (c.toNat : Int) = (y : Int) := ⟨_, rfl⟩
      have hyl : y ≤ 255 := by omega
      rw [hy] at hcl
      have HCL := Lib.hid hcl
      have HTT := Lib.hid hT
      obtain ⟨bd, hbd⟩ : ∃ bd, decide ((k : Int) < (D : Int)) = bd := ⟨_, rfl⟩
      clear hT hc hcv hy HF hcl
      go_upto_if 87 with fail
      go_cut [20, 22] (fun s20 s22 wx => ∃ (nw' : Nat) (t : Int), s20 = .int .i64 (nw' : Int) ∧ s22 = .int .i64 t ∧ nw' ≤ 1099511627776 + 4 * (k + 1) ∧ wr = wx)
      case first =>
        by_cases hkD : k < D
        · have eb : bd = true := by rw [← hbd]; simp; omega
          subst eb
          obtain ⟨b6, o6, rfl, hb6, hc6⟩ := HH6.out (by rw [HD.out]; omega)
          have hd6 := (HTT.out.p.1.b.cell (p := ⟨b6, o6 + k, none⟩) hb6).trans (hc6 k (by rw [HD.out]; exact hkD))
          obtain ⟨dv, hdv⟩ : ∃ dv, ds.getD k 0 = dv := ⟨_, rfl⟩
          rw [hdv] at hd6
          unfold b8 at hd6
          have hdl := dv.toNat_lt
          obtain ⟨z, hzz⟩ : ∃ z : Nat, (dv.toNat : Int) = (z : Int) := ⟨_, rfl⟩
          have hzl : z ≤ 255 := by omega
          rw [hzz] at hd6
          obtain ⟨x4, h4, h4l⟩ : ∃ x4 : Nat, (z : Int) % 4 = (x4 : Int) ∧ x4 ≤ 3 := ⟨z % 4, by omega, by omega⟩
          obtain ⟨n4, hn4, hn4l⟩ : ∃ n4 : Nat, (nw : Int) + (x4 : Int) = (n4 : Int) ∧ n4 ≤ 1099511627776 + 4 * (k + 1) := ⟨nw + x4, by omega, by omega⟩
          have hn4s : n4 ≤ 1099511630000 := by omega
          have k1 : 0 ≤ (k : Int) := by omega
          have k2 : (k : Int) < (D : Int) := by omega
          clear hc6 hdv hzz
          by_cases h245 : 245 < z
          · have e1 : decide ((245 : Int) < (z : Int)) = true := by simp; omega
            go_wp2
            go_meet
            exact ⟨n4, _, rfl, rfl, hn4l, rfl⟩
          · have e1 : decide ((245 : Int) < (z : Int)) = false := by simp; omega
            go_wp2
            go_meet
            exact ⟨n4, _, rfl, rfl, hn4l, rfl⟩
        · have eb : bd = false := by rw [← hbd]; simp; omega
          subst eb
          go_wp2
          go_meet
          exact ⟨nw, _, rfl, rfl, by omega, rfl⟩
      case rest =>
        obtain ⟨nw', t, rfl, rfl, hnw', rfl⟩ := hcut
        have hcl : wr.cell? ⟨bb, off + k, none⟩ = some (.int .u8 (y : Int)) := (HTT.out.p.1.b.cell (p := ⟨bb, off + k, none⟩) hbl).trans HCL.out
        have k1 : 0 ≤ (k : Int) := by omega
        have k2 : (k : Int) < (N : Int) := by omega
        obtain ⟨ky, hky, hkz⟩ : ∃ ky, keyT (y % 12) = ky ∧ ky.size ≤ 9223372036854775807 := ⟨_, rfl, keyT_size _⟩
        have HKY := Lib.hid hky
        obtain ⟨er, q2, sL2, sT2, x, f2, g2, her, hq2, hxl, eL2, eT2, hDoc, hRt⟩ := ask_does RT V r m seed long tg q f g t ky hkz hq r1 r8 m1 m2 l1
        have HDOC := Lib.hid hDoc
        have HRT := Lib.hid hRt
        have EL2 := Lib.hid eL2
        have ET2 := Lib.hid eT2
        clear hDoc hRt eL2 eT2 hky
        go_wp2_with fail
        refine (key_any y _ hyl).mono ?_
        rintro e w4 ⟨rfl, g4⟩
        rw [HKY.out]
        have HT3 := Lib.hid (HTT.out.later g4)
        clear g4 hcl
        go_wp2_with fail
        refine (HRT.out _ _ _ _ HT3.out.p).mono ?_
        rintro e w4 ⟨rfl, bs4, hx4, hm4, hr4⟩
        have HT4 := Lib.hid (HT3.out.turn hx4 hm4 hr4)
        clear hx4 hm4 hr4 HT3 HTT
        go_upto_region 18 with fail
        go_cut [25, 26, 27] (fun s25 s26 s27 wx => ∃ nv cL2 ccL2 tL2 cT2 ccT2 tT2 : Nat, s25 = .pointer (some ⟨nv, 0, none⟩) ∧ s26 = .int .u64 (x : Int) ∧ s27 = .int .i64 (er : Int) ∧ Hid (Bp n0 w RT V r m seed long tg nr q2 f2 g2 q f g bs4 cL ccL sL tL cT ccT sT tT wx ∧ Doc (nr :: bs4) wx r m f2 g2 cL2 ccL2 tL2 cT2 ccT2 tT2 ∧ Blk wx nv #[.int .i64 (r : Int), .int .i64 (m : Int), .int .u64 (seed : Int), .int .i64 (long : Int), .int .i64 (q2 : Int), .slice (some ⟨cL2, 0, none⟩) r ccL2, .int .i64 (m : Int), .int .u64 (sL2 : Int), .int .u64 (tL2 : Int), .slice (some ⟨cT2, 0, none⟩) r ccT2, .int .i64 (m : Int), .int .u64 (sT2 : Int), .int .u64 (tT2 : Int), .int .u64 (tg : Int)] 42))
        case first =>
          refine wp_region_held_drew (S := fun W => Bp n0 w RT V r m seed long tg nr q2 f2 g2 q f g bs4 cL ccL sL tL cT ccT sT tT W) (by kernel_rfl) ?_ (fun hHeld => ?_)
          · exact HT4.out.later ((Below.refl _ _).drew)
          refine wpAnyH_take (i := 0) (v := ?_) rfl (by kernel_rfl) (by kernel_rfl) (by kernel_rfl) (fun _ _ _ h => h) (Or.inl ⟨by rfl, ?_⟩) (by assumption) ?_
          rotate_left
          · intro wq hSw; (try dsimp only at hSw); have q0 := hSw.b.cell 0 rfl; have q1 := hSw.b.cell 1 rfl; have q2 := hSw.b.cell 2 rfl; have q3 := hSw.b.cell 3 rfl; have q4 := hSw.b.cell 4 rfl; have q5 := hSw.b.cell 5 rfl; have q6 := hSw.b.cell 6 rfl; have q7 := hSw.b.cell 7 rfl; have q8 := hSw.b.cell 8 rfl; have q9 := hSw.b.cell 9 rfl; have q10 := hSw.b.cell 10 rfl; have q11 := hSw.b.cell 11 rfl; have q12 := hSw.b.cell 12 rfl; have q13 := hSw.b.cell 13 rfl; go_simp; (try with_reducible rfl)
          simp only [Act.put, List.getElem_toArray, List.getElem_cons_succ, List.getElem_cons_zero, List.setIfInBounds_toArray, List.set_cons_zero, List.set_cons_succ]
          refine wpAnyH_take (i := 1) (v := ?_) rfl (by kernel_rfl) (by kernel_rfl) (by kernel_rfl) (fun _ _ _ h => h) (Or.inl ⟨by rfl, ?_⟩) (by assumption) ?_
          rotate_left
          · intro wq hSw; (try dsimp only at hSw); go_simp; (try with_reducible rfl)
          simp only [Act.put, List.getElem_toArray, List.getElem_cons_succ, List.getElem_cons_zero, List.setIfInBounds_toArray, List.set_cons_zero, List.set_cons_succ]
          refine wpAnyH_take (i := 2) (v := ?_) rfl (by kernel_rfl) (by kernel_rfl) (by kernel_rfl) (fun _ _ _ h => h) (Or.inl ⟨by rfl, ?_⟩) (by assumption) ?_
          rotate_left
          · intro wq hSw; (try dsimp only at hSw); go_simp; (try with_reducible rfl)
          simp only [Act.put, List.getElem_toArray, List.getElem_cons_succ, List.getElem_cons_zero, List.setIfInBounds_toArray, List.set_cons_zero, List.set_cons_succ]
          refine wpAnyH_take (i := 3) (v := ?_) rfl (by kernel_rfl) (by kernel_rfl) (by kernel_rfl) (fun _ _ _ h => h) (Or.inl ⟨by rfl, ?_⟩) (by assumption) ?_
          rotate_left
          · intro wq hSw; (try dsimp only at hSw); go_simp; (try with_reducible rfl)
          simp only [Act.put, List.getElem_toArray, List.getElem_cons_succ, List.getElem_cons_zero, List.setIfInBounds_toArray, List.set_cons_zero, List.set_cons_succ]
          refine wpAnyH_take (i := 4) (v := ?_) rfl (by kernel_rfl) (by kernel_rfl) (by kernel_rfl) (fun _ _ _ h => h) (Or.inl ⟨by rfl, ?_⟩) (by assumption) ?_
          rotate_left
          · intro wq hSw; (try dsimp only at hSw); go_simp; (try with_reducible rfl)
          simp only [Act.put, List.getElem_toArray, List.getElem_cons_succ, List.getElem_cons_zero, List.setIfInBounds_toArray, List.set_cons_zero, List.set_cons_succ]
          refine wpAnyH_take (i := 5) (v := ?_) rfl (by kernel_rfl) (by kernel_rfl) (by kernel_rfl) (fun _ _ _ h => h) (Or.inl ⟨by rfl, ?_⟩) (by assumption) ?_
          rotate_left
          · intro wq hSw; (try dsimp only at hSw); have z0 : wq.cell? ⟨bb, off + k, none⟩ = some (.int .u8 (y : Int)) := (hSw.p.1.b.cell (p := ⟨bb, off + k, none⟩) hbl).trans HCL.out; go_simp; (try with_reducible rfl)
          simp only [Act.put, List.getElem_toArray, List.getElem_cons_succ, List.getElem_cons_zero, List.setIfInBounds_toArray, List.set_cons_zero, List.set_cons_succ]
          refine wpAnyH_ready (rs := [6, 12]) (by kernel_rfl) (by simp) ?_
          refine AllReadyH.cons rfl (fun K hK => ?_) (AllReadyH.cons rfl (fun K hK => ?_) (AllReadyH.nil))
          · go_simp
            refine (key_any y _ hyl).mono ?_
            rintro e wk ⟨rfl, hbk⟩
            rw [HKY.out]
            (try go_wp2_with fail)
            refine hK.out _ _ ?_ (fun hHeld => ?_)
            · exact hHeld.later hbk
            clear hK K
            try simp only [Act.put, List.getElem_toArray, List.getElem_cons_succ, List.getElem_cons_zero, List.setIfInBounds_toArray, List.set_cons_zero, List.set_cons_succ]
            clear hbk
            have HX := Lib.hid hHeld
            refine wpAnyH_ready (rs := [7, 12]) (by kernel_rfl) (by simp) ?_
            refine AllReadyH.cons rfl (fun K hK => ?_) (AllReadyH.cons rfl (fun K hK => ?_) (AllReadyH.nil))
            · go_simp
              refine (HDOC.out (nr :: bs4) _ _ _ _ _ _ _ _ _ hHeld.d hHeld.lt hHeld.eL hHeld.eT).mono ?_
              rintro e wx ⟨cL2, ccL2, tL2, cT2, ccT2, tT2, rfl, hd2, hbx⟩
              (try go_wp2_with fail)
              refine hK.out _ _ ?_ (fun hHeld => ?_)
              · exact hHeld.later hbx
              clear hK K
              try simp only [Act.put, List.getElem_toArray, List.getElem_cons_succ, List.getElem_cons_zero, List.setIfInBounds_toArray, List.set_cons_zero, List.set_cons_succ]
              refine wpAnyH_take (i := 8) (v := ?_) rfl (by kernel_rfl) (by kernel_rfl) (by kernel_rfl) (fun _ _ _ h => h) (Or.inl ⟨by rfl, ?_⟩) (by assumption) ?_
              rotate_left
              · intro wq hSw; (try dsimp only at hSw); go_simp; (try with_reducible rfl)
              simp only [Act.put, List.getElem_toArray, List.getElem_cons_succ, List.getElem_cons_zero, List.setIfInBounds_toArray, List.set_cons_zero, List.set_cons_succ]
              refine wpAnyH_take (i := 9) (v := ?_) rfl (by kernel_rfl) (by kernel_rfl) (by kernel_rfl) (fun _ _ _ h => h) (Or.inl ⟨by rfl, ?_⟩) (by assumption) ?_
              rotate_left
              · intro wq hSw; (try dsimp only at hSw); go_simp; (try with_reducible rfl)
              simp only [Act.put, List.getElem_toArray, List.getElem_cons_succ, List.getElem_cons_zero, List.setIfInBounds_toArray, List.set_cons_zero, List.set_cons_succ]
              refine wpAnyH_take (i := 10) (v := ?_) rfl (by kernel_rfl) (by kernel_rfl) (by kernel_rfl) (fun _ _ _ h => h) (Or.inl ⟨by rfl, ?_⟩) (by assumption) ?_
              rotate_left
              · intro wq hSw; (try dsimp only at hSw); go_simp; (try with_reducible rfl)
              simp only [Act.put, List.getElem_toArray, List.getElem_cons_succ, List.getElem_cons_zero, List.setIfInBounds_toArray, List.set_cons_zero, List.set_cons_succ]
              refine wpAnyH_take (i := 11) (v := ?_) rfl (by kernel_rfl) (by kernel_rfl) (by kernel_rfl) (fun _ _ _ h => h) (Or.inl ⟨by rfl, ?_⟩) (by assumption) ?_
              rotate_left
              · intro wq hSw; (try dsimp only at hSw); go_simp; (try with_reducible rfl)
              simp only [Act.put, List.getElem_toArray, List.getElem_cons_succ, List.getElem_cons_zero, List.setIfInBounds_toArray, List.set_cons_zero, List.set_cons_succ]
              have HX2 := Lib.hid hHeld
              have HD2 := Lib.hid hd2
              clear hd2 hbx
              refine wpAnyH_ready (rs := [12]) (by kernel_rfl) (by simp) ?_
              refine AllReadyH.cons rfl (fun K hK => ?_) AllReadyH.nil
              go_simp
              (try go_wp2_with fail)
              refine hK.out _ _ ?_ (fun hHeld => ?_)
              · exact hHeld.later (box_below _)
              clear hK K
              try simp only [Act.put, List.getElem_toArray, List.getElem_cons_succ, List.getElem_cons_zero, List.setIfInBounds_toArray, List.set_cons_zero, List.set_cons_succ]
              refine wpAnyH_ready (rs := [13]) (by kernel_rfl) (by simp) ?_
              refine AllReadyH.cons rfl (fun K hK => ?_) AllReadyH.nil
              go_simp
              (try go_wp2_with fail)
              refine hK.out _ _ ?_ (fun hHeld => ?_)
              · exact HX2.out.later (box_below _)
              clear hK K
              try simp only [Act.put, List.getElem_toArray, List.getElem_cons_succ, List.getElem_cons_zero, List.setIfInBounds_toArray, List.set_cons_zero, List.set_cons_succ]
              refine wpAnyH_take (i := 14) (v := ?_) rfl (by kernel_rfl) (by kernel_rfl) (by kernel_rfl) (fun _ _ _ h => h) (Or.inl ⟨by rfl, ?_⟩) (by assumption) ?_
              rotate_left
              · intro wq hSw; (try dsimp only at hSw); go_simp; (try with_reducible rfl)
              simp only [Act.put, List.getElem_toArray, List.getElem_cons_succ, List.getElem_cons_zero, List.setIfInBounds_toArray, List.set_cons_zero, List.set_cons_succ]
              refine wpAnyH_take (i := 15) (v := ?_) rfl (by kernel_rfl) (by kernel_rfl) (by kernel_rfl) (fun _ _ _ h => h) (Or.inl ⟨by rfl, ?_⟩) (by assumption) ?_
              rotate_left
              · intro wq hSw; (try dsimp only at hSw); go_simp; (try with_reducible rfl)
              simp only [Act.put, List.getElem_toArray, List.getElem_cons_succ, List.getElem_cons_zero, List.setIfInBounds_toArray, List.set_cons_zero, List.set_cons_succ]
              refine wpAnyH_done (by kernel_rfl) ?_ _
              clear hHeld
              go_wp2_with fail
              go_meet
              exact ⟨_, _, _, _, _, _, _, rfl, rfl, rfl, Lib.hid ⟨HX2.out.later (box_below _), HD2.out.later (box_below _), blk_new _ _ _⟩⟩
            · go_simp
              (try go_wp2_with fail)
              refine hK.out _ _ ?_ (fun hHeld => ?_)
              · exact hHeld.later (box_below _)
              clear hK K
              try simp only [Act.put, List.getElem_toArray, List.getElem_cons_succ, List.getElem_cons_zero, List.setIfInBounds_toArray, List.set_cons_zero, List.set_cons_succ]
              have HFR := Lib.hid HX.out.fresh
              refine wpAnyH_ready (rs := [7]) (by kernel_rfl) (by simp) ?_
              refine AllReadyH.cons rfl (fun K hK => ?_) AllReadyH.nil
              go_simp
              refine (HDOC.out (wk.heap.size :: nr :: bs4) _ _ _ _ _ _ _ _ _ HFR.out.d HFR.out.lt hHeld.eL hHeld.eT).mono ?_
              rintro e wx ⟨cL2, ccL2, tL2, cT2, ccT2, tT2, rfl, hd2, hbx⟩
              (try go_wp2_with fail)
              refine hK.out _ _ ?_ (fun hHeld => ?_)
              · exact hHeld.later hbx
              clear hK K
              try simp only [Act.put, List.getElem_toArray, List.getElem_cons_succ, List.getElem_cons_zero, List.setIfInBounds_toArray, List.set_cons_zero, List.set_cons_succ]
              refine wpAnyH_take (i := 8) (v := ?_) rfl (by kernel_rfl) (by kernel_rfl) (by kernel_rfl) (fun _ _ _ h => h) (Or.inl ⟨by rfl, ?_⟩) (by assumption) ?_
              rotate_left
              · intro wq hSw; (try dsimp only at hSw); go_simp; (try with_reducible rfl)
              simp only [Act.put, List.getElem_toArray, List.getElem_cons_succ, List.getElem_cons_zero, List.setIfInBounds_toArray, List.set_cons_zero, List.set_cons_succ]
              refine wpAnyH_take (i := 9) (v := ?_) rfl (by kernel_rfl) (by kernel_rfl) (by kernel_rfl) (fun _ _ _ h => h) (Or.inl ⟨by rfl, ?_⟩) (by assumption) ?_
              rotate_left
              · intro wq hSw; (try dsimp only at hSw); go_simp; (try with_reducible rfl)
              simp only [Act.put, List.getElem_toArray, List.getElem_cons_succ, List.getElem_cons_zero, List.setIfInBounds_toArray, List.set_cons_zero, List.set_cons_succ]
              refine wpAnyH_take (i := 10) (v := ?_) rfl (by kernel_rfl) (by kernel_rfl) (by kernel_rfl) (fun _ _ _ h => h) (Or.inl ⟨by rfl, ?_⟩) (by assumption) ?_
              rotate_left
              · intro wq hSw; (try dsimp only at hSw); go_simp; (try with_reducible rfl)
              simp only [Act.put, List.getElem_toArray, List.getElem_cons_succ, List.getElem_cons_zero, List.setIfInBounds_toArray, List.set_cons_zero, List.set_cons_succ]
              refine wpAnyH_take (i := 11) (v := ?_) rfl (by kernel_rfl) (by kernel_rfl) (by kernel_rfl) (fun _ _ _ h => h) (Or.inl ⟨by rfl, ?_⟩) (by assumption) ?_
              rotate_left
              · intro wq hSw; (try dsimp only at hSw); go_simp; (try with_reducible rfl)
              simp only [Act.put, List.getElem_toArray, List.getElem_cons_succ, List.getElem_cons_zero, List.setIfInBounds_toArray, List.set_cons_zero, List.set_cons_succ]
              have HFX := Lib.hid (HFR.out.later hbx)
              have HD2 := Lib.hid hd2
              clear hd2 hbx
              refine wpAnyH_ready (rs := [13]) (by kernel_rfl) (by simp) ?_
              refine AllReadyH.cons rfl (fun K hK => ?_) AllReadyH.nil
              rw [if_pos (by rfl)]
              refine wp_store_row 42 (.tmp 25) (.tmp 123) rfl wk.heap.size #[.int .i64 (r : Int), .int .i64 (m : Int), .int .u64 (seed : Int), .int .i64 (long : Int), .int .i64 (q2 : Int), .slice (some ⟨cL2, 0, none⟩) r ccL2, .int .i64 (m : Int), .int .u64 (sL2 : Int), .int .u64 (tL2 : Int), .slice (some ⟨cT2, 0, none⟩) r ccT2, .int .i64 (m : Int), .int .u64 (sT2 : Int), .int .u64 (tT2 : Int), .int .u64 (tg : Int)] rfl rfl 42 #[.int .i64 0, .int .i64 0, .int .u64 0, .int .i64 0, .int .i64 0, .slice none 0 0, .int .i64 0, .int .u64 0, .int .u64 0, .slice none 0 0, .int .i64 0, .int .u64 0, .int .u64 0, .int .u64 0] HFX.out.b (by kernel_rfl) rfl (by simp [Value.oneCell']) ?_
              dsimp only [Act.put]
              refine hK.out _ _ ?_ (fun hHeld => ?_)
              · exact HX.out.later (below_setRow HFX.out.w (Nat.le_refl _) _)
              clear hK K
              try simp only [Act.put, List.getElem_toArray, List.getElem_cons_succ, List.getElem_cons_zero, List.setIfInBounds_toArray, List.set_cons_zero, List.set_cons_succ]
              refine wpAnyH_take (i := 14) (v := ?_) rfl (by kernel_rfl) (by kernel_rfl) (by kernel_rfl) (fun _ _ _ h => h) (Or.inl ⟨by rfl, ?_⟩) (by assumption) ?_
              rotate_left
              · intro wq hSw; (try dsimp only at hSw); go_simp; (try with_reducible rfl)
              simp only [Act.put, List.getElem_toArray, List.getElem_cons_succ, List.getElem_cons_zero, List.setIfInBounds_toArray, List.set_cons_zero, List.set_cons_succ]
              refine wpAnyH_take (i := 15) (v := ?_) rfl (by kernel_rfl) (by kernel_rfl) (by kernel_rfl) (fun _ _ _ h => h) (Or.inl ⟨by rfl, ?_⟩) (by assumption) ?_
              rotate_left
              · intro wq hSw; (try dsimp only at hSw); go_simp; (try with_reducible rfl)
              simp only [Act.put, List.getElem_toArray, List.getElem_cons_succ, List.getElem_cons_zero, List.setIfInBounds_toArray, List.set_cons_zero, List.set_cons_succ]
              refine wpAnyH_done (by kernel_rfl) ?_ _
              clear hHeld
              go_wp2_with fail
              go_meet
              exact ⟨_, _, _, _, _, _, _, rfl, rfl, rfl, Lib.hid ⟨HX.out.later (below_setRow HFX.out.w (Nat.le_refl _) _), (HD2.out.step ((Mut.setRow _ wk.heap.size _).wider (by simp)) (Ext.refl _ _)).sub (by simp +contextual), setRow_heap _ _ _ _ _ _ HFX.out.b⟩⟩
          · go_simp
            (try go_wp2_with fail)
            refine hK.out _ _ ?_ (fun hHeld => ?_)
            · exact HT4.out.later ((box_below _).drew)
            clear hK K
            try simp only [Act.put, List.getElem_toArray, List.getElem_cons_succ, List.getElem_cons_zero, List.setIfInBounds_toArray, List.set_cons_zero, List.set_cons_succ]
            have HFR := Lib.hid (HT4.out.fresh.later (Below.refl _ _).drew)
            refine wpAnyH_ready (rs := [6]) (by kernel_rfl) (by simp) ?_
            refine AllReadyH.cons rfl (fun K hK => ?_) AllReadyH.nil
            go_simp
            refine (key_any y _ hyl).mono ?_
            rintro e wk ⟨rfl, hbk⟩
            rw [HKY.out]
            (try go_wp2_with fail)
            refine hK.out _ _ ?_ (fun hHeld => ?_)
            · exact hHeld.later hbk
            clear hK K
            try simp only [Act.put, List.getElem_toArray, List.getElem_cons_succ, List.getElem_cons_zero, List.setIfInBounds_toArray, List.set_cons_zero, List.set_cons_succ]
            have HFK := Lib.hid (HFR.out.later hbk)
            clear hbk
            refine wpAnyH_ready (rs := [7]) (by kernel_rfl) (by simp) ?_
            refine AllReadyH.cons rfl (fun K hK => ?_) AllReadyH.nil
            go_simp
            refine (HDOC.out (w4.heap.size :: nr :: bs4) _ _ _ _ _ _ _ _ _ HFK.out.d HFK.out.lt hHeld.eL hHeld.eT).mono ?_
            rintro e wx ⟨cL2, ccL2, tL2, cT2, ccT2, tT2, rfl, hd2, hbx⟩
            (try go_wp2_with fail)
            refine hK.out _ _ ?_ (fun hHeld => ?_)
            · exact hHeld.later hbx
            clear hK K
            try simp only [Act.put, List.getElem_toArray, List.getElem_cons_succ, List.getElem_cons_zero, List.setIfInBounds_toArray, List.set_cons_zero, List.set_cons_succ]
            refine wpAnyH_take (i := 8) (v := ?_) rfl (by kernel_rfl) (by kernel_rfl) (by kernel_rfl) (fun _ _ _ h => h) (Or.inl ⟨by rfl, ?_⟩) (by assumption) ?_
            rotate_left
            · intro wq hSw; (try dsimp only at hSw); go_simp; (try with_reducible rfl)
            simp only [Act.put, List.getElem_toArray, List.getElem_cons_succ, List.getElem_cons_zero, List.setIfInBounds_toArray, List.set_cons_zero, List.set_cons_succ]
            refine wpAnyH_take (i := 9) (v := ?_) rfl (by kernel_rfl) (by kernel_rfl) (by kernel_rfl) (fun _ _ _ h => h) (Or.inl ⟨by rfl, ?_⟩) (by assumption) ?_
            rotate_left
            · intro wq hSw; (try dsimp only at hSw); go_simp; (try with_reducible rfl)
            simp only [Act.put, List.getElem_toArray, List.getElem_cons_succ, List.getElem_cons_zero, List.setIfInBounds_toArray, List.set_cons_zero, List.set_cons_succ]
            refine wpAnyH_take (i := 10) (v := ?_) rfl (by kernel_rfl) (by kernel_rfl) (by kernel_rfl) (fun _ _ _ h => h) (Or.inl ⟨by rfl, ?_⟩) (by assumption) ?_
            rotate_left
            · intro wq hSw; (try dsimp only at hSw); go_simp; (try with_reducible rfl)
            simp only [Act.put, List.getElem_toArray, List.getElem_cons_succ, List.getElem_cons_zero, List.setIfInBounds_toArray, List.set_cons_zero, List.set_cons_succ]
            refine wpAnyH_take (i := 11) (v := ?_) rfl (by kernel_rfl) (by kernel_rfl) (by kernel_rfl) (fun _ _ _ h => h) (Or.inl ⟨by rfl, ?_⟩) (by assumption) ?_
            rotate_left
            · intro wq hSw; (try dsimp only at hSw); go_simp; (try with_reducible rfl)
            simp only [Act.put, List.getElem_toArray, List.getElem_cons_succ, List.getElem_cons_zero, List.setIfInBounds_toArray, List.set_cons_zero, List.set_cons_succ]
            have HFX := Lib.hid (HFK.out.later hbx)
            have HD2 := Lib.hid hd2
            clear hd2 hbx
            refine wpAnyH_ready (rs := [13]) (by kernel_rfl) (by simp) ?_
            refine AllReadyH.cons rfl (fun K hK => ?_) AllReadyH.nil
            rw [if_pos (by rfl)]
            refine wp_store_row 42 (.tmp 25) (.tmp 123) rfl w4.heap.size #[.int .i64 (r : Int), .int .i64 (m : Int), .int .u64 (seed : Int), .int .i64 (long : Int), .int .i64 (q2 : Int), .slice (some ⟨cL2, 0, none⟩) r ccL2, .int .i64 (m : Int), .int .u64 (sL2 : Int), .int .u64 (tL2 : Int), .slice (some ⟨cT2, 0, none⟩) r ccT2, .int .i64 (m : Int), .int .u64 (sT2 : Int), .int .u64 (tT2 : Int), .int .u64 (tg : Int)] rfl rfl 42 #[.int .i64 0, .int .i64 0, .int .u64 0, .int .i64 0, .int .i64 0, .slice none 0 0, .int .i64 0, .int .u64 0, .int .u64 0, .slice none 0 0, .int .i64 0, .int .u64 0, .int .u64 0, .int .u64 0] HFX.out.b (by kernel_rfl) rfl (by simp [Value.oneCell']) ?_
            dsimp only [Act.put]
            refine hK.out _ _ ?_ (fun hHeld => ?_)
            · exact HT4.out.later (below_setRow HFX.out.w (Nat.le_refl _) _)
            clear hK K
            try simp only [Act.put, List.getElem_toArray, List.getElem_cons_succ, List.getElem_cons_zero, List.setIfInBounds_toArray, List.set_cons_zero, List.set_cons_succ]
            refine wpAnyH_take (i := 14) (v := ?_) rfl (by kernel_rfl) (by kernel_rfl) (by kernel_rfl) (fun _ _ _ h => h) (Or.inl ⟨by rfl, ?_⟩) (by assumption) ?_
            rotate_left
            · intro wq hSw; (try dsimp only at hSw); go_simp; (try with_reducible rfl)
            simp only [Act.put, List.getElem_toArray, List.getElem_cons_succ, List.getElem_cons_zero, List.setIfInBounds_toArray, List.set_cons_zero, List.set_cons_succ]
            refine wpAnyH_take (i := 15) (v := ?_) rfl (by kernel_rfl) (by kernel_rfl) (by kernel_rfl) (fun _ _ _ h => h) (Or.inl ⟨by rfl, ?_⟩) (by assumption) ?_
            rotate_left
            · intro wq hSw; (try dsimp only at hSw); go_simp; (try with_reducible rfl)
            simp only [Act.put, List.getElem_toArray, List.getElem_cons_succ, List.getElem_cons_zero, List.setIfInBounds_toArray, List.set_cons_zero, List.set_cons_succ]
            refine wpAnyH_done (by kernel_rfl) ?_ _
            clear hHeld
            go_wp2_with fail
            go_meet
            exact ⟨_, _, _, _, _, _, _, rfl, rfl, rfl, Lib.hid ⟨HT4.out.later (below_setRow HFX.out.w (Nat.le_refl _) _), (HD2.out.step ((Mut.setRow _ w4.heap.size _).wider (by simp)) (Ext.refl _ _)).sub (by simp +contextual), setRow_heap _ _ _ _ _ _ HFX.out.b⟩⟩
        case rest =>
          obtain ⟨nv, cL2, ccL2, tL2, cT2, ccT2, tT2, rfl, rfl, rfl, HR⟩ := hcut
          have HS := Lib.hid (HR.out.1.store HR.out.2.1 EL2.out ET2.out)
          have HRB := Lib.hid HR.out.1.b
          have HRV := Lib.hid HR.out.2.2
          have c4 : (wc.setRow nr #[.int .i64 (r : Int), .int .i64 (m : Int), .int .u64 (seed : Int), .int .i64 (long : Int), .int .i64 (q2 : Int), .slice (some ⟨cL2, 0, none⟩) r ccL2, .int .i64 (m : Int), .int .u64 (sL2 : Int), .int .u64 (tL2 : Int), .slice (some ⟨cT2, 0, none⟩) r ccT2, .int .i64 (m : Int), .int .u64 (sT2 : Int), .int .u64 (tT2 : Int), .int .u64 (tg : Int)]).cell? ⟨nr, 4, none⟩ = some (.int .i64 (q2 : Int)) := HS.out.b.cell 4 rfl
          obtain ⟨nw2, hmx, hmx2, hnw2⟩ : ∃ nw2 : Nat, max (nw' : Int) (q2 : Int) = (nw2 : Int) ∧ (if nw' < q2 then (q2 : Int) else (nw' : Int)) = (nw2 : Int) ∧ nw2 ≤ 1099511627776 + 4 * (k + 1) := ⟨max nw' q2, by omega, by split <;> omega, by omega⟩
          have hne : ((er : Int) != (er : Int)) = false := by simp
          have hnx : ((x : Int) != (x : Int)) = false := by simp
          go_wp2_with (first
            | (refine wpList_load_row rfl 42 (.tmp 25) rfl nv rfl 42 #[.int .i64 (r : Int), .int .i64 (m : Int), .int .u64 (seed : Int), .int .i64 (long : Int), .int .i64 (q2 : Int), .slice (some ⟨cL2, 0, none⟩) r ccL2, .int .i64 (m : Int), .int .u64 (sL2 : Int), .int .u64 (tL2 : Int), .slice (some ⟨cT2, 0, none⟩) r ccT2, .int .i64 (m : Int), .int .u64 (sT2 : Int), .int .u64 (tT2 : Int), .int .u64 (tg : Int)] (0, 0) _ HRV.out Tryd.underlying42 rfl (by kernel_rfl) ?_)
            | (refine wpList_store_row rfl 42 (.tmp 18) _ rfl nr #[.int .i64 (r : Int), .int .i64 (m : Int), .int .u64 (seed : Int), .int .i64 (long : Int), .int .i64 (q2 : Int), .slice (some ⟨cL2, 0, none⟩) r ccL2, .int .i64 (m : Int), .int .u64 (sL2 : Int), .int .u64 (tL2 : Int), .slice (some ⟨cT2, 0, none⟩) r ccT2, .int .i64 (m : Int), .int .u64 (sT2 : Int), .int .u64 (tT2 : Int), .int .u64 (tg : Int)] rfl rfl 42 #[.int .i64 (r : Int), .int .i64 (m : Int), .int .u64 (seed : Int), .int .i64 (long : Int), .int .i64 (q : Int), .slice (some ⟨cL, 0, none⟩) r ccL, .int .i64 (m : Int), .int .u64 (sL : Int), .int .u64 (tL : Int), .slice (some ⟨cT, 0, none⟩) r ccT, .int .i64 (m : Int), .int .u64 (sT : Int), .int .u64 (tT : Int), .int .u64 (tg : Int)] HRB.out (by kernel_rfl) rfl (by simp [Value.oneCell']) ?_))
          go_roundg (gk - 1)
          case measure => omega
          case rel => exact ⟨k + 1, nw2, by omega, by go_num, rfl, hnw2, Lib.hid ⟨q2, f2, g2, _, _, _, _, _, _, _, _, _, hq2, HS.out⟩⟩
    · have dl : decide ((k : Int) < (N : Int)) = false := by simp; omega
      obtain ⟨q, f, g, bs, cL, ccL, sL, tL, cT, ccT, sT, tT, hq, hT⟩ := HF.out
      have HB := Lib.hid hT.p.1.b
      clear hT HF
      go_wp2_with fail
      go_ret
      exact ⟨rfl, HB.out⟩
namespace RateAsks
set_option linter.unusedSimpArgs false in
set_option maxRecDepth 100000 in
theorem lifted (os : Os) (started : os.Started) (H : Type) (enc : TypeId × Value → H) :
    ReturnsInHanded {} Tryd.checked os 4 .any (fun w args => (Rows.rateAsksSpec.pre enc Tryd.prog Tryd.f4 [] false w args ∧ laidMetH Tryd.prog laidL w) ∧ sizedMet enc Tryd.prog Tryd.f4 (OpenSpec.ofChange Rows.rateAsksSpec) false w args)
      (Rows.rateAsksSpec.post enc Tryd.prog Tryd.f4 false true false false) := by
  refine returnsInHanded_of_change_and (C := Tryd.checked) (X := fun w _ => laidMetH Tryd.prog laidL w) (fun _ _ _ hh h => h.of_heap hh) own started (by kernel_rfl) Tryd.func4
    (ChangeSpec.witness_shaped (enc := enc) (C := Tryd.checked) (os := os) (X := fun w _ => laidMetH Tryd.prog laidL w) false (World.doorLaid Tryd.prog 400 os) #[.int .u64 0, .int .u8 0, .int .u8 0, .int .u8 0, .int .u8 0, .slice none 0 0, .slice none 0 0, .int .i64 0] 8 rfl (World.shaped_of_RefB (by kernel_rfl) (by kernel_rfl)) (by kernel_rfl) (by kernel_rfl) (by kernel_rfl) (door_met os _)) ?_
  intro W base args ds gs before hval0 hW _ _ hL _
  have hS := of_laid hL
  have hval : ∀ (j : Nat) t v, Tryd.f4.params[j]? = some t → args[j]? = some v → Value.okWide Tryd.prog W .any base t v := hval0
  have hW' := hW
  obtain ⟨p, q, hA0, hV, rfl, _, _⟩ := hW
  have hA : DataW.TrodAll enc Tryd.prog W 0 (fun _ => true) true Tryd.f4.params.toList args.toList ds p := hA0
  rw [Tryd.params4] at hA hval
  obtain ⟨v0, vs0, d0, ds0, p0, q0, hargs, rfl, rfl, h0, r0⟩ := trodAll_cons hA
  obtain ⟨v1, vs1, d1, ds1, p1, q1, rfl, rfl, rfl, h1, r1⟩ := trodAll_cons r0
  obtain ⟨v2, vs2, d2, ds2, p2, q2, rfl, rfl, rfl, h2, r2⟩ := trodAll_cons r1
  obtain ⟨v3, vs3, d3, ds3, p3, q3, rfl, rfl, rfl, h3, r3⟩ := trodAll_cons r2
  obtain ⟨v4, vs4, d4, ds4, p4, q4, rfl, rfl, rfl, h4, r4⟩ := trodAll_cons r3
  obtain ⟨v5, vs5, d5, ds5, p5, q5, rfl, rfl, rfl, h5, r5⟩ := trodAll_cons r4
  obtain ⟨v6, vs6, d6, ds6, p6, q6, rfl, rfl, rfl, h6, r6⟩ := trodAll_cons r5
  obtain ⟨v7, vs7, d7, ds7, p7, q7, rfl, rfl, rfl, h7, r7⟩ := trodAll_cons r6
  obtain ⟨rfl, rfl, rfl⟩ := trodAll_nil r7
  obtain rfl : args = #[v0, v1, v2, v3, v4, v5, v6, v7] := by cases args; simp_all
  obtain ⟨rfl, rfl⟩ := trodVars_none hV
  obtain ⟨a0, rfl, rfl, rfl, w0⟩ := open_int Tryd.underlying22 (hval 0 22 v0 rfl rfl) h0
  have k0 := wf_u64 w0
  obtain ⟨n0, rfl⟩ : ∃ n : Nat, a0 = n := ⟨a0.toNat, by omega⟩
  obtain ⟨a1, rfl, rfl, rfl, w1⟩ := open_int Tryd.underlying5 (hval 1 5 v1 rfl rfl) h1
  have k1 := wf_u8 w1
  obtain ⟨n1, rfl⟩ : ∃ u : UInt8, a1 = (u.toNat : Int) := ⟨UInt8.ofNat a1.toNat, by simp; omega⟩
  obtain ⟨a2, rfl, rfl, rfl, w2⟩ := open_int Tryd.underlying5 (hval 2 5 v2 rfl rfl) h2
  have k2 := wf_u8 w2
  obtain ⟨n2, rfl⟩ : ∃ u : UInt8, a2 = (u.toNat : Int) := ⟨UInt8.ofNat a2.toNat, by simp; omega⟩
  obtain ⟨a3, rfl, rfl, rfl, w3⟩ := open_int Tryd.underlying5 (hval 3 5 v3 rfl rfl) h3
  have k3 := wf_u8 w3
  obtain ⟨n3, rfl⟩ : ∃ u : UInt8, a3 = (u.toNat : Int) := ⟨UInt8.ofNat a3.toNat, by simp; omega⟩
  obtain ⟨a4, rfl, rfl, rfl, w4⟩ := open_int Tryd.underlying5 (hval 4 5 v4 rfl rfl) h4
  have k4 := wf_u8 w4
  obtain ⟨n4, rfl⟩ : ∃ u : UInt8, a4 = (u.toNat : Int) := ⟨UInt8.ofNat a4.toNat, by simp; omega⟩
  obtain ⟨A5, cs5, cap5, rfl, l5, m5, b5, again5⟩ := arg_bytes (hval 5 33 v5 rfl rfl) h5
  have x5 := arg_extra h5
  obtain ⟨A6, cs6, cap6, rfl, l6, m6, b6, again6⟩ := arg_bytes (hval 6 33 v6 rfl rfl) h6
  have x6 := arg_extra h6
  obtain ⟨a7, rfl, rfl, rfl, w7⟩ := open_int Tryd.underlying3 (hval 7 3 v7 rfl rfl) h7
  have k7 := wf_i64 w7
  clear hA0 hval0
  simp only [List.append_nil] at hW'
  refine (rateAsks_walk n0 n1.toNat n2.toNat n3.toNat n4.toNat A5 cs5 cap5 A6 cs6 cap6 a7 (by omega) (by have := n1.toNat_lt; omega) (by have := n2.toNat_lt; omega) (by have := n3.toNat_lt; omega) (by have := n4.toNat_lt; omega) W b5 b6 hS).mono fun e W' ⟨he, hg⟩ => ?_
  subst he
  exact ⟨_, rfl, true_last hW' rfl (by kernel_rfl) Tryd.underlying4 rfl rfl rfl (of_decide_eq_true (by kernel_rfl)) hg⟩

/-- The row. -/
theorem said : Rows.RateAsksSaid :=
  OpenClaim.holds_of_wide 4 Tryd.f4 rfl rfl rfl rfl rfl rfl rfl ⟨rfl, rfl, rfl, rfl, rfl⟩ rfl rfl rfl rfl rfl (by kernel_rfl) Tryd.func4 (by kernel_rfl)
    (of_decide_eq_true (by kernel_rfl)) (by unfold Func.isWrapper; first | (rw [if_pos (by decide +kernel)]; kernel_rfl) | (rw [if_neg (by decide +kernel)]; exact ⟨rfl, rfl⟩))
    (fun os started H enc _ => lifted os started H enc)
/-- **RateAsks, at every input: the card, its listed variables tied to the program's text.** -/
theorem proved : Rows.RateAsksCardSaid :=
  Claim7.holds_tied_plain_at .later [] [.wider] true Rows.rateAsksCard.stood.harness false
    said (fun _ h => by cases h) (by kernel_rfl) (fun _ h => by cases h) rateAsks_row_tie rfl ⟨rfl, rfl⟩ (by kernel_rfl) rfl
    (fun f fn hf hfn => by
      obtain rfl : f = 4 := Option.some.inj ((show Tryd.prog.funcNamed "telemeter/telemeterlaw09.RateAsks" = some 4 by kernel_rfl).symm.trans hf) |>.symm
      obtain rfl : fn = Tryd.f4 := (Option.some.inj (Tryd.func4.symm.trans hfn)).symm
      exact ⟨by kernel_rfl, fun j t ht => by
        rw [Tryd.params4] at ht
        have hm : t ∈ [22, 5, 5, 5, 5, 33, 33, 3] := by simpa using Array.mem_of_getElem? ht
        have hall : ([22, 5, 5, 5, 5, 33, 33, 3].all fun u => !Tryd.prog.wantsStandIn u) = true := by kernel_rfl
        exact (show Tryd.prog.wantsStandIn t = false by simpa using List.all_eq_true.1 hall t hm)⟩)
    (by kernel_rfl)
end RateAsks

end Go.Proofs.YtkhbodlffhfmnaaDoor
