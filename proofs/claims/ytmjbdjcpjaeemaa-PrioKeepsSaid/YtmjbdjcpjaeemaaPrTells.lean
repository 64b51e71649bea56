/-
  What the law's own 'tells' does, whatever is offered: the sampler and the document's tell the same, and so they do of the next ones.
-/
import Derived.Deep.QuietTactic
import Derived.BigQuiet
import Derived.Deep.DeepCutAuto
import Derived.Deep.CutRange
import Derived.Test.YtmjbdjcpjaeemaaPrBoth
import Derived.Test.YtmjbdjcpjaeemaaNums1
namespace Go.Proofs.Ytmjbdjcpjaeemaa
open Go.ChangeShapes Go.WideShapes Go.ChangeAt Go.RowKit Go.Proofs.PrioMath

theorem Ofs.later {W W' : World} {A : Option Addr} {l : List Oa} (h : Ofs W.heap.size W A l) (hb : Below W.heap.size W W') : Ofs W'.heap.size W' A l := fun h0 => by
  obtain ⟨g, off, e, hg, hc⟩ := h h0
  exact ⟨g, off, e, Nat.lt_of_lt_of_le hg hb.size, fun j hj => by
    obtain ⟨h1, h2, h3⟩ := hc j hj
    exact ⟨(hb.cell (p := ⟨g, off + j * 2, none⟩) hg).trans h1, (hb.cell (p := ⟨g, off + j * 2 + 1, none⟩) hg).trans h2, h3⟩⟩
theorem Holds64.later {W W' : World} {A : Option Addr} {l : List Nat} (h : Holds64 W.heap.size W A l) (hb : Below W.heap.size W W') : Holds64 W'.heap.size W' A l := fun h0 => by
  obtain ⟨g, off, e, hg, hc⟩ := h h0
  exact ⟨g, off, e, Nat.lt_of_lt_of_le hg hb.size, fun j hj => ⟨(hb.cell (p := ⟨g, off + j, none⟩) hg).trans (hc j hj).1, (hc j hj).2⟩⟩
theorem addr_zero (a : Addr) : a.add 0 = a := by
  unfold Addr.add
  split <;> (cases a; simp_all)
theorem cut_to (A : Option Addr) (n cap h : Nat) (hh : h ≤ cap) (W : World) : (Instr.slice 23 (.slice A n cap) none (some (.int .i64 (h : Int))) none).run Try.prog W = .ok (.slice A h cap) W := by
  rw [run_slice_h W 23 A n cap (by kernel_rfl) .i64 (h : Int) (by omega) (by omega)]
  have hz : (sizeOf (Try.prog.elem 23)).run Try.prog W = .ok 2 W := by kernel_rfl
  rw [hz]
  have e : A.map (·.add (0 * 2)) = A := by cases A <;> simp [addr_zero]
  simp only [sliced, Result.andThen, Int.toNat_natCast, e]
  simp

set_option linter.unusedSimpArgs false in
set_option maxRecDepth 100000 in
set_option maxHeartbeats 4000000 in
theorem tells_any (A0 : Option Addr) (l : List Oa) (n cap : Nat) (A3 : Option Addr) (ws : List Nat) (nw cap3 : Nat) (A4 : Option Addr) (rs : List Nat) (nr cap4 : Nat) (k m : Nat) (w : World)
    (hl : l.length = n) (hC : Ofs w.heap.size w A0 l) (hcap : n ≤ cap) (h40 : n ≤ 40) (hw : ws.length = nw) (hW : Holds64 w.heap.size w A3 ws) (hr : rs.length = nr) (hR : Holds64 w.heap.size w A4 rs) (hnw : nw ≤ 9223372036854775807) (hnr : nr ≤ 40) (hk : 1 ≤ k ∧ k ≤ 6) (hm : m < 18446744073709551616) :
    Calls Try.prog 5 #[.int .i64 (k : Int), .int .u64 (m : Int), .slice A0 n cap, .slice A3 nw cap3, .slice A4 nr cap4] w fun e w' => e = .returned (.bool true) ∧ Below w.heap.size w w' := by
  have HNew := Lib.hid (own_new k m w (by omega) (by omega) hm)
  have HRN := Lib.hid fun W => refNew_any k m W (by omega) (by omega)
  have HC := Lib.hid hC
  have HN := Lib.hid hl
  have HWN := Lib.hid hw
  have HW3 := Lib.hid hW
  have HRL := Lib.hid hr
  have HR4 := Lib.hid hR
  have HK6 := Lib.hid hk
  have HM := Lib.hid hm
  clear hC hl hw hW hr hR hm
  go_enter Try.func5, Try.ntmps5
  go_wp2_with fail
  refine HNew.out.mono ?_
  rintro e w1 ⟨S, bs0, rfl, HO⟩
  go_wp2_with fail
  refine (HRN.out _).mono ?_
  rintro e w2 ⟨rfl, hb2⟩
  obtain ⟨R, hR⟩ : ∃ R, w2.heap.size = R := ⟨_, rfl⟩
  have HJ0 : Hid (∃ bs, Jt w (w2.alloc (.cells #[.int .i64 (k : Int), .int .u64 (m : Int), .slice none 0 0] 42)) S R k m 0 0 none [] bs) := Lib.hid ⟨bs0, by
    have ho := HO.out.later hb2
    have hbx : Below w2.heap.size w2 (w2.alloc (.cells #[.int .i64 (k : Int), .int .u64 (m : Int), .slice none 0 0] 42)) := box_below _
    refine ⟨ho.later hbx, Dc.none_ _ _, hR ▸ blk_new w2 _ _, fun h => ?_, ?_⟩
    · have := ho.1.lt _ h; omega
    · have := ho.2.1.size; omega⟩
  clear HO hb2 HNew HRN hk
  go_wp2_with fail
  go_loopw [2, 14] (fun lv kv wr => ∃ kk nl : Nat, kv = .int .i64 (kk : Int) ∧ kk ≤ 2 ∧ nl ≤ n ∧ lv = .slice A0 nl cap ∧ Hid (∃ bs, Jt w wr S R k m 0 0 none [] bs)) (fun _ kv _ => 2 - (intOf kv).toNat)
  case atStart => exact ⟨0, n, rfl, by omega, by omega, rfl, HJ0⟩
  case round =>
    obtain ⟨kk, nl, rfl, hkk, hnl, rfl, HJ⟩ := hrel
    clear HJ0 hR
    by_cases hk2 : kk < 2
    · have tk : decide ((kk : Int) < 2) = true := by simp; omega
      have tk' : decide (kk < 2) = true := by simp; omega
      have HJ1 : Hid (∃ n1 cap1 A1 os bs, Jt w wr S R k m n1 cap1 A1 os bs ∧ n1 ≤ 0) := Lib.hid (by
        obtain ⟨bs, hj⟩ := HJ.out
        exact ⟨0, 0, none, [], bs, hj, Nat.le_refl _⟩)
      clear HJ
      go_wp2_with fail
      go_loopw [15] (fun iv wr => ∃ i : Nat, iv = .int .i64 (i : Int) ∧ i ≤ nl ∧ Hid (∃ n1 cap1 A1 os bs, Jt w wr S R k m n1 cap1 A1 os bs ∧ n1 ≤ i)) (fun iv _ => nl - (intOf iv).toNat)
      case atStart => exact ⟨0, rfl, by omega, HJ1⟩
      case round =>
        obtain ⟨i, rfl, hi, HJI⟩ := hrel
        clear HJ1
        by_cases hin : i < nl
        · obtain ⟨n1, cap1, A1, os, bs, hjt, hn1⟩ := HJI.out
          obtain ⟨g, off, rfl, hg, hcell⟩ := HC.out (by rw [HN.out]; omega)
          obtain ⟨x0, hx0⟩ : ∃ x, (l.getD i (0, 0)).1 = x := ⟨_, rfl⟩
          obtain ⟨d0, hd0⟩ : ∃ x, (l.getD i (0, 0)).2 = x := ⟨_, rfl⟩
          obtain ⟨⟨hxl, hdl⟩, hF⟩ := ofs_at hcell hg (by omega : i < n) HN.out hx0 hd0
          obtain ⟨c1, c2⟩ := hF wr hjt.ow.2.1
          obtain ⟨x1, hx1, hx1l⟩ : ∃ x1 : Nat, (x0 : Int) % 20 = (x1 : Int) ∧ x1 < 20 := ⟨x0 % 20, by omega, by omega⟩
          have hx1t : (x0 : Int).tmod 20 = (x1 : Int) := by rw [Int.tmod_eq_emod_of_nonneg (by omega)]; exact hx1
          have wx1 : IntKind.u64.wrap (x1 : Int) = (x1 : Int) := by rw [IntKind.wrap_u64]; omega
          have wd0 : IntKind.u64.wrap (d0 : Int) = (d0 : Int) := by rw [IntKind.wrap_u64]; omega
          have ti : decide ((i : Int) < (nl : Int)) = true := by simp; omega
          obtain ⟨b1, hb1⟩ : ∃ b, decide ((i : Int) < (nr : Int)) = b := ⟨_, rfl⟩
          have hb1n : decide (i < nr) = b1 := by rw [← hb1]; simp
          obtain ⟨b2, hb2⟩ : ∃ b, decide ((i : Int) < (nw : Int)) = b := ⟨_, rfl⟩
          have hb2n : decide (i < nw) = b2 := by rw [← hb2]; simp
          have HJT := Lib.hid hjt
          clear hx0 hd0 hcell hF hjt HJI
          go_upto_if 62 with fail
          go_cut [17] (fun s17 wx => ∃ d : Nat, s17 = .int .u64 (d : Int) ∧ d < 18446744073709551616 ∧ wr = wx)
          case first =>
            by_cases hr1 : i < nr
            · obtain rfl : b1 = true := by rw [← hb1n]; simp; omega
              obtain ⟨g4, off4, rfl, hg4, hc4⟩ := HR4.out (by rw [HRL.out]; omega)
              obtain ⟨h4, h4l⟩ := hc4 i (by rw [HRL.out]; omega)
              obtain ⟨d, hd⟩ : ∃ d, rs.getD i 0 = d := ⟨_, rfl⟩
              rw [hd] at h4 h4l
              have c4 := (HJT.out.ow.2.1.cell (p := ⟨g4, off4 + i, none⟩) hg4).trans h4
              clear hc4 hd h4 c1 c2
              go_wp2_with fail
              go_meet
              exact ⟨d, rfl, h4l, rfl⟩
            · obtain rfl : b1 = false := by rw [← hb1n]; simp; omega
              clear c1 c2
              go_wp2_with fail
              go_meet
              exact ⟨d0, rfl, by omega, rfl⟩
          case rest =>
            obtain ⟨d, rfl, hdl2, rfl⟩ := hcut
            clear hb1 hb1n c1 c2
            go_upto_if 70 with fail
            go_cut [16] (fun s16 wx => ∃ x : Nat, s16 = .int .u64 (x : Int) ∧ x < 18446744073709551616 ∧ wr = wx)
            case first =>
              by_cases hr1 : i < nw
              · obtain rfl : b2 = true := by rw [← hb2n]; simp; omega
                obtain ⟨g3, off3, rfl, hg3, hc3⟩ := HW3.out (by rw [HWN.out]; omega)
                obtain ⟨h3, h3l⟩ := hc3 i (by rw [HWN.out]; omega)
                obtain ⟨y, hy⟩ : ∃ d, ws.getD i 0 = d := ⟨_, rfl⟩
                rw [hy] at h3 h3l
                have c3 := (HJT.out.ow.2.1.cell (p := ⟨g3, off3 + i, none⟩) hg3).trans h3
                obtain ⟨x, hx, hxl⟩ : ∃ x : Nat, (y : Int) % 4294967298 = (x : Int) ∧ x < 4294967298 := ⟨y % 4294967298, by omega, by omega⟩
                have hxt : (y : Int).tmod 4294967298 = (x : Int) := by rw [Int.tmod_eq_emod_of_nonneg (by omega)]; exact hx
                clear hc3 hy h3
                go_wp2_with fail
                go_meet
                exact ⟨x, rfl, by omega, rfl⟩
              · obtain rfl : b2 = false := by rw [← hb2n]; simp; omega
                go_wp2_with fail
                go_meet
                exact ⟨x1, rfl, by omega, rfl⟩
            case rest =>
              obtain ⟨x, rfl, hxl2, rfl⟩ := hcut
              clear hb2 hb2n hx1 hx1t wx1 wd0 hx1l hxl hdl
              have q0 := HJT.out.b.cell 0 rfl
              have q1 := HJT.out.b.cell 1 rfl
              have q2 := HJT.out.b.cell 2 rfl
              have hln := HJT.out.dc.len
              have hrf := ref_does x d HJT.out hxl2 hdl2 HM.out (by omega)
              obtain ⟨pl, hpl⟩ : ∃ p, aP x os = p := ⟨_, rfl⟩
              obtain ⟨er, her⟩ : ∃ p, aE x = p := ⟨_, rfl⟩
              obtain ⟨os', hos⟩ : ∃ p, aS m x d os = p := ⟨_, rfl⟩
              have her1 : er ≤ 1 := by rw [← her]; exact aE_le x
              have hosl : os'.length ≤ n1 + 1 := by rw [← hos, ← hln]; exact aS_len m x d os
              rw [hpl, her, hos] at hrf
              have HRF := Lib.hid hrf
              have HAD : Hid (∀ W bs, Ow w W S k m os bs → Calls Try.prog 7 #[.pointer (some ⟨S, 0, none⟩), .int .u64 (x : Int), .int .u64 (d : Int)] W fun e w' => e = .returned (.tuple #[.int .i64 pl, .int .u16 (er : Int)]) ∧ ∃ bs', Hid (Ow w w' S k m os' bs' ∧ Mut bs W w' ∧ Ext W bs bs')) := Lib.hid fun W bs ho => by
                have := add_does x d ho hdl2 (by rw [hln]; omega)
                rw [hpl, her, hos] at this
                exact this
              have HOSL := Lib.hid hosl
              clear hrf hpl her hos hosl hln
              go_wp2_with fail
              refine HRF.out.mono ?_
              rintro e w4 ⟨A', n', cap', rfl, HR5⟩
              obtain ⟨n4, hn4⟩ : ∃ n4, w4.heap.size = n4 := ⟨_, rfl⟩
              clear q0 q1 q2 HRF
              go_wp2_with fail
              refine (HAD.out _ bs ((HJT.out.ow.later HR5.out.1).later (box_below _))).mono ?_
              rintro e w6 ⟨rfl, bs', HA6⟩
              obtain ⟨hv, hr6, hnx⟩ := HJT.out.next HR5.out.1 HR5.out.2 HA6.out.1 HA6.out.2.1 HA6.out.2.2
              rw [hn4] at hv
              have hlen' : os'.length = n' := HR5.out.2.len
              have HNX := Lib.hid hnx
              have HNL : Hid (n' ≤ n1 + 1) := Lib.hid (by rw [← hlen']; exact HOSL.out)
              have HLN : Hid (∀ q, Calls Try.prog 8 #[.pointer (some ⟨S, 0, none⟩)] (w6.drewN q) fun e w' => e = .returned (.int .i64 (n' : Int)) ∧ w6.drewN q = w') := Lib.hid fun q => hlen' ▸ plen_any (w6.drewN q) (HA6.out.1.1.mut (Mut.drewN (Mut.refl [] w6) q) (by simp))
              have v0 : w6.cell? ⟨n4, 0, none⟩ = some (.int .i64 (k : Int)) := hv.cell 0 rfl
              have v1 : w6.cell? ⟨n4, 1, none⟩ = some (.int .u64 (m : Int)) := hv.cell 1 rfl
              have v2 : w6.cell? ⟨n4, 2, none⟩ = some (.slice A' n' cap') := hv.cell 2 rfl
              have y0 : w6.cell? ⟨R, 0, none⟩ = some (.int .i64 (k : Int)) := hr6.cell 0 rfl
              have y1 : w6.cell? ⟨R, 1, none⟩ = some (.int .u64 (m : Int)) := hr6.cell 1 rfl
              have y2 : w6.cell? ⟨R, 2, none⟩ = some (.slice A1 n1 cap1) := hr6.cell 2 rfl
              have f0 := hr6.free 0
              have f1 := hr6.free 1
              have f2 := hr6.free 2
              have we : IntKind.i64.wrap (er : Int) = (er : Int) := IntWalk.i64_in _ (by omega)
              have hpp : (pl != pl) = false := by simp
              have hee : ((er : Int) != (er : Int)) = false := by simp
              have hnn : ((n' : Int) != (n' : Int)) = false := by simp
              clear hv hr6 hnx hn4 hlen' HR5 HA6 HAD HJT HOSL
              go_wp2_with fail
              go_quiet ((go_at_call 8; exact quiet_left (HLN.out _)))
              go_wp2_with fail
              go_roundw
              case rel => exact ⟨i + 1, by simp, by omega, Lib.hid ⟨n', cap', A', os', bs', HNX.out _, by have := HNL.out; omega⟩⟩
              case measure => simp [intOf]; omega
        · obtain rfl : i = nl := by omega
          obtain ⟨n1, cap1, A1, os, bs, hjt, hn1⟩ := HJI.out
          have ti : decide ((i : Int) < (i : Int)) = false := by simp
          have q0 := hjt.b.cell 0 rfl
          have q1 := hjt.b.cell 1 rfl
          have q2 := hjt.b.cell 2 rfl
          have hln := hjt.dc.len
          obtain ⟨q, hq⟩ : ∃ q, (closeL k m os).length = q := ⟨_, rfl⟩
          have hrc := ref_close hjt (by have := HK6.out; omega) HM.out hq
          have hq40 : q ≤ 5000 := by rw [← hq, kept_pl hjt.ow.1.pl]; omega
          have HRC := Lib.hid hrc
          have HCL : Hid (∀ W bs, Ow w W S k m os bs → Calls Try.prog 9 #[.pointer (some ⟨S, 0, none⟩)] W fun e w' => ∃ T, e = .returned (.slice (some ⟨T, 0, none⟩) q q) ∧ Hid (Ow w w' S k m [] [S] ∧ Kp w' T q (closeL k m os) ∧ T ≠ S ∧ W.heap.size ≤ T ∧ Mut bs W w')) := Lib.hid fun W bs ho => by
            have := own_close ho (by rw [hln]; omega)
            rw [hq] at this
            exact this
          obtain ⟨h2, hh2, hh2l⟩ : ∃ h2 : Nat, (i : Int) / 2 = (h2 : Int) ∧ h2 ≤ i := ⟨i / 2, by omega, by omega⟩
          have hh2t : (i : Int).tdiv 2 = (h2 : Int) := by rw [Int.tdiv_eq_ediv_of_nonneg (by omega)]; exact hh2
          have HCUT := Lib.hid (fun W => cut_to A0 i cap h2 (by omega) W)
          have HJT := Lib.hid hjt
          have HFB : Hid (∀ g, wr.heap.size ≤ g → g ∉ bs) := Lib.hid fun g hg hm => by have := hjt.ow.1.lt g hm; omega
          clear HJI hjt hln hrc hq hin
          go_wp2_with fail
          refine HRC.out.mono ?_
          rintro e w4 ⟨B, c, rfl, HR5⟩
          obtain ⟨n4, hn4⟩ : ∃ n4, w4.heap.size = n4 := ⟨_, rfl⟩
          clear q0 q1 q2 HRC
          go_wp2_with fail
          refine (HCL.out _ bs ((HJT.out.ow.later HR5.out.1).later (box_below _))).mono ?_
          rintro e w6 ⟨T, rfl, HA6⟩
          have hkd6 : Kd w6 B q (closeL k m os) := (HR5.out.2.1.later (box_below _)).mut HA6.out.2.2.2.2 (fun g hg => HFB.out g (HR5.out.2.2 g hg))
          have HSM := Lib.hid (refSame_any (c1 := q) (c2 := c) w6 (Kd.of_kp HA6.out.2.1) hkd6 hq40)
          clear hkd6 HCL
          go_wp2_with fail
          refine HSM.out.mono ?_
          rintro e w7 ⟨rfl, qd, hqd⟩
          have hb7 : Below w6.heap.size w6 w7 := by rw [hqd]; exact draws (Below.refl _ _) _
          obtain ⟨hv, hr7, hnx⟩ := HJT.out.close HR5.out.1 HA6.out hb7
          rw [hn4] at hv
          have HNX := Lib.hid hnx
          have v0 : w7.cell? ⟨n4, 0, none⟩ = some (.int .i64 (k : Int)) := hv.cell 0 rfl
          have v1 : w7.cell? ⟨n4, 1, none⟩ = some (.int .u64 (m : Int)) := hv.cell 1 rfl
          have v2 : w7.cell? ⟨n4, 2, none⟩ = some (.slice none 0 0) := hv.cell 2 rfl
          have y0 : w7.cell? ⟨R, 0, none⟩ = some (.int .i64 (k : Int)) := hr7.cell 0 rfl
          have y1 : w7.cell? ⟨R, 1, none⟩ = some (.int .u64 (m : Int)) := hr7.cell 1 rfl
          have y2 : w7.cell? ⟨R, 2, none⟩ = some (.slice A1 n1 cap1) := hr7.cell 2 rfl
          have f0 := hr7.free 0
          have f1 := hr7.free 1
          have f2 := hr7.free 2
          have hcut := HCUT.out
          clear hv hr7 hnx hn4 HR5 HA6 HJT HSM hqd hb7
          go_wp2_with fail
          go_roundw
          case rel => exact ⟨kk + 1, h2, by simp, by omega, by omega, rfl, Lib.hid ⟨_, HNX.out⟩⟩
          case measure => simp [intOf]; omega
    · obtain ⟨bs, hj⟩ := HJ.out
      have HB := Lib.hid hj.ow.2.1
      have tk : decide ((kk : Int) < 2) = false := by simp; omega
      clear hj HJ
      go_wp2_with fail
      go_ret
      exact ⟨rfl, HB.out⟩
end Go.Proofs.Ytmjbdjcpjaeemaa
