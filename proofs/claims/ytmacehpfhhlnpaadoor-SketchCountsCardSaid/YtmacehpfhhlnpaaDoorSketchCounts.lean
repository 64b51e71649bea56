/-
  Proved: SketchCounts returns true for every shape, seed, keys and numbers: any sketch counts any keys as the chapter says. No condition but the card's own: hash's table of steps, tied to the program's text, holds at the start what that text lays.
-/
import Derived.Deep.QuietTactic
import Derived.BigQuiet
import Derived.Deep.LoopGhost
import Derived.Test.YtmacehpfhhlnpaaDoorSkCounts0
import Derived.Test.YtmacehpfhhlnpaaDoorNums0
import Derived.Test.YtmacehpfhhlnpaaDoorArgStrs
namespace Go.Proofs.YtmacehpfhhlnpaaDoor
open Go.ChangeShapes Go.WideShapes Go.ChangeAt Go.RowKit Go.Proofs.HashMath Go.Proofs.SkMath

set_option linter.unusedSimpArgs false in
set_option maxRecDepth 100000 in
set_option maxHeartbeats 8000000 in
theorem sketchCounts_walk (R M : Int) (seed a b : Nat) (A5 : Option Addr) (cs : List UInt8) (cap5 : Nat) (A6 : Option Addr) (ds : List UInt8) (cap6 : Nat) (A7 : Option Addr) (ns : List Nat) (cap7 : Nat) (A8 : Option Addr) (ks : List ByteArray) (cap8 : Nat)
    (hx : seed < 18446744073709551616) (ha : a ≤ 255) (hb : b ≤ 255) (w : World) (hH5 : Holds8 w.heap.size w A5 cs) (hH6 : Holds8 w.heap.size w A6 ds) (hH7 : Holds64 w.heap.size w A7 ns) (hH8 : HoldsStr w.heap.size w A8 ks) (hS : Steps w) :
    Calls Tryd.prog 4 #[.int .i64 R, .int .i64 M, .int .u64 (seed : Int), .int .u8 (a : Int), .int .u8 (b : Int), .slice A5 cs.length cap5, .slice A6 ds.length cap6, .slice A7 ns.length cap7, .slice A8 ks.length cap8] w fun e w' => e = .returned (.bool true) ∧ Below w.heap.size w w' := by
  obtain ⟨N, hN⟩ : ∃ N, cs.length = N := ⟨_, rfl⟩
  obtain ⟨D, hD⟩ : ∃ D, ds.length = D := ⟨_, rfl⟩
  obtain ⟨L, hL⟩ : ∃ L, ns.length = L := ⟨_, rfl⟩
  obtain ⟨K, hK⟩ : ∃ K, ks.length = K := ⟨_, rfl⟩
  rw [hN, hD, hL, hK]
  have HN := Lib.hid hN
  have HD := Lib.hid hD
  have HL := Lib.hid hL
  have HK := Lib.hid hK
  have HKN := Lib.hid (fun W (h : Below w.heap.size w W) => known_any W (hS.below hS.lt h))
  clear hN hD hL hK
  by_cases hk20 : 20 < K
  · have d1 : decide ((20 : Int) < (K : Int)) = true := by simp; omega
    clear hH5 hH6 hH7 hH8 hS
    go_enter Tryd.func4, Tryd.ntmps4
    go_wp2_with fail
    refine (HKN.out _ (Below.refl _ _)).mono ?_
    rintro e w1 ⟨rfl, g⟩
    go_wp2_with fail
    go_ret
    exact ⟨rfl, g⟩
  have d1 : decide ((20 : Int) < (K : Int)) = false := by simp; omega
  by_cases hn40 : 40 < N
  · have d2 : decide ((40 : Int) < (N : Int)) = true := by simp; omega
    clear hH5 hH6 hH7 hH8 hS
    go_enter Tryd.func4, Tryd.ntmps4
    go_wp2_with fail
    refine (HKN.out _ (Below.refl _ _)).mono ?_
    rintro e w1 ⟨rfl, g⟩
    go_wp2_with fail
    go_ret
    exact ⟨rfl, g⟩
  have d2 : decide ((40 : Int) < (N : Int)) = false := by simp; omega
  obtain ⟨r, hr, hr1, hr8⟩ : ∃ r : Nat, (1 : Int) + (a : Int) % 4 = (r : Int) ∧ 1 ≤ r ∧ r ≤ 8 := ⟨1 + a % 4, by omega, by omega, by omega⟩
  obtain ⟨m, hm, hm1, hm2⟩ : ∃ m : Nat, (1 : Int) + (b : Int) % 20 = (m : Int) ∧ 1 ≤ m ∧ m ≤ 1024 := ⟨1 + b % 20, by omega, by omega, by omega⟩
  have hlt := hS.lt
  obtain ⟨n0, hn0⟩ : ∃ n0, w.heap.size = n0 := ⟨_, rfl⟩
  rw [hn0] at hlt hH5 hH6 hH7 hH8 ⊢
  have hNew := fun W (h1 : n0 ≤ W.heap.size) (h2 : Below n0 w W) => on_new (w := w) (W := W) r m seed hS hlt h1 h2 hr1 hr8 hm1 hm2 hx
  have HNEW := Lib.hid hNew
  have HRN := Lib.hid (fun W => refNew_any r m seed W hr1 hr8 hm1 hm2)
  have HN0 := Lib.hid hn0
  have HH5 := Lib.hid hH5
  have HH6 := Lib.hid hH6
  have HH7 := Lib.hid hH7
  have HH8 := Lib.hid hH8
  clear hNew hn0 hH5 hH6 hH7 hH8 hS
  go_enter Tryd.func4, Tryd.ntmps4
  go_wp2_with fail
  refine (HKN.out _ (Below.refl _ _)).mono ?_
  rintro e w1 ⟨rfl, g1⟩
  rw [HN0.out] at g1
  have hsz : n0 ≤ w1.heap.size := by have := g1.size; rw [HN0.out] at this; exact this
  have HB1 := Lib.hid g1
  clear g1
  go_upto_region 3 with fail
  go_cut [47] (fun s47 wx => s47 = .bool false ∧ Hid (n0 ≤ wx.heap.size ∧ Below n0 w wx))
  case first =>
    by_cases hbad : R < 1 ∨ 8 < R ∨ M < 1 ∨ 1024 < M
    · have H1 := Lib.hid (fun W => new_no R M seed W hbad)
      have H2 := Lib.hid (fun W => none_yes R M W hbad)
      clear hbad
      go_wp2_with fail
      refine (H1.out _).mono ?_
      rintro e w2 ⟨rfl, rfl⟩
      go_wp2_with fail
      refine (H2.out _).mono ?_
      rintro e w3 ⟨rfl, g3⟩
      go_wp2_with fail
      go_meet
      exact ⟨rfl, Lib.hid ⟨Nat.le_trans hsz g3.size, HB1.out.trans (g3.mono hsz)⟩⟩
    · obtain ⟨r', rfl⟩ : ∃ r' : Nat, R = r' := ⟨R.toNat, by omega⟩
      obtain ⟨m', rfl⟩ : ∃ m' : Nat, M = m' := ⟨M.toNat, by omega⟩
      have H1 := Lib.hid (fun W => new_any r' m' seed W (by omega) (by omega) (by omega) (by omega) hx)
      have H2 := Lib.hid (fun W => none_no r' m' W (by omega) (by omega) (by omega) (by omega))
      clear hbad
      go_wp2_with fail
      refine (H1.out _).mono ?_
      rintro e w2 ⟨S, A, G, rfl, g2, _, _, _, _⟩
      have HB2 := Lib.hid (And.intro (Nat.le_trans hsz g2.size) (HB1.out.trans (g2.mono hsz)))
      clear g2
      go_wp2_with fail
      refine (H2.out _).mono ?_
      rintro e w3 ⟨rfl, g3⟩
      go_wp2_with fail
      go_meet
      exact ⟨rfl, Lib.hid ⟨Nat.le_trans HB2.out.1 g3.size, HB2.out.2.trans (g3.mono HB2.out.1)⟩⟩
  case rest =>
    obtain ⟨rfl, HB2⟩ := hcut
    go_wp2_with fail
    refine (HNEW.out _ HB2.out.1 HB2.out.2).mono ?_
    rintro e w3 ⟨S, A, G, rfl, _, _, _, _, hO⟩
    have HO := Lib.hid hO
    clear hO
    go_wp2_with fail
    refine (HRN.out _).mono ?_
    rintro e w4 ⟨c0, cc0, rfl, hrs, g4⟩
    obtain ⟨nq, hnq⟩ : ∃ nq, w4.heap.size = nq := ⟨_, rfl⟩
    obtain ⟨lo, hlo⟩ : ∃ lo, w3.heap.size = lo := ⟨_, rfl⟩
    have hlq : lo ≤ nq := by rw [← hnq, ← hlo]; exact g4.size
    have hlow : Hid ((∀ b ∈ [S, G], b < lo) ∧ nq ∉ [S, G] ∧ S ≠ nq ∧ A ≠ nq ∧ G ≠ nq ∧ n0 ≤ lo) := Lib.hid (by
      have h1 := HO.out.k.own.lt
      have h2 := HO.out.k.ltA
      have h3 := HO.out.k.ltG
      have h4 := HO.out.le
      refine ⟨fun b hb => ?_, ?_, ?_, ?_, ?_, ?_⟩ <;> simp at * <;> omega)
    have hO4 := HO.out.later g4
    have hbx := box_below (W := w4) (.cells #[.slice (some ⟨c0, 0, none⟩) r cc0, .int .i64 (m : Int), .int .u64 (seed : Int), .int .u64 0] 37)
    rw [hlo] at hrs
    have HT : Hid (Two n0 lo w S A G r m seed nq (fun _ _ => 0) 0 c0 cc0 (w4.alloc (.cells #[.slice (some ⟨c0, 0, none⟩) r cc0, .int .i64 (m : Int), .int .u64 (seed : Int), .int .u64 0] 37))) := Lib.hid ⟨hO4.later hbx, hnq ▸ blk_new w4 _ _, hrs.later hbx⟩
    clear hO4 hbx hrs g4 HO
    go_wp2_with fail
    go_loopg [22] N (fun gk kv wr => ∃ k : Nat, gk + k = N ∧ kv = .int .i64 (k : Int) ∧ Hid (∃ f tot c cc, Two n0 lo w S A G r m seed nq f tot c cc wr)) 
    case atStart => exact ⟨0, by omega, rfl, Lib.hid ⟨_, _, _, _, HT.out⟩⟩
    case round =>
      obtain ⟨k, hgk, rfl, HF⟩ := hrel
      by_cases hlt : k < N
      · have dl : decide ((k : Int) < (N : Int)) = true := by simp; omega
        obtain ⟨f, tot, c, cc, hT⟩ := HF.out
        obtain ⟨b5, o5, rfl, hb5, hc5⟩ := HH5.out (by rw [HN.out]; omega)
        have hcl := (hT.1.b.cell (p := ⟨b5, o5 + k, none⟩) hb5).trans (hc5 k (by rw [HN.out]; exact hlt))
        obtain ⟨cv, hcv⟩ : ∃ cv, cs.getD k 0 = cv := ⟨_, rfl⟩
        rw [hcv] at hcl
        unfold b8 at hcl
        have hcu := cv.toNat_lt
        obtain ⟨y, hy⟩ : ∃ y : Nat, (cv.toNat : Int) = (y : Int) := ⟨_, rfl⟩
        have hyl : y ≤ 255 := by omega
        rw [hy] at hcl
        have HKY := Lib.hid (fun W => key_any y W hyl)
        obtain ⟨kq, q, hqs, hq⟩ : ∃ (kq : Bool) (q : ByteArray), q.size ≤ 9223372036854775807 ∧ Hid ((kq = true ∧ k < K ∧ (ks.getD k ByteArray.empty).size < 50 ∧ q = ks.getD k ByteArray.empty) ∨ (kq = false ∧ ¬ (k < K ∧ (ks.getD k ByteArray.empty).size < 50) ∧ q = keyT (y % 12))) := by
          by_cases h : k < K ∧ (ks.getD k ByteArray.empty).size < 50
          · exact ⟨true, _, by have := h.2; omega, Lib.hid (.inl ⟨rfl, h.1, h.2, rfl⟩)⟩
          · exact ⟨false, _, keyT_size _, Lib.hid (.inr ⟨rfl, h, rfl⟩)⟩
        obtain ⟨kv, mv, hmv, hv⟩ : ∃ (kv : Bool) (mv : Nat), mv < 18446744073709551616 ∧ Hid ((kv = true ∧ k < D ∧ k < L ∧ mv = bigOf (ds.getD k 0).toNat (ns.getD k 0)) ∨ (kv = false ∧ ¬ (k < D ∧ k < L) ∧ mv = 1)) := by
          by_cases h : k < D ∧ k < L
          · refine ⟨true, _, bigOf_lt ?_, Lib.hid (.inl ⟨rfl, h.1, h.2, rfl⟩)⟩
            obtain ⟨b7, o7, _, _, hc7⟩ := HH7.out (by rw [HL.out]; omega)
            exact (hc7 k (by rw [HL.out]; exact h.2)).2
          · exact ⟨false, 1, by omega, Lib.hid (.inr ⟨rfl, h, rfl⟩)⟩
        have HTT := Lib.hid hT
        clear hT hc5 hcv hy HF HT
        go_wp2_with fail
        refine (HKY.out _).mono ?_
        rintro e w5 ⟨rfl, g5⟩
        have HT5 := Lib.hid (HTT.out.later g5)
        clear g5 hcl
        go_upto_region 13 with fail
        go_cut [95] (fun s95 wx => s95 = .bool kq ∧ w5 = wx)
        case first =>
          rcases hq.out with ⟨rfl, h1, h2, h3⟩ | ⟨rfl, h1, h2⟩
          · obtain ⟨b8', o8, rfl, hb8, hc8⟩ := HH8.out (by rw [HK.out]; omega)
            have hc := (HT5.out.1.b.cell (p := ⟨b8', o8 + k, none⟩) hb8).trans (hc8 k (by rw [HK.out]; exact h1)).1
            rw [← h3] at hc h2
            have dk : decide ((k : Int) < (K : Int)) = true ∧ decide (k < K) = true := by constructor <;> (simp; omega)
            obtain ⟨dk1, dk2⟩ := dk
            have dz : decide ((q.size : Int) < 50) = true := by simp; omega
            clear h3 hc8
            go_wp2
            go_meet
            exact ⟨rfl, rfl⟩
          · by_cases hkK : k < K
            · obtain ⟨b8', o8, rfl, hb8, hc8⟩ := HH8.out (by rw [HK.out]; omega)
              have hc := (HT5.out.1.b.cell (p := ⟨b8', o8 + k, none⟩) hb8).trans (hc8 k (by rw [HK.out]; exact hkK)).1
              obtain ⟨q', hq'⟩ : ∃ q', ks.getD k ByteArray.empty = q' := ⟨_, rfl⟩
              rw [hq'] at hc h1
              have dk : decide ((k : Int) < (K : Int)) = true ∧ decide (k < K) = true := by constructor <;> (simp; omega)
              obtain ⟨dk1, dk2⟩ := dk
              have dz : decide ((q'.size : Int) < 50) = false := by simp; omega
              clear h2 hc8 hq' h1
              go_wp2
              go_meet
              exact ⟨rfl, rfl⟩
            · have dk : decide ((k : Int) < (K : Int)) = false ∧ decide (k < K) = false := by constructor <;> (simp; omega)
              obtain ⟨dk1, dk2⟩ := dk
              clear h2 h1
              go_wp2
              go_meet
              exact ⟨rfl, rfl⟩
        case rest =>
          obtain ⟨rfl, rfl⟩ := hcut
          go_upto_if 95 with fail
          go_cut [23] (fun s23 wx => s23 = .string q ∧ w5 = wx)
          case first =>
            rcases hq.out with ⟨rfl, h1, h2, h3⟩ | ⟨rfl, h1, h2⟩
            · obtain ⟨b8', o8, rfl, hb8, hc8⟩ := HH8.out (by rw [HK.out]; omega)
              have hc := (HT5.out.1.b.cell (p := ⟨b8', o8 + k, none⟩) hb8).trans (hc8 k (by rw [HK.out]; exact h1)).1
              rw [← h3] at hc
              clear h3 hc8
              go_wp2
              go_meet
              exact ⟨rfl, rfl⟩
            · go_wp2
              go_meet
              exact ⟨by rw [h2], rfl⟩
          case rest =>
            obtain ⟨rfl, rfl⟩ := hcut
            go_upto_region 16 with fail
            go_cut [109] (fun s109 wx => s109 = .bool kv ∧ w5 = wx)
            case first =>
              rcases hv.out with ⟨rfl, h1, h2, h3⟩ | ⟨rfl, h1, h2⟩
              · have dk : decide ((k : Int) < (D : Int)) = true ∧ decide (k < D) = true := by constructor <;> (simp; omega)
                obtain ⟨dk1, dk2⟩ := dk
                have dz : decide ((k : Int) < (L : Int)) = true ∧ decide (k < L) = true := by constructor <;> (simp; omega)
                obtain ⟨dz1, dz2⟩ := dz
                clear h3
                go_wp2
                go_meet
                exact ⟨rfl, rfl⟩
              · by_cases hkD : k < D
                · have dk : decide ((k : Int) < (D : Int)) = true ∧ decide (k < D) = true := by constructor <;> (simp; omega)
                  obtain ⟨dk1, dk2⟩ := dk
                  have dz : decide ((k : Int) < (L : Int)) = false ∧ decide (k < L) = false := by constructor <;> (simp; omega)
                  obtain ⟨dz1, dz2⟩ := dz
                  clear h2 h1
                  go_wp2
                  go_meet
                  exact ⟨rfl, rfl⟩
                · have dk : decide ((k : Int) < (D : Int)) = false ∧ decide (k < D) = false := by constructor <;> (simp; omega)
                  obtain ⟨dk1, dk2⟩ := dk
                  clear h2 h1
                  go_wp2
                  go_meet
                  exact ⟨rfl, rfl⟩
            case rest =>
              obtain ⟨rfl, rfl⟩ := hcut
              go_upto_if 109 with fail
              go_cut [24] (fun s24 wx => s24 = .int .u64 (mv : Int) ∧ Hid (Two n0 lo w S A G r m seed nq f tot c cc wx))
              case first =>
                rcases hv.out with ⟨rfl, h1, h2, h3⟩ | ⟨rfl, h1, h2⟩
                · obtain ⟨b6, o6, rfl, hb6, hc6⟩ := HH6.out (by rw [HD.out]; omega)
                  obtain ⟨b7, o7, rfl, hb7, hc7⟩ := HH7.out (by rw [HL.out]; omega)
                  have hca := (HT5.out.1.b.cell (p := ⟨b6, o6 + k, none⟩) hb6).trans (hc6 k (by rw [HD.out]; exact h1))
                  have hcb := (HT5.out.1.b.cell (p := ⟨b7, o7 + k, none⟩) hb7).trans (hc7 k (by rw [HL.out]; exact h2)).1
                  obtain ⟨dv, hdv⟩ : ∃ dv, ds.getD k 0 = dv := ⟨_, rfl⟩
                  obtain ⟨nv, hnv⟩ : ∃ nv, ns.getD k 0 = nv := ⟨_, rfl⟩
                  rw [hdv] at hca h3
                  rw [hnv] at hcb h3
                  unfold b8 at hca
                  have hdl := dv.toNat_lt
                  obtain ⟨dx, hdx⟩ : ∃ dx : Nat, dv.toNat = dx := ⟨_, rfl⟩
                  rw [hdx] at hca h3 hdl
                  have hbig := fun W => big_any dx nv W (by omega)
                  rw [← h3] at hbig
                  have HBIG := Lib.hid hbig
                  clear hdv hnv hdx h3 hc6 hc7 hbig
                  have k1 : 0 ≤ (k : Int) := by omega
                  have k2 : (k : Int) < (D : Int) := by omega
                  have k3 : (k : Int) < (L : Int) := by omega
                  go_wp2
                  go_quiet ((go_at_call 17; exact Calls.quiet_of_same (HBIG.out _)))
                  go_wp2
                  go_meet
                  exact ⟨rfl, Lib.hid (HT5.out.later ⟨rfl, rfl, rfl, Nat.le_refl _, fun _ _ => rfl⟩)⟩
                · subst h2
                  go_wp2
                  go_meet
                  exact ⟨rfl, HT5⟩
              case rest =>
                obtain ⟨rfl, HT6⟩ := hcut
                go_wp2_with fail
                refine (HT6.out.1.add q hqs mv hmv).mono ?_
                rintro e w6 ⟨rfl, g6, hO6⟩
                have hB6 := HT6.out.2.1.same (g6.block nq HT6.out.2.1.lt hlow.out.2.1)
                have hR6 := (HT6.out.2.2.mut g6 hlow.out.1 (Nat.le_refl _)).mono g6.size (Nat.le_refl _)
                have hRA := refAdd_any lo c cc r m seed tot f q mv w6 hr1 hr8 hm1 hm2 HT6.out.1.k.fLt HT6.out.1.k.totLt hmv hR6 hqs
                obtain ⟨f', hf'⟩ : ∃ f', add r (placeOf seed q.data.toList m) mv f = f' := ⟨_, rfl⟩
                obtain ⟨tot', htot'⟩ : ∃ tot', plus tot mv = tot' := ⟨_, rfl⟩
                rw [hf', htot'] at hO6 hRA
                have q0 := hB6.cell 0 rfl
                have q1 := hB6.cell 1 rfl
                have q2 := hB6.cell 2 rfl
                have q3 := hB6.cell 3 rfl
                have HO6 := Lib.hid hO6
                have HB6 := Lib.hid hB6
                have HRA := Lib.hid hRA
                have hl6 : Hid (lo ≤ w6.heap.size ∧ nq < w6.heap.size) := Lib.hid ⟨by have := hB6.lt; omega, hB6.lt⟩
                clear hO6 hB6 hR6 hRA hf' htot' g6
                go_wp2_with fail
                refine HRA.out.mono ?_
                rintro e w7 ⟨c2, cc2, rfl, hR7, g7⟩
                have HO7 := Lib.hid (HO6.out.later g7)
                have HB7 := Lib.hid (HB6.out.later g7)
                have HR7 := Lib.hid hR7
                clear hR7 g7
                go_wp2_with (refine wpList_store_row rfl 37 (.tmp 20) _ rfl nq #[.slice (some ⟨c2, 0, none⟩) r cc2, .int .i64 (m : Int), .int .u64 (seed : Int), .int .u64 (tot' : Int)] rfl rfl 37 #[.slice (some ⟨c, 0, none⟩) r cc, .int .i64 (m : Int), .int .u64 (seed : Int), .int .u64 (tot : Int)] HB7.out (by kernel_rfl) rfl (by simp [Value.oneCell']) ?_)
                have hmu : Mut [nq] w7 (w7.setRow nq #[.slice (some ⟨c2, 0, none⟩) r cc2, .int .i64 (m : Int), .int .u64 (seed : Int), .int .u64 (tot' : Int)]) := ⟨rfl, rfl, rfl, by simp [World.setRow], fun j _ hn => setRow_other _ nq j _ (by simpa using hn)⟩
                have HT8 : Hid (Two n0 lo w S A G r m seed nq f' tot' c2 cc2 (w7.setRow nq #[.slice (some ⟨c2, 0, none⟩) r cc2, .int .i64 (m : Int), .int .u64 (seed : Int), .int .u64 (tot' : Int)])) := Lib.hid ⟨HO7.out.mut hmu (by have := hlow.out.2.2.2.2.2; simp; omega) (by simpa using hlow.out.2.2.1) (by simpa using hlow.out.2.2.2.1) (by simpa using hlow.out.2.2.2.2.1), setRow_heap _ _ _ _ _ _ HB7.out, ((HR7.out.mut hmu (by have := hl6.out.2; simpa using this) (Nat.le_refl _)).mono hmu.size hl6.out.1)⟩
                obtain ⟨x, hx⟩ : ∃ x, least (placeOf seed q.data.toList m) f' r = x := ⟨_, rfl⟩
                have hRC := fun W (h : RefS lo W.heap.size W c2 cc2 r m f') => refCount_any lo c2 cc2 r m seed tot' f' q W hr8 hm1 hm2 HT8.out.1.k.fLt h hqs
                rw [hx] at hRC
                have HX := Lib.hid hx
                have HRC := Lib.hid hRC
                clear hmu hx hRC q0 q1 q2 q3
                generalize w7.setRow nq #[.slice (some ⟨c2, 0, none⟩) r cc2, .int .i64 (m : Int), .int .u64 (seed : Int), .int .u64 (tot' : Int)] = w8 at HT8 ⊢
                (try go_wp2_with fail)
                dsimp only [Act.put]
                go_upto_region 20 with fail
                go_cut [140] (fun s140 wx => s140 = .bool false ∧ Hid (Two n0 lo w S A G r m seed nq f' tot' c2 cc2 wx))
                case first =>
                  refine wp_region_held_drew (S := fun W => Two n0 lo w S A G r m seed nq f' tot' c2 cc2 W) (by kernel_rfl) ?_ (fun hHeld => ?_)
                  · exact HT8.out.drew
                  refine wpAnyH_take (i := 0) (v := ?_) rfl (by kernel_rfl) (by kernel_rfl) (by kernel_rfl) (fun _ _ _ h => h) (Or.inl ⟨by rfl, ?_⟩) (by assumption) ?_
                  rotate_left
                  · intro wq hSw; (try dsimp only at hSw); go_simp; (try with_reducible rfl)
                  simp only [Act.put, List.getElem_toArray, List.getElem_cons_succ, List.getElem_cons_zero, List.setIfInBounds_toArray, List.set_cons_zero, List.set_cons_succ]
                  refine wpAnyH_take (i := 1) (v := ?_) rfl (by kernel_rfl) (by kernel_rfl) (by kernel_rfl) (fun _ _ _ h => h) (Or.inl ⟨by rfl, ?_⟩) (by assumption) ?_
                  rotate_left
                  · intro wq hSw; (try dsimp only at hSw); go_simp; (try with_reducible rfl)
                  simp only [Act.put, List.getElem_toArray, List.getElem_cons_succ, List.getElem_cons_zero, List.setIfInBounds_toArray, List.set_cons_zero, List.set_cons_succ]
                  refine wpAnyH_take (i := 4) (v := ?_) rfl (by kernel_rfl) (by kernel_rfl) (by kernel_rfl) (fun _ _ _ h => h) (Or.inl ⟨by rfl, ?_⟩) (by assumption) ?_
                  rotate_left
                  · intro wq hSw; (try dsimp only at hSw); go_simp; (try with_reducible rfl)
                  simp only [Act.put, List.getElem_toArray, List.getElem_cons_succ, List.getElem_cons_zero, List.setIfInBounds_toArray, List.set_cons_zero, List.set_cons_succ]
                  refine wpAnyH_take (i := 3) (v := ?_) rfl (by kernel_rfl) (by kernel_rfl) (by kernel_rfl) (fun _ _ _ h => h) (Or.inl ⟨by rfl, ?_⟩) (by assumption) ?_
                  rotate_left
                  · intro wq hSw; (try dsimp only at hSw); have q0 := hSw.2.1.cell 0 rfl; have q1 := hSw.2.1.cell 1 rfl; have q2 := hSw.2.1.cell 2 rfl; have q3 := hSw.2.1.cell 3 rfl; go_simp; (try with_reducible rfl)
                  simp only [Act.put, List.getElem_toArray, List.getElem_cons_succ, List.getElem_cons_zero, List.setIfInBounds_toArray, List.set_cons_zero, List.set_cons_succ]
                  refine wpAnyH_ready (rs := [2]) (by kernel_rfl) (by simp) ?_
                  refine AllReadyH.cons rfl (fun K hK => ?_) AllReadyH.nil
                  go_simp
                  refine (hHeld.1.count q hqs HX.out).mono ?_
                  rintro e wx ⟨rfl, hbx⟩
                  (try go_wp2_with fail)
                  refine hK.out _ _ ?_ (fun hHeld => ?_)
                  · exact hHeld.later hbx
                  clear hK K
                  try simp only [Act.put, List.getElem_toArray, List.getElem_cons_succ, List.getElem_cons_zero, List.setIfInBounds_toArray, List.set_cons_zero, List.set_cons_succ]
                  refine wpAnyH_ready (rs := [5]) (by kernel_rfl) (by simp) ?_
                  refine AllReadyH.cons rfl (fun K hK => ?_) AllReadyH.nil
                  go_simp
                  refine (HRC.out _ hHeld.2.2).mono ?_
                  rintro e wx ⟨rfl, hbx⟩
                  (try go_wp2_with fail)
                  refine hK.out _ _ ?_ (fun hHeld => ?_)
                  · exact hHeld.later hbx
                  clear hK K
                  try simp only [Act.put, List.getElem_toArray, List.getElem_cons_succ, List.getElem_cons_zero, List.setIfInBounds_toArray, List.set_cons_zero, List.set_cons_succ]
                  refine wpAnyH_take (i := 6) (v := ?_) rfl (by kernel_rfl) (by kernel_rfl) (by kernel_rfl) (fun _ _ _ h => h) (Or.inl ⟨by rfl, ?_⟩) (by assumption) ?_
                  rotate_left
                  · intro wq hSw; (try dsimp only at hSw); go_simp; (try with_reducible rfl)
                  simp only [Act.put, List.getElem_toArray, List.getElem_cons_succ, List.getElem_cons_zero, List.setIfInBounds_toArray, List.set_cons_zero, List.set_cons_succ]
                  refine wpAnyH_take (i := 7) (v := ?_) rfl (by kernel_rfl) (by kernel_rfl) (by kernel_rfl) (fun _ _ _ h => h) (Or.inl ⟨by rfl, ?_⟩) (by assumption) ?_
                  rotate_left
                  · intro wq hSw; (try dsimp only at hSw); go_simp; (try with_reducible rfl)
                  simp only [Act.put, List.getElem_toArray, List.getElem_cons_succ, List.getElem_cons_zero, List.setIfInBounds_toArray, List.set_cons_zero, List.set_cons_succ]
                  refine wpAnyH_take (i := 8) (v := ?_) rfl (by kernel_rfl) (by kernel_rfl) (by kernel_rfl) (fun _ _ _ h => h) (Or.inl ⟨by rfl, ?_⟩) (by assumption) ?_
                  rotate_left
                  · intro wq hSw; (try dsimp only at hSw); go_simp; (try with_reducible rfl)
                  simp only [Act.put, List.getElem_toArray, List.getElem_cons_succ, List.getElem_cons_zero, List.setIfInBounds_toArray, List.set_cons_zero, List.set_cons_succ]
                  refine wpAnyH_take (i := 10) (v := ?_) rfl (by kernel_rfl) (by kernel_rfl) (by kernel_rfl) (fun _ _ _ h => h) (Or.inl ⟨by rfl, ?_⟩) (by assumption) ?_
                  rotate_left
                  · intro wq hSw; (try dsimp only at hSw); go_simp; (try with_reducible rfl)
                  simp only [Act.put, List.getElem_toArray, List.getElem_cons_succ, List.getElem_cons_zero, List.setIfInBounds_toArray, List.set_cons_zero, List.set_cons_succ]
                  refine wpAnyH_take (i := 11) (v := ?_) rfl (by kernel_rfl) (by kernel_rfl) (by kernel_rfl) (fun _ _ _ h => h) (Or.inl ⟨by rfl, ?_⟩) (by assumption) ?_
                  rotate_left
                  · intro wq hSw; (try dsimp only at hSw); have q0 := hSw.2.1.cell 3 rfl; go_simp; (try with_reducible rfl)
                  simp only [Act.put, List.getElem_toArray, List.getElem_cons_succ, List.getElem_cons_zero, List.setIfInBounds_toArray, List.set_cons_zero, List.set_cons_succ]
                  refine wpAnyH_ready (rs := [9]) (by kernel_rfl) (by simp) ?_
                  refine AllReadyH.cons rfl (fun K hK => ?_) AllReadyH.nil
                  go_simp
                  refine hHeld.1.total.mono ?_
                  rintro e wx ⟨rfl, rfl⟩
                  (try go_wp2_with fail)
                  refine hK.out _ _ ?_ (fun hHeld => ?_)
                  · exact hHeld
                  clear hK K
                  try simp only [Act.put, List.getElem_toArray, List.getElem_cons_succ, List.getElem_cons_zero, List.setIfInBounds_toArray, List.set_cons_zero, List.set_cons_succ]
                  refine wpAnyH_take (i := 12) (v := ?_) rfl (by kernel_rfl) (by kernel_rfl) (by kernel_rfl) (fun _ _ _ h => h) (Or.inl ⟨by rfl, ?_⟩) (by assumption) ?_
                  rotate_left
                  · intro wq hSw; (try dsimp only at hSw); go_simp; (try with_reducible rfl)
                  simp only [Act.put, List.getElem_toArray, List.getElem_cons_succ, List.getElem_cons_zero, List.setIfInBounds_toArray, List.set_cons_zero, List.set_cons_succ]
                  refine wpAnyH_take (i := 13) (v := ?_) rfl (by kernel_rfl) (by kernel_rfl) (by kernel_rfl) (fun _ _ _ h => h) (Or.inl ⟨by rfl, ?_⟩) (by assumption) ?_
                  rotate_left
                  · intro wq hSw; (try dsimp only at hSw); go_simp; (try with_reducible rfl)
                  simp only [Act.put, List.getElem_toArray, List.getElem_cons_succ, List.getElem_cons_zero, List.setIfInBounds_toArray, List.set_cons_zero, List.set_cons_succ]
                  have HW := Lib.hid hHeld
                  refine wpAnyH_done (by kernel_rfl) ?_ _
                  clear hHeld
                  go_wp2_with fail
                  go_meet
                  exact ⟨rfl, HW⟩
                case rest =>
                  obtain ⟨rfl, HT9⟩ := hcut
                  go_wp2_with fail
                  go_roundg (gk - 1)
                  case measure => omega
                  case rel => exact ⟨k + 1, by omega, by go_num, Lib.hid ⟨_, _, _, _, HT9.out⟩⟩
      · obtain rfl : k = N := by omega
        have dl : decide ((k : Int) < (k : Int)) = false := by simp
        obtain ⟨f, tot, c, cc, hT⟩ := HF.out
        have HTT := Lib.hid hT
        clear hT HF HT
        go_wp2_with fail
        go_loopg [25] 12 (fun gj iv wr => ∃ i : Nat, gj + i = 12 ∧ iv = .int .i64 (i : Int) ∧ Hid (Two n0 lo w S A G r m seed nq f tot c cc wr))
        case atStart => exact ⟨0, by omega, rfl, HTT⟩
        case round =>
          obtain ⟨i, hgk, rfl, HR⟩ := hrel
          by_cases hlt : i < 12
          · have dl : decide ((i : Int) < 12) = true := by simp; omega
            have hky := fun W => key_any i W (by omega)
            rw [Nat.mod_eq_of_lt hlt] at hky
            have HKY := Lib.hid hky
            obtain ⟨x, hx⟩ : ∃ x, least (placeOf seed (keyT i).data.toList m) f r = x := ⟨_, rfl⟩
            have hRC := fun W (h : RefS lo W.heap.size W c cc r m f) => refCount_any lo c cc r m seed tot f (keyT i) W hr8 hm1 hm2 HTT.out.1.k.fLt h (keyT_size _)
            rw [hx] at hRC
            have HX := Lib.hid hx
            have HRC := Lib.hid hRC
            have wi : IntKind.u8.wrap (i : Int) = (i : Int) := by rw [IntKind.wrap_u8']; omega
            clear hky hx hRC
            go_upto_region 25 with fail
            go_cut [155] (fun s155 wx => s155 = .bool false ∧ Hid (Two n0 lo w S A G r m seed nq f tot c cc wx))
            case first =>
              refine wp_region_held_drew (S := fun W => Two n0 lo w S A G r m seed nq f tot c cc W) (by kernel_rfl) ?_ (fun hHeld => ?_)
              · exact HR.out.drew
              refine wpAnyH_take (i := 0) (v := ?_) rfl (by kernel_rfl) (by kernel_rfl) (by kernel_rfl) (fun _ _ _ h => h) (Or.inl ⟨by rfl, ?_⟩) (by assumption) ?_
              rotate_left
              · intro wq hSw; (try dsimp only at hSw); go_simp; (try with_reducible rfl)
              simp only [Act.put, List.getElem_toArray, List.getElem_cons_succ, List.getElem_cons_zero, List.setIfInBounds_toArray, List.set_cons_zero, List.set_cons_succ]
              refine wpAnyH_take (i := 1) (v := ?_) rfl (by kernel_rfl) (by kernel_rfl) (by kernel_rfl) (fun _ _ _ h => h) (Or.inl ⟨by rfl, ?_⟩) (by assumption) ?_
              rotate_left
              · intro wq hSw; (try dsimp only at hSw); go_simp; (try with_reducible rfl)
              simp only [Act.put, List.getElem_toArray, List.getElem_cons_succ, List.getElem_cons_zero, List.setIfInBounds_toArray, List.set_cons_zero, List.set_cons_succ]
              refine wpAnyH_take (i := 2) (v := ?_) rfl (by kernel_rfl) (by kernel_rfl) (by kernel_rfl) (fun _ _ _ h => h) (Or.inl ⟨by rfl, ?_⟩) (by assumption) ?_
              rotate_left
              · intro wq hSw; (try dsimp only at hSw); go_simp; (try with_reducible rfl)
              simp only [Act.put, List.getElem_toArray, List.getElem_cons_succ, List.getElem_cons_zero, List.setIfInBounds_toArray, List.set_cons_zero, List.set_cons_succ]
              refine wpAnyH_take (i := 6) (v := ?_) rfl (by kernel_rfl) (by kernel_rfl) (by kernel_rfl) (fun _ _ _ h => h) (Or.inl ⟨by rfl, ?_⟩) (by assumption) ?_
              rotate_left
              · intro wq hSw; (try dsimp only at hSw); go_simp; (try with_reducible rfl)
              simp only [Act.put, List.getElem_toArray, List.getElem_cons_succ, List.getElem_cons_zero, List.setIfInBounds_toArray, List.set_cons_zero, List.set_cons_succ]
              refine wpAnyH_take (i := 7) (v := ?_) rfl (by kernel_rfl) (by kernel_rfl) (by kernel_rfl) (fun _ _ _ h => h) (Or.inl ⟨by rfl, ?_⟩) (by assumption) ?_
              rotate_left
              · intro wq hSw; (try dsimp only at hSw); go_simp; (try with_reducible rfl)
              simp only [Act.put, List.getElem_toArray, List.getElem_cons_succ, List.getElem_cons_zero, List.setIfInBounds_toArray, List.set_cons_zero, List.set_cons_succ]
              refine wpAnyH_take (i := 5) (v := ?_) rfl (by kernel_rfl) (by kernel_rfl) (by kernel_rfl) (fun _ _ _ h => h) (Or.inl ⟨by rfl, ?_⟩) (by assumption) ?_
              rotate_left
              · intro wq hSw; (try dsimp only at hSw); have q0 := hSw.2.1.cell 0 rfl; have q1 := hSw.2.1.cell 1 rfl; have q2 := hSw.2.1.cell 2 rfl; have q3 := hSw.2.1.cell 3 rfl; go_simp; (try with_reducible rfl)
              simp only [Act.put, List.getElem_toArray, List.getElem_cons_succ, List.getElem_cons_zero, List.setIfInBounds_toArray, List.set_cons_zero, List.set_cons_succ]
              refine wpAnyH_ready (rs := [3]) (by kernel_rfl) (by simp) ?_
              refine AllReadyH.cons rfl (fun K hK => ?_) AllReadyH.nil
              go_simp
              refine (HKY.out _).mono ?_
              rintro e wx ⟨rfl, hbx⟩
              (try go_wp2_with fail)
              refine hK.out _ _ ?_ (fun hHeld => ?_)
              · exact hHeld.later hbx
              clear hK K
              try simp only [Act.put, List.getElem_toArray, List.getElem_cons_succ, List.getElem_cons_zero, List.setIfInBounds_toArray, List.set_cons_zero, List.set_cons_succ]
              refine wpAnyH_ready (rs := [4]) (by kernel_rfl) (by simp) ?_
              refine AllReadyH.cons rfl (fun K hK => ?_) AllReadyH.nil
              go_simp
              refine (hHeld.1.count (keyT i) (keyT_size _) HX.out).mono ?_
              rintro e wx ⟨rfl, hbx⟩
              (try go_wp2_with fail)
              refine hK.out _ _ ?_ (fun hHeld => ?_)
              · exact hHeld.later hbx
              clear hK K
              try simp only [Act.put, List.getElem_toArray, List.getElem_cons_succ, List.getElem_cons_zero, List.setIfInBounds_toArray, List.set_cons_zero, List.set_cons_succ]
              refine wpAnyH_ready (rs := [8]) (by kernel_rfl) (by simp) ?_
              refine AllReadyH.cons rfl (fun K hK => ?_) AllReadyH.nil
              go_simp
              refine (HKY.out _).mono ?_
              rintro e wx ⟨rfl, hbx⟩
              (try go_wp2_with fail)
              refine hK.out _ _ ?_ (fun hHeld => ?_)
              · exact hHeld.later hbx
              clear hK K
              try simp only [Act.put, List.getElem_toArray, List.getElem_cons_succ, List.getElem_cons_zero, List.setIfInBounds_toArray, List.set_cons_zero, List.set_cons_succ]
              refine wpAnyH_ready (rs := [9]) (by kernel_rfl) (by simp) ?_
              refine AllReadyH.cons rfl (fun K hK => ?_) AllReadyH.nil
              go_simp
              refine (HRC.out _ hHeld.2.2).mono ?_
              rintro e wx ⟨rfl, hbx⟩
              (try go_wp2_with fail)
              refine hK.out _ _ ?_ (fun hHeld => ?_)
              · exact hHeld.later hbx
              clear hK K
              try simp only [Act.put, List.getElem_toArray, List.getElem_cons_succ, List.getElem_cons_zero, List.setIfInBounds_toArray, List.set_cons_zero, List.set_cons_succ]
              refine wpAnyH_take (i := 10) (v := ?_) rfl (by kernel_rfl) (by kernel_rfl) (by kernel_rfl) (fun _ _ _ h => h) (Or.inl ⟨by rfl, ?_⟩) (by assumption) ?_
              rotate_left
              · intro wq hSw; (try dsimp only at hSw); go_simp; (try with_reducible rfl)
              simp only [Act.put, List.getElem_toArray, List.getElem_cons_succ, List.getElem_cons_zero, List.setIfInBounds_toArray, List.set_cons_zero, List.set_cons_succ]
              have HW := Lib.hid hHeld
              refine wpAnyH_done (by kernel_rfl) ?_ _
              clear hHeld
              go_wp2_with fail
              go_meet
              exact ⟨rfl, HW⟩
            case rest =>
              obtain ⟨rfl, HR9⟩ := hcut
              go_wp2_with fail
              go_roundg (gk - 1)
              case measure => omega
              case rel => exact ⟨i + 1, by omega, by go_num, HR9⟩
          · obtain rfl : i = 12 := by omega
            have dl : decide ((12 : Int) < 12) = false := by simp
            have HBE := Lib.hid HR.out.1.b
            go_wp2
            go_ret
            exact ⟨rfl, HBE.out⟩
namespace SketchCounts
set_option linter.unusedSimpArgs false in
set_option maxRecDepth 100000 in
theorem lifted (os : Os) (started : os.Started) (H : Type) (enc : TypeId × Value → H) :
    ReturnsInHanded {} Tryd.checked os 4 .any (fun w args => (Rows.sketchCountsSpec.pre enc Tryd.prog Tryd.f4 [] false w args ∧ laidMetH Tryd.prog laidL w) ∧ sizedMet enc Tryd.prog Tryd.f4 (OpenSpec.ofChange Rows.sketchCountsSpec) false w args)
      (Rows.sketchCountsSpec.post enc Tryd.prog Tryd.f4 false true false false) := by
  refine returnsInHanded_of_change_and (C := Tryd.checked) (X := fun w _ => laidMetH Tryd.prog laidL w) (fun _ _ _ hh h => h.of_heap hh) own started (by kernel_rfl) Tryd.func4
    (ChangeSpec.witness_shaped (enc := enc) (C := Tryd.checked) (os := os) (X := fun w _ => laidMetH Tryd.prog laidL w) false (World.doorLaid Tryd.prog 400 os) #[.int .i64 0, .int .i64 0, .int .u64 0, .int .u8 0, .int .u8 0, .slice none 0 0, .slice none 0 0, .slice none 0 0, .slice none 0 0] 8 rfl (World.shaped_of_RefB (by kernel_rfl) (by kernel_rfl)) (by kernel_rfl) (by kernel_rfl) (by kernel_rfl) (door_met os _)) ?_
  intro W base args ds gs before hval0 hW _ _ hL _
  have hS := of_laid hL
  have hval : ∀ (j : Nat) t v, Tryd.f4.params[j]? = some t → args[j]? = some v → Value.okWide Tryd.prog W .any base t v := hval0
  have hW' := hW
  obtain ⟨p, q, hA0, hV, rfl, _, _⟩ := hW
  have hA : DataW.TrodAll enc Tryd.prog W 0 (fun _ => true) true Tryd.f4.params.toList args.toList ds p := hA0
  rw [Tryd.params4] at hA hval
  obtain ⟨v0, vs0, d0, ds0, p0, q0, hargs, rfl, rfl, h0, r0⟩ := trodAll_cons hA
  obtain ⟨v1, vs1, d1, ds1, p1, q1, rfl, rfl, rfl, h1, r1⟩ := trodAll_cons r0
  obtain ⟨v2, vs2, d2, ds2, p2, q2, rfl, rfl, rfl, h2, r2⟩ := trodAll_cons r1
  obtain ⟨v3, vs3, d3, ds3, p3, q3, rfl, rfl, rfl, h3, r3⟩ := trodAll_cons r2
  obtain ⟨v4, vs4, d4, ds4, p4, q4, rfl, rfl, rfl, h4, r4⟩ := trodAll_cons r3
  obtain ⟨v5, vs5, d5, ds5, p5, q5, rfl, rfl, rfl, h5, r5⟩ := trodAll_cons r4
  obtain ⟨v6, vs6, d6, ds6, p6, q6, rfl, rfl, rfl, h6, r6⟩ := trodAll_cons r5
  obtain ⟨v7, vs7, d7, ds7, p7, q7, rfl, rfl, rfl, h7, r7⟩ := trodAll_cons r6
  obtain ⟨v8, vs8, d8, ds8, p8, q8, rfl, rfl, rfl, h8, r8⟩ := trodAll_cons r7
  obtain ⟨rfl, rfl, rfl⟩ := trodAll_nil r8
  obtain rfl : args = #[v0, v1, v2, v3, v4, v5, v6, v7, v8] := by cases args; simp_all
  obtain ⟨rfl, rfl⟩ := trodVars_none hV
  obtain ⟨a0, rfl, rfl, rfl, w0⟩ := open_int Tryd.underlying3 (hval 0 3 v0 rfl rfl) h0
  have k0 := wf_i64 w0
  obtain ⟨a1, rfl, rfl, rfl, w1⟩ := open_int Tryd.underlying3 (hval 1 3 v1 rfl rfl) h1
  have k1 := wf_i64 w1
  obtain ⟨a2, rfl, rfl, rfl, w2⟩ := open_int Tryd.underlying22 (hval 2 22 v2 rfl rfl) h2
  have k2 := wf_u64 w2
  obtain ⟨n2, rfl⟩ : ∃ n : Nat, a2 = n := ⟨a2.toNat, by omega⟩
  obtain ⟨a3, rfl, rfl, rfl, w3⟩ := open_int Tryd.underlying5 (hval 3 5 v3 rfl rfl) h3
  have k3 := wf_u8 w3
  obtain ⟨n3, rfl⟩ : ∃ u : UInt8, a3 = (u.toNat : Int) := ⟨UInt8.ofNat a3.toNat, by simp; omega⟩
  obtain ⟨a4, rfl, rfl, rfl, w4⟩ := open_int Tryd.underlying5 (hval 4 5 v4 rfl rfl) h4
  have k4 := wf_u8 w4
  obtain ⟨n4, rfl⟩ : ∃ u : UInt8, a4 = (u.toNat : Int) := ⟨UInt8.ofNat a4.toNat, by simp; omega⟩
  obtain ⟨A5, cs5, cap5, rfl, l5, m5, b5, again5⟩ := arg_bytes (hval 5 23 v5 rfl rfl) h5
  have x5 := arg_extra h5
  obtain ⟨A6, cs6, cap6, rfl, l6, m6, b6, again6⟩ := arg_bytes (hval 6 23 v6 rfl rfl) h6
  have x6 := arg_extra h6
  obtain ⟨A7, cs7, cap7, rfl, l7, m7, b7⟩ := arg_nums (hval 7 32 v7 rfl rfl) h7
  obtain ⟨A8, cs8, cap8, rfl, l8, m8, b8⟩ := arg_strs (hval 8 33 v8 rfl rfl) h8
  clear hA0 hval0
  simp only [List.append_nil] at hW'
  refine (sketchCounts_walk a0 a1 n2 n3.toNat n4.toNat A5 cs5 cap5 A6 cs6 cap6 A7 cs7 cap7 A8 cs8 cap8 (by omega) (by have := n3.toNat_lt; omega) (by have := n4.toNat_lt; omega) W b5 b6 b7 b8 hS).mono fun e W' ⟨he, hg⟩ => ?_
  subst he
  exact ⟨_, rfl, true_last hW' rfl (by kernel_rfl) Tryd.underlying4 rfl rfl rfl (of_decide_eq_true (by kernel_rfl)) hg⟩

/-- The row. -/
theorem said : Rows.SketchCountsSaid :=
  OpenClaim.holds_of_wide 4 Tryd.f4 rfl rfl rfl rfl rfl rfl rfl ⟨rfl, rfl, rfl, rfl, rfl⟩ rfl rfl rfl rfl rfl (by kernel_rfl) Tryd.func4 (by kernel_rfl)
    (of_decide_eq_true (by kernel_rfl)) (by unfold Func.isWrapper; first | (rw [if_pos (by decide +kernel)]; kernel_rfl) | (rw [if_neg (by decide +kernel)]; exact ⟨rfl, rfl⟩))
    (fun os started H enc _ => lifted os started H enc)
/-- **SketchCounts, at every input: the card, its listed variables tied to the program's text.** -/
theorem proved : Rows.SketchCountsCardSaid :=
  Claim7.holds_tied_plain_at .later [] [.wider] true Rows.sketchCountsCard.stood.harness false
    said (fun _ h => by cases h) (by kernel_rfl) (fun _ h => by cases h) sketchCounts_row_tie rfl ⟨rfl, rfl⟩ (by kernel_rfl) rfl
    (fun f fn hf hfn => by
      obtain rfl : f = 4 := Option.some.inj ((show Tryd.prog.funcNamed "telemeter/telemeterlaw07.SketchCounts" = some 4 by kernel_rfl).symm.trans hf) |>.symm
      obtain rfl : fn = Tryd.f4 := (Option.some.inj (Tryd.func4.symm.trans hfn)).symm
      exact ⟨by kernel_rfl, fun j t ht => by
        rw [Tryd.params4] at ht
        have hm : t ∈ [3, 3, 22, 5, 5, 23, 23, 32, 33] := by simpa using Array.mem_of_getElem? ht
        have hall : ([3, 3, 22, 5, 5, 23, 23, 32, 33].all fun u => !Tryd.prog.wantsStandIn u) = true := by kernel_rfl
        exact (show Tryd.prog.wantsStandIn t = false by simpa using List.all_eq_true.1 hall t hm)⟩)
    (by kernel_rfl)
end SketchCounts

end Go.Proofs.YtmacehpfhhlnpaaDoor
