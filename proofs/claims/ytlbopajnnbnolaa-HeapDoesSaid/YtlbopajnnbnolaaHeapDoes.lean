/-
  Proved: HeapDoes returns true for every bound, deeds, timers and time: any heap does, deed by deed, what the chapter says. No condition.
-/
import Derived.Test.YtlbopajnnbnolaaHpArgs
import Derived.Test.YtlbopajnnbnolaaHpDoes
namespace Go.Proofs.Ytlbopajnnbnolaa
open Go.ChangeShapes Go.WideShapes Go.ChangeAt Go.RowKit Go.Maps Go.Proofs.HeapMath

/-- Both heaps, and the law's own variable that has the document's. -/
structure Lw (w wr : World) (S m R : Nat) (s : List Tm) (A : Option Addr) (n cap : Nat) (bs : List Nat) : Prop where
  bo : Bo w wr S m s A n cap bs
  r : Blk wr R #[.slice A n cap, .int .i64 (m : Int)] 40
  far : R ∉ bs
  base : w.heap.size ≤ R
theorem Lw.later {w W W' : World} {S m R : Nat} {s : List Tm} {A : Option Addr} {n cap : Nat} {bs : List Nat} (h : Lw w W S m R s A n cap bs) (hb : Below W.heap.size W W') : Lw w W' S m R s A n cap bs := ⟨h.bo.later hb, h.r.later hb, h.far, h.base⟩

theorem Dc.avoid {W : World} {A B : Option Addr} {n cap k c R : Nat} {s : List Tm} {bs : List Nat} {v : Value} {T : TypeId} (h : Dc W A n cap s bs) (hk : Blk W R #[.slice B k c, v] T) : Dc W A n cap s (R :: bs) :=
  ⟨h.len, h.cap_, h.five, h.nil_, fun h0 => by
    obtain ⟨g, e, hg, hgb, hc⟩ := h.cells h0
    refine ⟨g, e, hg, fun hm => ?_, hc⟩
    rcases List.mem_cons.1 hm with rfl | hm
    · have h1 := (hc 0 h0).1
      rw [Nat.zero_mul, hk.cell 0 rfl] at h1
      simp at h1
    · exact hgb hm⟩
/-- What was told is stored in the law's own variable. -/
theorem Lw.put {w w8 : World} {S m R n' cap' : Nat} {s' : List Tm} {A' : Option Addr} {bs' : List Nat} {B : Option Addr} {k c : Nat} {v : Value} (hb : Bo w w8 S m s' A' n' cap' bs') (hk : Blk w8 R #[.slice B k c, v] 40) (hf : R ∉ bs') (hR : w.heap.size ≤ R) :
    Lw w ((w8.setCell ⟨R, 0, none⟩ (.slice A' n' cap')).setCell ⟨R, 1, none⟩ (.int .i64 (m : Int))) S m R s' A' n' cap' bs' := by
  have hm : Mut [R] w8 ((w8.setCell ⟨R, 0, none⟩ (.slice A' n' cap')).setCell ⟨R, 1, none⟩ (.int .i64 (m : Int))) := ((Mut.refl _ _).setCell (by simp) _).setCell (by simp) _
  have hd := hb.dc.avoid hk
  refine ⟨⟨⟨hb.ow.1.mut hm fun x hx hc => ?_, hb.ow.2.1.trans (hm.below hb.ow.2.1.size fun x hx => by rw [List.mem_singleton.1 hx]; exact hR), hb.ow.2.2⟩, (hd.mut (hm.wider (fun x hx => by rw [List.mem_singleton.1 hx]; simp)) (Ext.refl _ _)).mut (Mut.refl _ _) (fun x hx => .inl (by simp [hx]))⟩, (hk.set 0 _).set 1 _, hf, hR⟩
  rw [List.mem_singleton.1 hc] at hx
  exact hf hx

set_option linter.unusedSimpArgs false in
set_option maxRecDepth 100000 in
set_option maxHeartbeats 8000000 in
theorem heapDoes_walk (c : UInt8) (A1 : Option Addr) (ds : List Dd) (cap1 : Nat) (A2 : Option Addr) (raw : List Tm) (cap2 : Nat) (now : Int) (w : World) (hD : Dds w.heap.size w A1 ds) (_ : ds.length ≤ cap1) (hR : Tms w.heap.size w A2 raw ∧ ∀ t ∈ raw, In64 t) (_ : raw.length ≤ cap2) :
    Calls Try.prog 4 #[.int .u8 (c.toNat : Int), .slice A1 ds.length cap1, .slice A2 raw.length cap2, .int .i64 now] w fun e w' => e = .returned (.bool true) ∧ Below w.heap.size w w' := by
  obtain ⟨N, hN⟩ : ∃ N, ds.length = N := ⟨_, rfl⟩
  obtain ⟨N2, hN2⟩ : ∃ N2, raw.length = N2 := ⟨_, rfl⟩
  rw [hN]
  rw [hN2]
  have hc3 := c.toNat_lt
  obtain ⟨m, hm, hm1, hm2⟩ : ∃ m : Nat, (1 : Int) + (c.toNat : Int) % 20 = (m : Int) ∧ 1 ≤ m ∧ m ≤ 20 := ⟨1 + c.toNat % 20, by omega, by omega, by omega⟩
  obtain ⟨cc, hcc⟩ : ∃ cc, c.toNat = cc := ⟨_, rfl⟩
  rw [hcc] at hc3 hm ⊢
  have HD := Lib.hid hD
  have HR := Lib.hid hR
  have HN := Lib.hid (show ds.length = N ∧ raw.length = N2 from ⟨hN, hN2⟩)
  clear hD hR hN hN2 hcc
  by_cases hbig : 80 < N
  · have d1 : decide ((80 : Int) < (N : Int)) = true := by simp; omega
    go_enter Try.func4, Try.ntmps4
    go_wp2_with fail
    refine (known_any _).mono ?_
    rintro e w1 ⟨rfl, hb⟩
    have HB := Lib.hid hb
    clear hb
    go_wp2_with fail
    go_ret
    exact ⟨rfl, HB.out⟩
  have d1 : decide ((80 : Int) < (N : Int)) = false := by simp; omega
  by_cases hbig2 : 20 < N2
  · have d2 : decide ((20 : Int) < (N2 : Int)) = true := by simp; omega
    go_enter Try.func4, Try.ntmps4
    go_wp2_with fail
    refine (known_any _).mono ?_
    rintro e w1 ⟨rfl, hb⟩
    have HB := Lib.hid hb
    clear hb
    go_wp2_with fail
    go_ret
    exact ⟨rfl, HB.out⟩
  have d2 : decide ((20 : Int) < (N2 : Int)) = false := by simp; omega
  have hNew : ∀ W, Below w.heap.size w W → _ := fun W hb => own_new (w₀ := w) (W := W) m hb hm1 (by omega)
  have HNEW := Lib.hid hNew
  have HRN := Lib.hid (fun W => refNew_any m W hm1 (by omega))
  clear hNew
  go_enter Try.func4, Try.ntmps4
  go_wp2_with fail
  refine (known_any _).mono ?_
  rintro e w1 ⟨rfl, hb⟩
  have HB := Lib.hid hb
  clear hb
  go_wp2_with fail
  refine (HNEW.out _ HB.out).mono ?_
  rintro e w2 ⟨S, bs, rfl, HO⟩
  clear HB HNEW
  go_wp2_with fail
  refine (HRN.out _).mono ?_
  rintro e w3 ⟨rfl, hb3⟩
  have ho3 := HO.out.1.later hb3
  have ho4 := ho3.later (box_below (.cells #[.slice none 0 0, .int .i64 (m : Int)] 40))
  have hlw : Lw w (w3.alloc (.cells #[.slice none 0 0, .int .i64 (m : Int)] 40)) S m w3.heap.size [] none 0 0 bs :=
    ⟨⟨ho4, ⟨rfl, by omega, by omega, fun _ => rfl, fun h => absurd h (by omega)⟩⟩, blk_new _ _ _, fun hm => by have := ho3.1.lt _ hm; omega, ho3.2.1.size⟩
  obtain ⟨R, hR⟩ : ∃ R, w3.heap.size = R := ⟨_, rfl⟩
  rw [hR] at hlw
  have HLW := Lib.hid hlw
  clear hlw ho3 ho4 HO hb3 HRN
  go_wp2_with fail
  clear hR
  go_loopw [12] (fun iv wr => ∃ i : Nat, i ≤ N2 ∧ iv = .int .i64 (i : Int) ∧ Hid (∃ s A n cap bs, Lw w wr S m R s A n cap bs)) (fun iv _ => N2 - (intOf iv).toNat)
  case atStart => exact ⟨0, by omega, rfl, Lib.hid ⟨_, _, _, _, _, HLW.out⟩⟩
  case round =>
    clear HLW
    obtain ⟨i, hi, rfl, HQ⟩ := hrel
    by_cases hlt : i < N2
    · have dl : decide (i < N2) = true := by simp; omega
      obtain ⟨s, A, n, cap, bs, hL⟩ := HQ.out
      obtain ⟨g, off, rfl, hg, hc⟩ := HR.out.1 (by rw [HN.out.2]; omega)
      obtain ⟨c0, c1⟩ := hc i (by rw [HN.out.2]; exact hlt)
      have hin := HR.out.2 _ (at_mem (by rw [HN.out.2]; exact hlt : i < raw.length))
      obtain ⟨⟨ta, tb⟩, ht⟩ : ∃ t, at_ raw i = t := ⟨_, rfl⟩
      rw [ht] at c0 c1 hin
      simp only at c0 c1
      have HC : Hid (∀ W, Below w.heap.size w W → W.cell? ⟨g, off + i * 2, none⟩ = some (.int .i64 ta) ∧ W.cell? ⟨g, off + i * 2 + 1, none⟩ = some (.int .i64 tb)) := Lib.hid fun W hW => ⟨(hW.cell (p := ⟨g, off + i * 2, none⟩) hg).trans c0, (hW.cell (p := ⟨g, off + i * 2 + 1, none⟩) hg).trans c1⟩
      have HIN := Lib.hid hin
      have hrl := hL.r.lt
      have hP : ∀ W, Below wr.heap.size wr W → Calls Try.prog 15 #[.agg #[.slice A n cap, .int .i64 (m : Int)], .agg #[.int .i64 ta, .int .i64 tb]] W (DocE W m bs (pushS m (ta, tb) s) (.int .i64 (pushE m (ta, tb) s : Int))) := fun W hW =>
        refPush_any (most := m) (bs := bs) (ta, tb) W (hL.bo.dc.later hW) hL.bo.ow.1.so.2.1 (hL.later hW).bo.ow.1.lt (by omega)
      obtain ⟨er, her, her2⟩ : ∃ er, pushE m (ta, tb) s = er ∧ er ≤ 70 := ⟨_, rfl, by unfold pushE; split; omega; split <;> omega⟩
      obtain ⟨s', hs'⟩ : ∃ s', pushS m (ta, tb) s = s' := ⟨_, rfl⟩
      rw [her, hs'] at hP
      have HES := Lib.hid (show pushE m (ta, tb) s = er ∧ pushS m (ta, tb) s = s' from ⟨her, hs'⟩)
      have hsk : ∀ W, Below wr.heap.size wr W → (W.cell? ⟨R, 0, none⟩ = some (.slice A n cap) ∧ W.cell? ⟨R, 1, none⟩ = some (.int .i64 (m : Int))) ∧ W.cell? ⟨g, off + i * 2, none⟩ = some (.int .i64 ta) ∧ W.cell? ⟨g, off + i * 2 + 1, none⟩ = some (.int .i64 tb) := fun W hW => ⟨⟨(hL.later hW).r.cell 0 rfl, (hL.later hW).r.cell 1 rfl⟩, HC.out _ (hL.later hW).bo.ow.2.1⟩
      have hdr : Below wr.heap.size wr wr.drew := ⟨rfl, rfl, rfl, Nat.le_refl _, fun _ _ => rfl⟩
      have zd := hsk _ hdr
      obtain ⟨nr, hnr⟩ : ∃ nr, wr.heap.size = nr := ⟨_, rfl⟩
      have hnrd : wr.drew.heap.size = nr := hnr
      have HPP := Lib.hid hP
      have HSK := Lib.hid hsk
      have HL := Lib.hid hL
      have HBS := Lib.hid hL.bo.ow.1.lt
      clear hP hc c0 c1 ht hin hL her hs' HQ hsk
      go_wp2_with fail
      refine wp_region_held_drew (S := fun W => (W.cell? ⟨R, 0, none⟩ = some (.slice A n cap) ∧ W.cell? ⟨R, 1, none⟩ = some (.int .i64 (m : Int))) ∧ W.cell? ⟨g, off + i * 2, none⟩ = some (.int .i64 ta) ∧ W.cell? ⟨g, off + i * 2 + 1, none⟩ = some (.int .i64 tb)) (by kernel_rfl) ?_ (fun hHeld => ?_)
      · exact zd
      refine wpAnyH_take (i := 0) (v := ?_) rfl (by kernel_rfl) (by kernel_rfl) (by kernel_rfl) (fun _ _ _ h => h) (Or.inl ⟨by rfl, ?_⟩) (by assumption) ?_
      rotate_left
      · intro wq hSw; (try dsimp only at hSw); obtain ⟨⟨u0, u1⟩, u2, u3⟩ := hSw; go_simp; (try with_reducible rfl)
      simp only [Act.put, List.getElem_toArray, List.getElem_cons_succ, List.getElem_cons_zero, List.setIfInBounds_toArray, List.set_cons_zero, List.set_cons_succ]
      refine wpAnyH_take (i := 1) (v := ?_) rfl (by kernel_rfl) (by kernel_rfl) (by kernel_rfl) (fun _ _ _ h => h) (Or.inl ⟨by rfl, ?_⟩) (by assumption) ?_
      rotate_left
      · intro wq hSw; (try dsimp only at hSw); go_simp; (try with_reducible rfl)
      simp only [Act.put, List.getElem_toArray, List.getElem_cons_succ, List.getElem_cons_zero, List.setIfInBounds_toArray, List.set_cons_zero, List.set_cons_succ]
      refine wpAnyH_take (i := 2) (v := ?_) rfl (by kernel_rfl) (by kernel_rfl) (by kernel_rfl) (fun _ _ _ h => h) (Or.inl ⟨by rfl, ?_⟩) (by assumption) ?_
      rotate_left
      · intro wq hSw; (try dsimp only at hSw); go_simp; (try with_reducible rfl)
      simp only [Act.put, List.getElem_toArray, List.getElem_cons_succ, List.getElem_cons_zero, List.setIfInBounds_toArray, List.set_cons_zero, List.set_cons_succ]
      refine wpAnyH_take (i := 3) (v := ?_) rfl (by kernel_rfl) (by kernel_rfl) (by kernel_rfl) (fun _ _ _ h => h) (Or.inl ⟨by rfl, ?_⟩) (by assumption) ?_
      rotate_left
      · intro wq hSw; (try dsimp only at hSw); go_simp; (try with_reducible rfl)
      simp only [Act.put, List.getElem_toArray, List.getElem_cons_succ, List.getElem_cons_zero, List.setIfInBounds_toArray, List.set_cons_zero, List.set_cons_succ]
      refine wpAnyH_take (i := 4) (v := ?_) rfl (by kernel_rfl) (by kernel_rfl) (by kernel_rfl) (fun _ _ _ h => h) (Or.inl ⟨by rfl, ?_⟩) (by assumption) ?_
      rotate_left
      · intro wq hSw; (try dsimp only at hSw); obtain ⟨⟨u0, u1⟩, u2, u3⟩ := hSw; go_simp; (try with_reducible rfl)
      simp only [Act.put, List.getElem_toArray, List.getElem_cons_succ, List.getElem_cons_zero, List.setIfInBounds_toArray, List.set_cons_zero, List.set_cons_succ]
      refine wpAnyH_ready (rs := [5, 9]) (by kernel_rfl) (by simp) ?_
      refine AllReadyH.cons rfl (fun K hK => ?_) (AllReadyH.cons rfl (fun K hK => ?_) (AllReadyH.nil))
      · go_simp
        ((with_reducible refine (HPP.out _ hdr).mono ?_); rintro e w4 ⟨A', n', cap', rfl, H4⟩)
        have hb4 : Below wr.heap.size wr w4 := hdr.trans H4.out.1
        have hS5 := HSK.out _ hb4
        (try go_wp2_with fail)
        refine hK.out _ _ ?_ (fun hHeld => ?_)
        · exact hS5
        clear hK K
        try simp only [Act.put, List.getElem_toArray, List.getElem_cons_succ, List.getElem_cons_zero, List.setIfInBounds_toArray, List.set_cons_zero, List.set_cons_succ]
        refine wpAnyH_take (i := 6) (v := ?_) rfl (by kernel_rfl) (by kernel_rfl) (by kernel_rfl) (fun _ _ _ h => h) (Or.inl ⟨by rfl, ?_⟩) (by assumption) ?_
        rotate_left
        · intro wq hSw; (try dsimp only at hSw); go_simp; (try with_reducible rfl)
        simp only [Act.put, List.getElem_toArray, List.getElem_cons_succ, List.getElem_cons_zero, List.setIfInBounds_toArray, List.set_cons_zero, List.set_cons_succ]
        refine wpAnyH_take (i := 7) (v := ?_) rfl (by kernel_rfl) (by kernel_rfl) (by kernel_rfl) (fun _ _ _ h => h) (Or.inl ⟨by rfl, ?_⟩) (by assumption) ?_
        rotate_left
        · intro wq hSw; (try dsimp only at hSw); go_simp; (try with_reducible rfl)
        simp only [Act.put, List.getElem_toArray, List.getElem_cons_succ, List.getElem_cons_zero, List.setIfInBounds_toArray, List.set_cons_zero, List.set_cons_succ]
        refine wpAnyH_take (i := 8) (v := ?_) rfl (by kernel_rfl) (by kernel_rfl) (by kernel_rfl) (fun _ _ _ h => h) (Or.inl ⟨by rfl, ?_⟩) (by assumption) ?_
        rotate_left
        · intro wq hSw; (try dsimp only at hSw); go_simp; (try with_reducible rfl)
        simp only [Act.put, List.getElem_toArray, List.getElem_cons_succ, List.getElem_cons_zero, List.setIfInBounds_toArray, List.set_cons_zero, List.set_cons_succ]
        refine wpAnyH_ready (rs := [9]) (by kernel_rfl) (by simp) ?_
        refine AllReadyH.cons rfl (fun K hK => ?_) AllReadyH.nil
        go_simp
        obtain ⟨n4, hn4⟩ : ∃ n4, w4.heap.size = n4 := ⟨_, rfl⟩
        have hb9 : Below wr.heap.size wr (w4.alloc (.cells #[.slice none 0 0, .int .i64 0] 40)) := hb4.alloc hb4.size _
        have hS9 := HSK.out _ hb9
        (try go_wp2_with fail)
        refine hK.out _ _ ?_ (fun hHeld => ?_)
        · exact hS9
        clear hK K
        try simp only [Act.put, List.getElem_toArray, List.getElem_cons_succ, List.getElem_cons_zero, List.setIfInBounds_toArray, List.set_cons_zero, List.set_cons_succ]
        refine wpAnyH_ready (rs := [10]) (by kernel_rfl) (by simp) ?_
        refine AllReadyH.cons rfl (fun K hK => ?_) AllReadyH.nil
        have hz := blk_new w4 #[.slice none 0 0, .int .i64 0] 40
        rw [hn4] at hz
        have v0 := hz.cell 0 rfl
        have v1 := hz.cell 1 rfl
        have f0 := hz.free 0
        have f1 := hz.free 1
        have hb10 : Below wr.heap.size wr (w4.alloc (.cells #[.slice A' n' cap', .int .i64 (m : Int)] 40)) := hb4.alloc hb4.size _
        have hS10 := HSK.out _ hb10
        go_simp
        (try go_wp2_with fail)
        refine hK.out _ _ ?_ (fun hHeld => ?_)
        · exact hS10
        clear hK K
        try simp only [Act.put, List.getElem_toArray, List.getElem_cons_succ, List.getElem_cons_zero, List.setIfInBounds_toArray, List.set_cons_zero, List.set_cons_succ]
        refine wpAnyH_take (i := 11) (v := ?_) rfl (by kernel_rfl) (by kernel_rfl) (by kernel_rfl) (fun _ _ _ h => h) (Or.inl ⟨by rfl, ?_⟩) (by assumption) ?_
        rotate_left
        · intro wq hSw; (try dsimp only at hSw); go_simp; (try with_reducible rfl)
        simp only [Act.put, List.getElem_toArray, List.getElem_cons_succ, List.getElem_cons_zero, List.setIfInBounds_toArray, List.set_cons_zero, List.set_cons_succ]
        refine wpAnyH_done (by kernel_rfl) ?_ _
        clear hHeld
        have hb6 := hb10
        have hk6 := blk_new w4 #[.slice A' n' cap', .int .i64 (m : Int)] 40
        rw [hn4] at hk6
        have hd6 := H4.out.2.later (box_below (.cells #[.slice A' n' cap', .int .i64 (m : Int)] 40))
        have HN4 := Lib.hid hn4
        clear hS5 hb9 hS9 hz v0 v1 f0 f1 hb10 hS10 hn4
        have HB6 := Lib.hid hb6
        have HK6 := Lib.hid hk6
        have HD6 := Lib.hid hd6
        clear hb6 hk6 hd6
        generalize w4.alloc (.cells #[.slice A' n' cap', .int .i64 (m : Int)] 40) = w6 at HB6 HK6 HD6 ⊢
        obtain ⟨c0, c1⟩ := HC.out _ (HL.out.later HB6.out).bo.ow.2.1
        have hH := own_pushE (ta, tb) (HL.out.later HB6.out).bo.ow HIN.out
        rw [HES.out.1, HES.out.2] at hH
        simp only at hH
        have HH := Lib.hid hH
        clear hH
        go_wp2_with fail
        refine HH.out.mono ?_
        rintro e w8 ⟨rfl, bs8, H8⟩
        have hl6 := HL.out.later HB6.out
        have hk8 := HK6.out.mut H8.out.2.1 (fun hm => by have := HBS.out _ hm; have := hb4.size; have := HN4.out; omega)
        have hr8 := hl6.r.mut H8.out.2.1 hl6.far
        have hfar8 := far_ext H8.out.2.2 hl6.far hl6.r.lt
        have hput := Lw.put ⟨H8.out.1, HD6.out.mut H8.out.2.1 H8.out.2.2⟩ hr8 hfar8 hl6.base
        have HPUT := Lib.hid hput
        have p0 := hk8.cell 0 rfl
        have p1 := hk8.cell 1 rfl
        have r0 := hr8.cell 0 rfl
        have r1 := hr8.cell 1 rfl
        have f0 := hr8.free 0
        have f1 := hr8.free 1
        clear c0 c1 hl6 hk8 hr8 hfar8 hput
        go_wp2_with fail
        go_roundw
        case rel => exact ⟨i + 1, by omega, by go_num, Lib.hid ⟨_, _, _, _, _, HPUT.out⟩⟩
        case measure => simp [intOf]; omega
      · go_simp
        have hbA : Below wr.heap.size wr (wr.alloc (.cells #[.slice none 0 0, .int .i64 0] 40)).drew := (box_below _).drew
        have hS5 := HSK.out _ hbA
        have hz : Blk (wr.alloc (.cells #[.slice none 0 0, .int .i64 0] 40)).drew nr #[.slice none 0 0, .int .i64 0] 40 := by rw [← hnr]; exact blk_new wr _ _
        (try go_wp2_with fail)
        refine hK.out _ _ ?_ (fun hHeld => ?_)
        · exact hS5
        clear hK K
        try simp only [Act.put, List.getElem_toArray, List.getElem_cons_succ, List.getElem_cons_zero, List.setIfInBounds_toArray, List.set_cons_zero, List.set_cons_succ]
        refine wpAnyH_ready (rs := [5]) (by kernel_rfl) (by simp) ?_
        refine AllReadyH.cons rfl (fun K hK => ?_) AllReadyH.nil
        go_simp
        ((with_reducible refine (HPP.out _ hbA).mono ?_); rintro e w5 ⟨A', n', cap', rfl, H4⟩)
        have hb4 : Below wr.heap.size wr w5 := hbA.trans (H4.out.1.mono (by change _ ≤ (wr.alloc _).heap.size; rw [World.size_alloc]; omega))
        have hS6 := HSK.out _ hb4
        have hz5 := hz.same (H4.out.1.block _ hz.lt)
        (try go_wp2_with fail)
        refine hK.out _ _ ?_ (fun hHeld => ?_)
        · exact hS6
        clear hK K
        try simp only [Act.put, List.getElem_toArray, List.getElem_cons_succ, List.getElem_cons_zero, List.setIfInBounds_toArray, List.set_cons_zero, List.set_cons_succ]
        refine wpAnyH_take (i := 6) (v := ?_) rfl (by kernel_rfl) (by kernel_rfl) (by kernel_rfl) (fun _ _ _ h => h) (Or.inl ⟨by rfl, ?_⟩) (by assumption) ?_
        rotate_left
        · intro wq hSw; (try dsimp only at hSw); go_simp; (try with_reducible rfl)
        simp only [Act.put, List.getElem_toArray, List.getElem_cons_succ, List.getElem_cons_zero, List.setIfInBounds_toArray, List.set_cons_zero, List.set_cons_succ]
        refine wpAnyH_take (i := 7) (v := ?_) rfl (by kernel_rfl) (by kernel_rfl) (by kernel_rfl) (fun _ _ _ h => h) (Or.inl ⟨by rfl, ?_⟩) (by assumption) ?_
        rotate_left
        · intro wq hSw; (try dsimp only at hSw); go_simp; (try with_reducible rfl)
        simp only [Act.put, List.getElem_toArray, List.getElem_cons_succ, List.getElem_cons_zero, List.setIfInBounds_toArray, List.set_cons_zero, List.set_cons_succ]
        refine wpAnyH_take (i := 8) (v := ?_) rfl (by kernel_rfl) (by kernel_rfl) (by kernel_rfl) (fun _ _ _ h => h) (Or.inl ⟨by rfl, ?_⟩) (by assumption) ?_
        rotate_left
        · intro wq hSw; (try dsimp only at hSw); go_simp; (try with_reducible rfl)
        simp only [Act.put, List.getElem_toArray, List.getElem_cons_succ, List.getElem_cons_zero, List.setIfInBounds_toArray, List.set_cons_zero, List.set_cons_succ]
        refine wpAnyH_ready (rs := [10]) (by kernel_rfl) (by simp) ?_
        refine AllReadyH.cons rfl (fun K hK => ?_) AllReadyH.nil
        have v0 := hz5.cell 0 rfl
        have v1 := hz5.cell 1 rfl
        have f0 := hz5.free 0
        have f1 := hz5.free 1
        have hb10 : Below wr.heap.size wr ((w5.setCell ⟨nr, 0, none⟩ (.slice A' n' cap')).setCell ⟨nr, 1, none⟩ (.int .i64 (m : Int))) := (hb4.setCell (by simp; omega) _).setCell (by simp; omega) _
        have hS10 := HSK.out _ hb10
        go_simp
        (try go_wp2_with fail)
        refine hK.out _ _ ?_ (fun hHeld => ?_)
        · exact hS10
        clear hK K
        try simp only [Act.put, List.getElem_toArray, List.getElem_cons_succ, List.getElem_cons_zero, List.setIfInBounds_toArray, List.set_cons_zero, List.set_cons_succ]
        refine wpAnyH_take (i := 11) (v := ?_) rfl (by kernel_rfl) (by kernel_rfl) (by kernel_rfl) (fun _ _ _ h => h) (Or.inl ⟨by rfl, ?_⟩) (by assumption) ?_
        rotate_left
        · intro wq hSw; (try dsimp only at hSw); go_simp; (try with_reducible rfl)
        simp only [Act.put, List.getElem_toArray, List.getElem_cons_succ, List.getElem_cons_zero, List.setIfInBounds_toArray, List.set_cons_zero, List.set_cons_succ]
        refine wpAnyH_done (by kernel_rfl) ?_ _
        clear hHeld
        have hb6 := hb10
        have hk6 := (hz5.set 0 (.slice A' n' cap')).set 1 (.int .i64 (m : Int))
        have hd6 : Dc ((w5.setCell ⟨nr, 0, none⟩ (.slice A' n' cap')).setCell ⟨nr, 1, none⟩ (.int .i64 (m : Int))) A' n' cap' s' bs := ((H4.out.2.avoid hz5).mut (((Mut.refl (nr :: bs) w5).setCell (by simp) _).setCell (by simp) _) (Ext.refl _ _)).mut (Mut.refl _ _) (fun x hx => .inl (by simp [hx]))
        clear hS5 hz hz5 hS6 v0 v1 f0 f1 hb10 hS10
        have HB6 := Lib.hid hb6
        have HK6 := Lib.hid hk6
        have HD6 := Lib.hid hd6
        clear hb6 hk6 hd6
        generalize (w5.setCell ⟨nr, 0, none⟩ (.slice A' n' cap')).setCell ⟨nr, 1, none⟩ (.int .i64 (m : Int)) = w6 at HB6 HK6 HD6 ⊢
        obtain ⟨c0, c1⟩ := HC.out _ (HL.out.later HB6.out).bo.ow.2.1
        have hH := own_pushE (ta, tb) (HL.out.later HB6.out).bo.ow HIN.out
        rw [HES.out.1, HES.out.2] at hH
        simp only at hH
        have HH := Lib.hid hH
        clear hH
        go_wp2_with fail
        refine HH.out.mono ?_
        rintro e w8 ⟨rfl, bs8, H8⟩
        have hl6 := HL.out.later HB6.out
        have hk8 := HK6.out.mut H8.out.2.1 (fun hm => by have := HBS.out _ hm; omega)
        have hr8 := hl6.r.mut H8.out.2.1 hl6.far
        have hfar8 := far_ext H8.out.2.2 hl6.far hl6.r.lt
        have hput := Lw.put ⟨H8.out.1, HD6.out.mut H8.out.2.1 H8.out.2.2⟩ hr8 hfar8 hl6.base
        have HPUT := Lib.hid hput
        have p0 := hk8.cell 0 rfl
        have p1 := hk8.cell 1 rfl
        have r0 := hr8.cell 0 rfl
        have r1 := hr8.cell 1 rfl
        have f0 := hr8.free 0
        have f1 := hr8.free 1
        clear c0 c1 hl6 hk8 hr8 hfar8 hput
        go_wp2_with fail
        go_roundw
        case rel => exact ⟨i + 1, by omega, by go_num, Lib.hid ⟨_, _, _, _, _, HPUT.out⟩⟩
        case measure => simp [intOf]; omega
    · have dl : decide (i < N2) = false := by simp; omega
      go_wp2_with fail
      clear dl
      go_loopw [15] (fun iv wr => ∃ i : Nat, i ≤ N ∧ iv = .int .i64 (i : Int) ∧ Hid (∃ s A n cap bs, Lw w wr S m R s A n cap bs)) (fun iv _ => N - (intOf iv).toNat)
      case atStart => exact ⟨0, by omega, rfl, HQ⟩
      case round =>
        clear HQ hi hlt
        obtain ⟨j, hj, rfl, HQ⟩ := hrel
        by_cases hlt : j < N
        · have dl : decide (j < N) = true := by simp; omega
          obtain ⟨s, A, n, cap, bs, hL⟩ := HQ.out
          obtain ⟨g, off, rfl, hg, hc⟩ := HD.out (by rw [HN.out.1]; omega)
          obtain ⟨c0, c1, c2, b0, b1, b2⟩ := hc j (by rw [HN.out.1]; exact hlt)
          obtain ⟨⟨x, y, z⟩, ht⟩ : ∃ t, ds.getD j (0, 0, 0) = t := ⟨_, rfl⟩
          rw [ht] at c0 c1 c2 b0 b1 b2
          simp only at c0 c1 c2 b0 b1 b2
          have HC : Hid (∀ W, Below w.heap.size w W → W.cell? ⟨g, off + j * 3, none⟩ = some (.int .u8 (x : Int)) ∧ W.cell? ⟨g, off + j * 3 + 1, none⟩ = some (.int .u8 (y : Int)) ∧ W.cell? ⟨g, off + j * 3 + 2, none⟩ = some (.int .u8 (z : Int))) := Lib.hid fun W hW => ⟨(hW.cell (p := ⟨g, off + j * 3, none⟩) hg).trans c0, (hW.cell (p := ⟨g, off + j * 3 + 1, none⟩) hg).trans c1, (hW.cell (p := ⟨g, off + j * 3 + 2, none⟩) hg).trans c2⟩
          have hdr : Below wr.heap.size wr wr.drew := ⟨rfl, rfl, rfl, Nat.le_refl _, fun _ _ => rfl⟩
          have hLd : Lw w wr.drew S m R s A n cap bs := hL.later hdr
          have HT := Lib.hid (does_any x y z hLd.bo hm2 b0 b1 b2)
          have zd := HC.out _ hLd.bo.ow.2.1
          have r0 := hLd.r.cell 0 rfl
          have r1 := hLd.r.cell 1 rfl
          have HL := Lib.hid hLd
          clear hc c0 c1 c2 b0 b1 b2 ht hL hLd HQ hdr
          go_wp2_with fail
          refine wp_region_held_drew (S := fun W => W.cell? ⟨g, off + j * 3, none⟩ = some (.int .u8 (x : Int)) ∧ W.cell? ⟨g, off + j * 3 + 1, none⟩ = some (.int .u8 (y : Int)) ∧ W.cell? ⟨g, off + j * 3 + 2, none⟩ = some (.int .u8 (z : Int))) (by kernel_rfl) ?_ (fun hHeld => ?_)
          · exact zd
          refine wpAnyH_take (i := 0) (v := ?_) rfl (by kernel_rfl) (by kernel_rfl) (by kernel_rfl) (fun _ _ _ h => h) (Or.inl ⟨by rfl, ?_⟩) (by assumption) ?_
          rotate_left
          · intro wq hSw; (try dsimp only at hSw); go_simp; (try with_reducible rfl)
          simp only [Act.put, List.getElem_toArray, List.getElem_cons_succ, List.getElem_cons_zero, List.setIfInBounds_toArray, List.set_cons_zero, List.set_cons_succ]
          refine wpAnyH_take (i := 2) (v := ?_) rfl (by kernel_rfl) (by kernel_rfl) (by kernel_rfl) (fun _ _ _ h => h) (Or.inl ⟨by rfl, ?_⟩) (by assumption) ?_
          rotate_left
          · intro wq hSw; (try dsimp only at hSw); go_simp; (try with_reducible rfl)
          simp only [Act.put, List.getElem_toArray, List.getElem_cons_succ, List.getElem_cons_zero, List.setIfInBounds_toArray, List.set_cons_zero, List.set_cons_succ]
          refine wpAnyH_take (i := 3) (v := ?_) rfl (by kernel_rfl) (by kernel_rfl) (by kernel_rfl) (fun _ _ _ h => h) (Or.inl ⟨by rfl, ?_⟩) (by assumption) ?_
          rotate_left
          · intro wq hSw; (try dsimp only at hSw); go_simp; (try with_reducible rfl)
          simp only [Act.put, List.getElem_toArray, List.getElem_cons_succ, List.getElem_cons_zero, List.setIfInBounds_toArray, List.set_cons_zero, List.set_cons_succ]
          refine wpAnyH_take (i := 4) (v := ?_) rfl (by kernel_rfl) (by kernel_rfl) (by kernel_rfl) (fun _ _ _ h => h) (Or.inl ⟨by rfl, ?_⟩) (by assumption) ?_
          rotate_left
          · intro wq hSw; (try dsimp only at hSw); obtain ⟨u0, u1, u2⟩ := hSw; go_simp; (try with_reducible rfl)
          simp only [Act.put, List.getElem_toArray, List.getElem_cons_succ, List.getElem_cons_zero, List.setIfInBounds_toArray, List.set_cons_zero, List.set_cons_succ]
          refine wpAnyH_take (i := 5) (v := ?_) rfl (by kernel_rfl) (by kernel_rfl) (by kernel_rfl) (fun _ _ _ h => h) (Or.inl ⟨by rfl, ?_⟩) (by assumption) ?_
          rotate_left
          · intro wq hSw; (try dsimp only at hSw); obtain ⟨u0, u1, u2⟩ := hSw; go_simp; (try with_reducible rfl)
          simp only [Act.put, List.getElem_toArray, List.getElem_cons_succ, List.getElem_cons_zero, List.setIfInBounds_toArray, List.set_cons_zero, List.set_cons_succ]
          refine wpAnyH_ready (rs := [1]) (by kernel_rfl) (by simp) ?_
          refine AllReadyH.cons rfl (fun K hK => ?_) AllReadyH.nil
          go_simp
          (try go_wp2_with fail)
          refine hK.out _ _ ?_ (fun hHeld => ?_)
          · exact zd
          clear hK K
          try simp only [Act.put, List.getElem_toArray, List.getElem_cons_succ, List.getElem_cons_zero, List.setIfInBounds_toArray, List.set_cons_zero, List.set_cons_succ]
          refine wpAnyH_ready (rs := [6]) (by kernel_rfl) (by simp) ?_
          refine AllReadyH.cons rfl (fun K hK => ?_) AllReadyH.nil
          go_simp
          clear r0 r1
          ((with_reducible refine HT.out.mono ?_); rintro e w4 ⟨s', A', n', cap', bs', rfl, H4⟩)
          have hr4 := HL.out.r.mut H4.out.turn HL.out.far
          have hfar4 := far_ext H4.out.ext HL.out.far HL.out.r.lt
          have hput := Lw.put H4.out.bo hr4 hfar4 HL.out.base
          have hS7 := HC.out _ H4.out.bo.ow.2.1
          have hS10 := HC.out _ hput.bo.ow.2.1
          have HPUT := Lib.hid hput
          have HR4 := Lib.hid hr4
          clear hr4 hfar4 hput
          (try go_wp2_with fail)
          refine hK.out _ _ ?_ (fun hHeld => ?_)
          · exact hS7
          clear hK K
          try simp only [Act.put, List.getElem_toArray, List.getElem_cons_succ, List.getElem_cons_zero, List.setIfInBounds_toArray, List.set_cons_zero, List.set_cons_succ]
          refine wpAnyH_take (i := 7) (v := ?_) rfl (by kernel_rfl) (by kernel_rfl) (by kernel_rfl) (fun _ _ _ h => h) (Or.inl ⟨by rfl, ?_⟩) (by assumption) ?_
          rotate_left
          · intro wq hSw; (try dsimp only at hSw); go_simp; (try with_reducible rfl)
          simp only [Act.put, List.getElem_toArray, List.getElem_cons_succ, List.getElem_cons_zero, List.setIfInBounds_toArray, List.set_cons_zero, List.set_cons_succ]
          refine wpAnyH_take (i := 8) (v := ?_) rfl (by kernel_rfl) (by kernel_rfl) (by kernel_rfl) (fun _ _ _ h => h) (Or.inl ⟨by rfl, ?_⟩) (by assumption) ?_
          rotate_left
          · intro wq hSw; (try dsimp only at hSw); go_simp; (try with_reducible rfl)
          simp only [Act.put, List.getElem_toArray, List.getElem_cons_succ, List.getElem_cons_zero, List.setIfInBounds_toArray, List.set_cons_zero, List.set_cons_succ]
          refine wpAnyH_take (i := 9) (v := ?_) rfl (by kernel_rfl) (by kernel_rfl) (by kernel_rfl) (fun _ _ _ h => h) (Or.inl ⟨by rfl, ?_⟩) (by assumption) ?_
          rotate_left
          · intro wq hSw; (try dsimp only at hSw); go_simp; (try with_reducible rfl)
          simp only [Act.put, List.getElem_toArray, List.getElem_cons_succ, List.getElem_cons_zero, List.setIfInBounds_toArray, List.set_cons_zero, List.set_cons_succ]
          refine wpAnyH_ready (rs := [10]) (by kernel_rfl) (by simp) ?_
          refine AllReadyH.cons rfl (fun K hK => ?_) AllReadyH.nil
          have r0 := HR4.out.cell 0 rfl
          have r1 := HR4.out.cell 1 rfl
          have f0 := HR4.out.free 0
          have f1 := HR4.out.free 1
          go_simp
          (try go_wp2_with fail)
          refine hK.out _ _ ?_ (fun hHeld => ?_)
          · exact hS10
          clear hK K
          try simp only [Act.put, List.getElem_toArray, List.getElem_cons_succ, List.getElem_cons_zero, List.setIfInBounds_toArray, List.set_cons_zero, List.set_cons_succ]
          refine wpAnyH_take (i := 11) (v := ?_) rfl (by kernel_rfl) (by kernel_rfl) (by kernel_rfl) (fun _ _ _ h => h) (Or.inl ⟨by rfl, ?_⟩) (by assumption) ?_
          rotate_left
          · intro wq hSw; (try dsimp only at hSw); go_simp; (try with_reducible rfl)
          simp only [Act.put, List.getElem_toArray, List.getElem_cons_succ, List.getElem_cons_zero, List.setIfInBounds_toArray, List.set_cons_zero, List.set_cons_succ]
          refine wpAnyH_done (by kernel_rfl) ?_ _
          clear hHeld
          clear zd hS7 hS10 r0 r1 f0 f1 H4 HT HL HR4
          generalize (w4.setCell ⟨R, 0, none⟩ (.slice A' n' cap')).setCell ⟨R, 1, none⟩ (.int .i64 (m : Int)) = w9 at HPUT ⊢
          have HF := Lib.hid (own_firstH HPUT.out.bo.ow)
          obtain ⟨⟨fa, fb⟩, hfd⟩ : ∃ t, hd s' = t := ⟨_, rfl⟩
          obtain ⟨fe, hfe⟩ : ∃ t, (!s'.isEmpty) = t := ⟨_, rfl⟩
          have HFD := Lib.hid (show hd s' = (fa, fb) ∧ (!s'.isEmpty) = fe from ⟨hfd, hfe⟩)
          rw [hfd, hfe] at HF
          simp only at HF
          clear hfd hfe
          go_wp2_with fail
          refine HF.out.mono ?_
          rintro e w10 ⟨rfl, hb10⟩
          have hl10 := HPUT.out.later hb10
          obtain ⟨n10, hn10⟩ : ∃ n10, w10.heap.size = n10 := ⟨_, rfl⟩
          have hbx : Below w10.heap.size w10 (w10.alloc (.cells #[.int .i64 fa, .int .i64 fb] 31)) := box_below _
          have hl11 := hl10.later hbx
          have hkt := blk_new w10 #[.int .i64 fa, .int .i64 fb] 31
          rw [hn10] at hkt
          have r0 := hl11.r.cell 0 rfl
          have r1 := hl11.r.cell 1 rfl
          have hrf := refFirst_any (most := m) _ hl11.bo.dc
          rw [HFD.out.1, HFD.out.2] at hrf
          simp only at hrf
          have HRF := Lib.hid hrf
          have HL11 := Lib.hid hl11
          have HKT := Lib.hid hkt
          clear hrf hl11 hkt hl10 hbx hb10 HF HPUT
          go_wp2_with fail
          clear hn10
          generalize w10.alloc (.cells #[.int .i64 fa, .int .i64 fb] 31) = w11 at HRF HL11 HKT ⊢
          refine HRF.out.mono ?_
          rintro e w12 ⟨rfl, hb12⟩
          have hl12 := HL11.out.later hb12
          have hkt12 := HKT.out.same (hb12.block _ HKT.out.lt)
          obtain ⟨n12, hn12⟩ : ∃ n12, w12.heap.size = n12 := ⟨_, rfl⟩
          have hbx : Below w12.heap.size w12 (w12.alloc (.cells #[.int .i64 fa, .int .i64 fb] 31)) := box_below _
          have hl13 := hl12.later hbx
          have hkt13 := hkt12.later hbx
          have hku13 := blk_new w12 #[.int .i64 fa, .int .i64 fb] 31
          rw [hn12] at hku13
          have HL13 := Lib.hid hl13
          have HKT13 := Lib.hid hkt13
          have HKU13 := Lib.hid hku13
          clear hl12 hkt12 hbx hl13 hkt13 hku13 hb12 HL11 HKT r0 r1
          go_wp2_with fail
          clear hn12
          generalize w12.alloc (.cells #[.int .i64 fa, .int .i64 fb] 31) = w13 at HL13 HKT13 HKU13 ⊢
          have HLN : Hid (∀ q, Calls Try.prog 12 #[.pointer (some ⟨S, 0, none⟩)] (w13.drewN q) fun e w' => e = .returned (.int .i64 (n' : Int)) ∧ w13.drewN q = w') := Lib.hid fun q => HL13.out.bo.dc.len ▸ own_len (HL13.out.bo.ow.later (Below.drewN' (Below.refl _ _) q))
          have r0 := HL13.out.r.cell 0 rfl
          have t0 := HKT13.out.cell 0 rfl
          have t1 := HKT13.out.cell 1 rfl
          have v0 := HKU13.out.cell 0 rfl
          have v1 := HKU13.out.cell 1 rfl
          clear HFD HRF
          go_quiet ((go_at_call 12; exact quiet_left (HLN.out _)))
          go_wp2_with fail
          go_roundw
          case rel => exact ⟨j + 1, by omega, by go_num, Lib.hid ⟨_, _, _, _, _, HL13.out.later (Below.drewN' (Below.refl _ _) _)⟩⟩
          case measure => simp [intOf]; omega
        · have dl : decide (j < N) = false := by simp; omega
          have hl := HQ.out
          obtain ⟨s, A, n, cap, bs, hL⟩ := HQ.out
          have r0 := hL.r.cell 0 rfl
          have r1 := hL.r.cell 1 rfl
          have HRD := Lib.hid (refDue_any (most := m) now wr hL.bo.dc hL.bo.ow.1.so.2.1 hL.bo.ow.1.lt)
          have HL := Lib.hid hL
          clear hL HQ hl
          go_wp2_with fail
          refine HRD.out.mono ?_
          rintro e w4 ⟨A', n', cap', A2, n2, cap2, rfl, HQ4⟩
          have hb5 : Below w4.heap.size w4 (w4.alloc (.cells #[.slice A' n' cap', .int .i64 (m : Int)] 40)) := box_below _
          have hdd : Dc (w4.alloc (.cells #[.slice A' n' cap', .int .i64 (m : Int)] 40)) A2 n2 cap2 (dueOf now s) bs := HQ4.out.2.2.later hb5
          have how := (HL.out.bo.ow.later HQ4.out.1).later hb5
          obtain ⟨sd, hsd⟩ : ∃ sd, dueOf now s = sd := ⟨_, rfl⟩
          have hod := own_due now how
          rw [hsd] at hdd hod
          rw [hdd.len] at hod
          have HDD := Lib.hid hdd
          have HOD := Lib.hid hod
          clear hdd hod how hb5 hsd HRD HQ4 r0 r1
          go_wp2_with fail
          generalize w4.alloc (.cells #[.slice A' n' cap', .int .i64 (m : Int)] 40) = w5 at HDD HOD ⊢
          refine HOD.out.mono ?_
          rintro e w6 ⟨Ah, bs6, rfl, H6⟩
          have hd6 := HDD.out.mut H6.out.2.2.1 H6.out.2.2.2
          have HSM := Lib.hid (refSame_any (c1 := n2) (c2 := cap2) w6 H6.out.1 ⟨hd6.len, fun h0 => by
            obtain ⟨g, e, _, _, hc⟩ := hd6.cells h0
            exact ⟨g, 0, e, fun j hj => by rw [Nat.zero_add]; exact hc j hj⟩⟩ hd6.five)
          clear hd6
          go_wp2_with fail
          refine HSM.out.mono ?_
          rintro e w7 ⟨rfl, qd, rfl⟩
          have hB : Below w.heap.size w (w6.drewN qd) := Below.drewN' H6.out.2.1.2.1 _
          have HB := Lib.hid hB
          clear hB
          go_wp2_with fail
          go_ret
          exact ⟨rfl, HB.out⟩
namespace HeapDoes
set_option linter.unusedSimpArgs false in
set_option maxRecDepth 100000 in
theorem lifted (os : Os) (started : os.Started) (H : Type) (enc : TypeId × Value → H) :
    ReturnsInHanded {} Try.checked os 4 .any (Rows.heapDoesSpec.pre6 enc Try.prog Try.f4 Rows.heapDoesRow.domain false) (Rows.heapDoesSpec.post enc Try.prog Try.f4 false true false false) := by
  refine returnsInHanded_of_change (C := Try.checked) own started (by kernel_rfl) Try.func4
    (ChangeSpec.witness6 (enc := enc) (C := Try.checked) false ⟨#[], #[.int .u8 0, .slice none 0 0, .slice none 0 0, .int .i64 0], []⟩ 8 (by kernel_rfl) (by kernel_rfl) (by kernel_rfl) (by kernel_rfl)) ?_
  intro W base args ds gs before hval0 hW _ _
  have hval : ∀ (j : Nat) t v, Try.f4.params[j]? = some t → args[j]? = some v → Value.okWide Try.prog W .any base t v := hval0
  have hW' := hW
  obtain ⟨p, q, hA0, hV, rfl, _, _⟩ := hW
  have hA : DataW.TrodAll enc Try.prog W 0 (fun _ => true) true Try.f4.params.toList args.toList ds p := hA0
  rw [Try.params4] at hA hval
  obtain ⟨v0, vs0, d0, ds0, p0, q0, hargs, rfl, rfl, h0, r0⟩ := trodAll_cons hA
  obtain ⟨v1, vs1, d1, ds1, p1, q1, rfl, rfl, rfl, h1, r1⟩ := trodAll_cons r0
  obtain ⟨v2, vs2, d2, ds2, p2, q2, rfl, rfl, rfl, h2, r2⟩ := trodAll_cons r1
  obtain ⟨v3, vs3, d3, ds3, p3, q3, rfl, rfl, rfl, h3, r3⟩ := trodAll_cons r2
  obtain ⟨rfl, rfl, rfl⟩ := trodAll_nil r3
  obtain rfl : args = #[v0, v1, v2, v3] := by cases args; simp_all
  obtain ⟨rfl, rfl⟩ := trodVars_none hV
  obtain ⟨a0, rfl, rfl, rfl, w0⟩ := open_int Try.underlying5 (hval 0 5 v0 rfl rfl) h0
  have k0 := wf_u8 w0
  obtain ⟨n0, rfl⟩ : ∃ u : UInt8, a0 = (u.toNat : Int) := ⟨UInt8.ofNat a0.toNat, by simp; omega⟩
  obtain ⟨A1, cs1, cap1, rfl, l1, m1, b1⟩ := arg_deeds (hval 1 37 v1 rfl rfl) h1
  obtain ⟨A2, cs2, cap2, rfl, l2, m2, b2⟩ := arg_tms (hval 2 38 v2 rfl rfl) h2
  obtain ⟨a3, rfl, rfl, rfl, w3⟩ := open_int Try.underlying3 (hval 3 3 v3 rfl rfl) h3
  have k3 := wf_i64 w3
  clear hA0 hval0
  simp only [List.append_nil] at hW'
  refine (heapDoes_walk n0 A1 cs1 cap1 A2 cs2 cap2 a3 W b1 l1 b2 l2).mono fun e W' ⟨he, hg⟩ => ?_
  subst he
  exact ⟨_, rfl, true_last hW' rfl (by kernel_rfl) Try.underlying4 rfl rfl rfl (of_decide_eq_true (by kernel_rfl)) hg⟩

/-- **HeapDoes, at every input.** -/
theorem proved : Rows.HeapDoesSaid :=
  OpenClaim.holds_of_wide 4 Try.f4 rfl rfl rfl rfl rfl rfl rfl ⟨rfl, rfl, rfl, rfl, rfl⟩ rfl rfl rfl rfl rfl (by kernel_rfl) Try.func4 (by kernel_rfl)
    (of_decide_eq_true (by kernel_rfl)) (by unfold Func.isWrapper; first | (rw [if_pos (by decide +kernel)]; kernel_rfl) | (rw [if_neg (by decide +kernel)]; exact ⟨rfl, rfl⟩))
    (fun os started H enc _ => lifted os started H enc)
end HeapDoes

end Go.Proofs.Ytlbopajnnbnolaa
