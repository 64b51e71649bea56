/-
  Proved: TailDoes returns true for every three numbers, deeds and time: the buffer does what the document's does. No condition.
-/
import Derived.Test.YthpcnnkdpgjiiaaTlDoesO
import Derived.Test.YthpcnnkdpgjiiaaTlDoesD
import Derived.Test.YthpcnnkdpgjiiaaTlDoesK
import Derived.Test.YthpcnnkdpgjiiaaTlRef2
import Derived.Test.YthpcnnkdpgjiiaaTlBox
import Derived.Test.YthpcnnkdpgjiiaaBytes0
namespace Go.Proofs.Ythpcnnkdpgjiiaa
open Go.ChangeShapes Go.WideShapes Go.ChangeAt Go.RowKit Go.Maps Go.Proofs.HeapMath Go.Proofs.TailMath

/-- What a deed makes of a buffer. -/
def stp (d : De) (t : Int) (b : St) : St :=
  if d.what % 5 ≤ 2 then (offer b t (ofSp d)).1
  else if d.what % 5 = 3 then (if okT b t = true then (dued (at_ b t.toNat) t, dueL t b.L, 0) else (b, [], 60) : St × List Gr × Nat).1
  else decided b (ofSp d).hi (ofSp d).lo (ayOf (d.more % 2 == 0))
theorem stp_came (d : De) (t : Int) (b : St) : (stp d t b).came ≤ b.came + 1 := by
  unfold stp
  split
  · unfold offer
    split
    · split
      · exact Nat.le_succ _
      · split
        · exact Nat.le_succ _
        · exact came_offered _ _
    · exact Nat.le_succ _
  · split
    · split <;> exact Nat.le_succ _
    · exact Nat.le_succ _
theorem does_any (d : De) (t : Int) (hd : d.ok) {w₀ W : World} {S : Nat} {b : St} {bs : List Nat} {r : Rf} (h : Bo w₀ W S b bs r) (hc : b.came ≤ 1000000000) :
    Calls Try.prog 17 #[.pointer (some ⟨S, 0, none⟩), rfV b r, .int .i64 t, .agg #[.int .u8 (d.what : Int), .int .u8 (d.after : Int), .int .u8 (d.trace : Int), .int .u8 (d.more : Int)]] W (DoTo w₀ W S (stp d t b) bs) := by
  unfold stp
  by_cases h1 : d.what % 5 ≤ 2
  · rw [if_pos h1]; exact does_offer d t hd h1 h hc
  · rw [if_neg h1]
    by_cases h3 : d.what % 5 = 3
    · rw [if_pos h3]; exact does_due d t hd h3 h hc
    · rw [if_neg h3]; exact does_decide d t hd (by omega) h hc
/-- Both buffers, and the document's in its box. -/
structure TdI (w W : World) (S gB : Nat) (b : St) (bs : List Nat) (r : Rf) : Prop where
  bo : Bo w W S b bs r
  blk : Blk W gB (rfC b r) 50
  nb : gB ∉ bs
  base : w.heap.size ≤ gB
theorem TdI.later {w W W' : World} {S gB : Nat} {b : St} {bs : List Nat} {r : Rf} (h : TdI w W S gB b bs r) (hb : Below W.heap.size W W') : TdI w W' S gB b bs r := ⟨h.bo.later hb, h.blk.later hb, h.nb, h.base⟩
theorem TdI.next {w W W' : World} {S gB : Nat} {b b' : St} {bs bs' : List Nat} {r r' : Rf} (h : TdI w W S gB b bs r) (hb : Bo w W' S b' bs' r') (hm : Mut bs W W' ∧ Ext W bs bs') : TdI w (W'.setRow gB (rfC b' r')) S gB b' bs' r' ∧ Blk W' gB (rfC b r) 50 := by
  have hk := h.blk.mut hm.1 h.nb
  have hn := hm.2.not h.nb h.blk.lt
  have h1 : Mut [gB] W' (W'.setRow gB (rfC b' r')) := ⟨rfl, rfl, rfl, by simp [World.setRow], fun k _ hk => setRow_other _ _ _ _ (by simpa using hk)⟩
  exact ⟨⟨⟨hb.ob.beside h1 fun k hk => by simp at hk; subst hk; exact ⟨hn, h.base⟩, (hb.rf.box hk).mut (h1.wider (by simp)) fun k hk => .inl (by simp [hk])⟩, setRow_heap _ _ _ _ _ _ hk, hn, h.base⟩, hk⟩

set_option linter.unusedSimpArgs false in
set_option maxRecDepth 100000 in
set_option maxHeartbeats 8000000 in
theorem tailDoes_walk (cs cw cc : UInt8) (A0 : Option Addr) (ls : List De) (cap0 : Nat) (raw : Int) (w : World) (hH : Dds w.heap.size w A0 ls) (hcap : ls.length ≤ cap0) :
    Calls Try.prog 5 #[.int .u8 (cs.toNat : Int), .int .u8 (cw.toNat : Int), .int .u8 (cc.toNat : Int), .slice A0 ls.length cap0, .int .i64 raw] w fun e w' => e = .returned (.bool true) ∧ Below w.heap.size w w' := by
  obtain ⟨N, hN⟩ : ∃ N, ls.length = N := ⟨_, rfl⟩
  rw [hN] at hcap ⊢
  obtain ⟨sp, hsp, hsp1, hsp2⟩ : ∃ m : Nat, (1 : Int) + (cs.toNat : Int) % 12 = (m : Int) ∧ 1 ≤ m ∧ m ≤ 12 := ⟨1 + cs.toNat % 12, by omega, by omega, by omega⟩
  obtain ⟨wt, hwt, hwt1, hwt2⟩ : ∃ m : Nat, (1 : Int) + (cw.toNat : Int) % 9 = (m : Int) ∧ 1 ≤ m ∧ m ≤ 9 := ⟨1 + cw.toNat % 9, by omega, by omega, by omega⟩
  obtain ⟨mo, hmo, hmo1, hmo2⟩ : ∃ m : Nat, (1 : Int) + (cc.toNat : Int) % 4 = (m : Int) ∧ 1 ≤ m ∧ m ≤ 4 := ⟨1 + cc.toNat % 4, by omega, by omega, by omega⟩
  have HKN := Lib.hid (known_any w)
  have HH := Lib.hid hH
  have HN := Lib.hid hN
  clear hH hN
  go_enter Try.func5, Try.ntmps5
  by_cases hlong : 80 < N
  · have t1 : decide ((80 : Int) < (N : Int)) = true := by simp; omega
    go_wp2_with fail
    refine HKN.out.mono ?_
    rintro e w2 ⟨rfl, hb⟩
    have HE := Lib.hid hb
    clear hb
    go_wp2_with fail
    go_ret
    exact ⟨rfl, HE.out⟩
  · have t1 : decide ((80 : Int) < (N : Int)) = false := by simp; omega
    have hN80 : N ≤ 80 := by omega
    clear hlong
    go_wp2_with fail
    refine HKN.out.mono ?_
    rintro e w1 ⟨rfl, hb1⟩
    have HB1 := Lib.hid hb1
    have HNEW := Lib.hid (own_new sp wt mo w1 (by omega) (by omega) (by omega))
    clear hb1
    go_wp2_with fail
    refine HNEW.out.mono ?_
    rintro e w2 ⟨S, bs, rfl, HO⟩
    have HDN := Lib.hid (show Calls Try.prog 16 #[.int .i64 (sp : Int), .int .i64 (wt : Int), .int .i64 (mo : Int)] w2 (fun e w' => e = .returned (.tuple #[.agg #[.int .i64 (sp : Int), .int .i64 (wt : Int), .int .i64 (mo : Int), .int .i64 0, .int .i64 0, .slice none 0 0, .slice none 0 0], .bool true]) ∧ Hid (Below w2.heap.size w2 w')) from refNew_any sp wt mo w2 (by omega) (by omega) (by omega))
    clear HNEW HKN t1
    go_wp2_with fail
    refine HDN.out.mono ?_
    rintro e w3 ⟨rfl, HB3⟩
    obtain ⟨gB, hgB⟩ : ∃ x, w3.heap.size = x := ⟨_, rfl⟩
    have hbk := hgB ▸ blk_new w3 (rfC (new sp wt mo) rf0) 50
    have HST := Lib.hid (show TdI w (w3.alloc (.cells (rfC (new sp wt mo) rf0) 50)) S gB (new sp wt mo) bs rf0 from by
      have ho : Ob w w2 S (new sp wt mo) bs := ⟨HO.out.1, HB1.out.trans (HO.out.2.1.mono HB1.out.size), fun k hk => Nat.le_trans HB1.out.size (HO.out.2.2 k hk)⟩
      have hb : Below w2.heap.size w2 (w3.alloc (.cells (rfC (new sp wt mo) rf0) 50)) := HB3.out.trans ((box_below _).mono HB3.out.size)
      have ho3 := ho.later hb
      exact ⟨⟨ho3, rf0_in _ _ _ _⟩, hbk, fun hm => by have h1 := HO.out.1.lt gB hm; have := HB3.out.size; omega, by have h1 := ho.2.1.size; have := HB3.out.size; omega⟩)
    clear HO HDN HB1 HB3 hbk
    go_wp2_with fail
    go_loopw [15, 14] (fun iv nv wr => ∃ (i now : Nat) (b : St) (bs : List Nat) (A : Option Addr) (n cap : Nat) (B : Option Addr) (m capB : Nat), iv = .int .i64 (i : Int) ∧ nv = .int .i64 (now : Int) ∧ i ≤ N ∧ now ≤ 1099511627776 + 3 * i ∧ b.came ≤ i ∧ Hid (TdI w wr S gB b bs ⟨A, n, cap, B, m, capB⟩)) (fun iv _ _ => N - (intOf iv).toNat)
    case atStart => exact ⟨0, 0, _, bs, none, 0, 0, none, 0, 0, rfl, rfl, by omega, by omega, Nat.le_refl _, HST⟩
    case round =>
      clear HST hsp hwt hmo
      obtain ⟨i, now, b, bs1, A, n, cap, B, m, capB, rfl, rfl, hi, hnow, hcame, HD⟩ := hrel
      by_cases hin : i < N
      · have di : decide ((i : Int) < (N : Int)) = true := by simp; omega
        obtain ⟨b0, o0, rfl, hb0, hc0⟩ := HH.out (by rw [HN.out]; omega)
        obtain ⟨d, hd⟩ : ∃ d, ls.getD i de0 = d := ⟨_, rfl⟩
        have hcl := hc0 i (by rw [HN.out]; exact hin)
        rw [hd] at hcl
        obtain ⟨l0, l1, l2, l3, hok⟩ := hcl
        have HL := Lib.hid (show ∀ W, Below w.heap.size w W → W.cell? ⟨b0, o0 + i * 4, none⟩ = some (.int .u8 (d.what : Int)) ∧ W.cell? ⟨b0, o0 + i * 4 + 1, none⟩ = some (.int .u8 (d.after : Int)) ∧ W.cell? ⟨b0, o0 + i * 4 + 2, none⟩ = some (.int .u8 (d.trace : Int)) ∧ W.cell? ⟨b0, o0 + i * 4 + 3, none⟩ = some (.int .u8 (d.more : Int)) from fun W hW =>
          ⟨(hW.cell (p := ⟨b0, _, none⟩) hb0).trans l0, (hW.cell (p := ⟨b0, _, none⟩) hb0).trans l1, (hW.cell (p := ⟨b0, _, none⟩) hb0).trans l2, (hW.cell (p := ⟨b0, _, none⟩) hb0).trans l3⟩)
        have HOK := Lib.hid hok
        obtain ⟨rr, hr, hr2⟩ : ∃ r : Nat, (d.after : Int) % 4 = (r : Int) ∧ r ≤ 3 := ⟨d.after % 4, by omega, by omega⟩
        obtain ⟨n1, hn1, hn2⟩ : ∃ t : Nat, (now : Int) + (rr : Int) = (t : Int) ∧ t = now + rr := ⟨now + rr, by omega, rfl⟩
        have hn3 : n1 ≤ 1099511627776 + 3 * (i + 1) := by omega
        have hd255 : d.what ≤ 255 ∧ d.after ≤ 255 ∧ d.more ≤ 255 := ⟨hok.1, hok.2.1, hok.2.2.2⟩
        have hdr : Below wr.heap.size wr wr.drew := ⟨rfl, rfl, rfl, Nat.le_refl _, fun _ _ => rfl⟩
        have HDR := Lib.hid (HD.out.later hdr)
        have zd := HL.out wr.drew HDR.out.bo.ob.2.1
        clear l0 l1 l2 l3 hc0 hd hok hn2 hdr
        obtain ⟨c0, c1, c2, c3⟩ := HL.out wr HD.out.bo.ob.2.1
        by_cases h245 : 245 < d.after
        · have e1 : decide ((245 : Int) < (d.after : Int)) = true := by simp; omega
          have e2 : decide ((235 : Int) < (d.after : Int)) = true := by simp; omega
          have e3 : decide ((d.after : Int) ≤ 245) = false := by simp; omega
          obtain ⟨b2, hb2⟩ : ∃ x, stp d raw b = x := ⟨_, rfl⟩
          have hcm2 : b2.came ≤ i + 1 := by have := stp_came d raw b; rw [hb2] at this; omega
          have hdo := does_any d raw HOK.out HDR.out.bo (by omega)
          rw [hb2] at hdo
          have HDO := Lib.hid (show Calls Try.prog 17 #[.pointer (some ⟨S, 0, none⟩), .agg #[.int .i64 (b.sp : Int), .int .i64 (b.wait : Int), .int .i64 (b.most : Int), .int .i64 (b.time : Int), .int .i64 (b.came : Int), .slice A n cap, .slice B m capB], .int .i64 raw, .agg #[.int .u8 (d.what : Int), .int .u8 (d.after : Int), .int .u8 (d.trace : Int), .int .u8 (d.more : Int)]] wr.drew (DoTo w wr.drew S b2 bs1) from hdo)
          have q0 : wr.drew.cell? ⟨gB, 0, none⟩ = some (.int .i64 (b.sp : Int)) := HDR.out.blk.cell 0 rfl
          have q1 : wr.drew.cell? ⟨gB, 1, none⟩ = some (.int .i64 (b.wait : Int)) := HDR.out.blk.cell 1 rfl
          have q2 : wr.drew.cell? ⟨gB, 2, none⟩ = some (.int .i64 (b.most : Int)) := HDR.out.blk.cell 2 rfl
          have q3 : wr.drew.cell? ⟨gB, 3, none⟩ = some (.int .i64 (b.time : Int)) := HDR.out.blk.cell 3 rfl
          have q4 : wr.drew.cell? ⟨gB, 4, none⟩ = some (.int .i64 (b.came : Int)) := HDR.out.blk.cell 4 rfl
          have q5 : wr.drew.cell? ⟨gB, 5, none⟩ = some (.slice A n cap) := HDR.out.blk.cell 5 rfl
          have q6 : wr.drew.cell? ⟨gB, 6, none⟩ = some (.slice B m capB) := HDR.out.blk.cell 6 rfl
          clear hdo
          go_wp2_with fail
          refine wp_region_held_drew (S := fun W => W.cell? ⟨b0, o0 + i * 4, none⟩ = some (.int .u8 (d.what : Int)) ∧ W.cell? ⟨b0, o0 + i * 4 + 1, none⟩ = some (.int .u8 (d.after : Int)) ∧ W.cell? ⟨b0, o0 + i * 4 + 2, none⟩ = some (.int .u8 (d.trace : Int)) ∧ W.cell? ⟨b0, o0 + i * 4 + 3, none⟩ = some (.int .u8 (d.more : Int))) (by kernel_rfl) ?_ (fun hHeld => ?_)
          · exact zd
          refine wpAnyH_take (i := 0) (v := ?_) rfl (by kernel_rfl) (by kernel_rfl) (by kernel_rfl) (fun _ _ _ h => h) (Or.inl ⟨by rfl, ?_⟩) (by assumption) ?_
          rotate_left
          · intro wq hSw; (try dsimp only at hSw); go_simp; (try with_reducible rfl)
          simp only [Act.put, List.getElem_toArray, List.getElem_cons_succ, List.getElem_cons_zero, List.setIfInBounds_toArray, List.set_cons_zero, List.set_cons_succ]
          refine wpAnyH_take (i := 2) (v := ?_) rfl (by kernel_rfl) (by kernel_rfl) (by kernel_rfl) (fun _ _ _ h => h) (Or.inl ⟨by rfl, ?_⟩) (by assumption) ?_
          rotate_left
          · intro wq hSw; (try dsimp only at hSw); go_simp; (try with_reducible rfl)
          simp only [Act.put, List.getElem_toArray, List.getElem_cons_succ, List.getElem_cons_zero, List.setIfInBounds_toArray, List.set_cons_zero, List.set_cons_succ]
          refine wpAnyH_take (i := 3) (v := ?_) rfl (by kernel_rfl) (by kernel_rfl) (by kernel_rfl) (fun _ _ _ h => h) (Or.inl ⟨by rfl, ?_⟩) (by assumption) ?_
          rotate_left
          · intro wq hSw; (try dsimp only at hSw); go_simp; (try with_reducible rfl)
          simp only [Act.put, List.getElem_toArray, List.getElem_cons_succ, List.getElem_cons_zero, List.setIfInBounds_toArray, List.set_cons_zero, List.set_cons_succ]
          refine wpAnyH_take (i := 4) (v := ?_) rfl (by kernel_rfl) (by kernel_rfl) (by kernel_rfl) (fun _ _ _ h => h) (Or.inl ⟨by rfl, ?_⟩) (by assumption) ?_
          rotate_left
          · intro wq hSw; (try dsimp only at hSw); go_simp; (try with_reducible rfl)
          simp only [Act.put, List.getElem_toArray, List.getElem_cons_succ, List.getElem_cons_zero, List.setIfInBounds_toArray, List.set_cons_zero, List.set_cons_succ]
          refine wpAnyH_take (i := 5) (v := ?_) rfl (by kernel_rfl) (by kernel_rfl) (by kernel_rfl) (fun _ _ _ h => h) (Or.inl ⟨by rfl, ?_⟩) (by assumption) ?_
          rotate_left
          · intro wq hSw; (try dsimp only at hSw); go_simp; (try with_reducible rfl)
          simp only [Act.put, List.getElem_toArray, List.getElem_cons_succ, List.getElem_cons_zero, List.setIfInBounds_toArray, List.set_cons_zero, List.set_cons_succ]
          refine wpAnyH_take (i := 6) (v := ?_) rfl (by kernel_rfl) (by kernel_rfl) (by kernel_rfl) (fun _ _ _ h => h) (Or.inl ⟨by rfl, ?_⟩) (by assumption) ?_
          rotate_left
          · intro wq hSw; (try dsimp only at hSw); obtain ⟨u0, u1, u2, u3⟩ := hSw; go_simp; (try with_reducible rfl)
          simp only [Act.put, List.getElem_toArray, List.getElem_cons_succ, List.getElem_cons_zero, List.setIfInBounds_toArray, List.set_cons_zero, List.set_cons_succ]
          refine wpAnyH_ready (rs := [1]) (by kernel_rfl) (by simp) ?_
          refine AllReadyH.cons rfl (fun K hK => ?_) AllReadyH.nil
          go_simp
          (try go_wp2_with fail)
          refine hK.out _ _ ?_ (fun hHeld => ?_)
          · exact zd
          clear hK K
          try simp only [Act.put, List.getElem_toArray, List.getElem_cons_succ, List.getElem_cons_zero, List.setIfInBounds_toArray, List.set_cons_zero, List.set_cons_succ]
          refine wpAnyH_ready (rs := [7]) (by kernel_rfl) (by simp) ?_
          refine AllReadyH.cons rfl (fun K hK => ?_) AllReadyH.nil
          go_simp
          ((with_reducible refine HDO.out.mono ?_); rintro e w4 ⟨r', bs2, rfl, HB4, HM4⟩)
          obtain ⟨A', n', cap', B', m', capB'⟩ := r'
          have hnx := HDR.out.next HB4.out HM4.out
          have HNX := Lib.hid hnx
          have hS7 := HL.out w4 HB4.out.ob.2.1
          clear hnx
          (try go_wp2_with fail)
          refine hK.out _ _ ?_ (fun hHeld => ?_)
          · exact hS7
          clear hK K
          try simp only [Act.put, List.getElem_toArray, List.getElem_cons_succ, List.getElem_cons_zero, List.setIfInBounds_toArray, List.set_cons_zero, List.set_cons_succ]
          refine wpAnyH_take (i := 8) (v := ?_) rfl (by kernel_rfl) (by kernel_rfl) (by kernel_rfl) (fun _ _ _ h => h) (Or.inl ⟨by rfl, ?_⟩) (by assumption) ?_
          rotate_left
          · intro wq hSw; (try dsimp only at hSw); go_simp; (try with_reducible rfl)
          simp only [Act.put, List.getElem_toArray, List.getElem_cons_succ, List.getElem_cons_zero, List.setIfInBounds_toArray, List.set_cons_zero, List.set_cons_succ]
          refine wpAnyH_take (i := 9) (v := ?_) rfl (by kernel_rfl) (by kernel_rfl) (by kernel_rfl) (fun _ _ _ h => h) (Or.inl ⟨by rfl, ?_⟩) (by assumption) ?_
          rotate_left
          · intro wq hSw; (try dsimp only at hSw); go_simp; (try with_reducible rfl)
          simp only [Act.put, List.getElem_toArray, List.getElem_cons_succ, List.getElem_cons_zero, List.setIfInBounds_toArray, List.set_cons_zero, List.set_cons_succ]
          refine wpAnyH_take (i := 10) (v := ?_) rfl (by kernel_rfl) (by kernel_rfl) (by kernel_rfl) (fun _ _ _ h => h) (Or.inl ⟨by rfl, ?_⟩) (by assumption) ?_
          rotate_left
          · intro wq hSw; (try dsimp only at hSw); go_simp; (try with_reducible rfl)
          simp only [Act.put, List.getElem_toArray, List.getElem_cons_succ, List.getElem_cons_zero, List.setIfInBounds_toArray, List.set_cons_zero, List.set_cons_succ]
          refine wpAnyH_ready (rs := [11]) (by kernel_rfl) (by simp) ?_
          refine AllReadyH.cons rfl (fun K hK => ?_) AllReadyH.nil
          have hS11 := HL.out (w4.setRow gB (rfC b2 ⟨A', n', cap', B', m', capB'⟩)) HNX.out.1.bo.ob.2.1
          refine wp_store_row 50 (.tmp 12) _ rfl gB (rfC b2 ⟨A', n', cap', B', m', capB'⟩) (by with_unfolding_all exact rfl) (by with_unfolding_all exact rfl) 50 (rfC b ⟨A, n, cap, B, m, capB⟩) (by with_unfolding_all exact HNX.out.2) (by kernel_rfl) (by with_unfolding_all exact rfl) (rfC_one _ _) ?_
          refine hK.out _ _ ?_ (fun hHeld => ?_)
          · exact hS11
          clear hK K
          try simp only [Act.put, List.getElem_toArray, List.getElem_cons_succ, List.getElem_cons_zero, List.setIfInBounds_toArray, List.set_cons_zero, List.set_cons_succ]
          refine wpAnyH_take (i := 12) (v := ?_) rfl (by kernel_rfl) (by kernel_rfl) (by kernel_rfl) (fun _ _ _ h => h) (Or.inl ⟨by rfl, ?_⟩) (by assumption) ?_
          rotate_left
          · intro wq hSw; (try dsimp only at hSw); go_simp; (try with_reducible rfl)
          simp only [Act.put, List.getElem_toArray, List.getElem_cons_succ, List.getElem_cons_zero, List.setIfInBounds_toArray, List.set_cons_zero, List.set_cons_succ]
          refine wpAnyH_done (by kernel_rfl) ?_ _
          clear hHeld
          have HT5 := Lib.hid HNX.out.1
          clear zd hS7 hS11 HNX HB4 HM4 HDO HDR HD q0 q1 q2 q3 q4 q5 q6 c0 c1 c2 c3 h245 e1 e2 e3
          generalize w4.setRow gB (rfC b2 ⟨A', n', cap', B', m', capB'⟩) = w5 at HT5 ⊢
          have hv5 := HT5.out.bo.ob.1.iv
          have hl5 := HT5.out.bo.lens
          obtain ⟨⟨nx, nb⟩, hnx⟩ : ∃ x, nextOf b2.L = x := ⟨_, rfl⟩
          obtain ⟨M, hM⟩ : ∃ M, TailMath.tot b2.L = M := ⟨_, rfl⟩
          have hM5 : M ≤ 5000 := by have h1 := hv5.tot; have h2 := hv5.sp; omega
          have htm : b2.time ≤ 1099511627776 := hv5.time
          have h1 := next_any w5 HT5.out.bo.ob.1
          rw [hnx] at h1
          have HN1 := Lib.hid (show Calls Try.prog 18 #[.pointer (some ⟨S, 0, none⟩)] w5 (fun e w' => e = .returned (.tuple #[.int .i64 (nx : Int), .bool nb]) ∧ Below w5.heap.size w5 w') from h1)
          have HSO := Lib.hid (show b2.L.Pairwise (fun a b => a.due ≤ b.due) from hv5.L.so.imp fun h => h.2)
          have HNX := Lib.hid (And.intro hnx (And.intro hM hl5))
          clear h1 hv5 hl5 hnx hM
          go_wp2_with fail
          refine HN1.out.mono ?_
          rintro e w6 ⟨rfl, hb6⟩
          have HT6 := Lib.hid (HT5.out.later hb6)
          have q0 : w6.cell? ⟨gB, 0, none⟩ = some (.int .i64 (b2.sp : Int)) := HT6.out.blk.cell 0 rfl
          have q1 : w6.cell? ⟨gB, 1, none⟩ = some (.int .i64 (b2.wait : Int)) := HT6.out.blk.cell 1 rfl
          have q2 : w6.cell? ⟨gB, 2, none⟩ = some (.int .i64 (b2.most : Int)) := HT6.out.blk.cell 2 rfl
          have q3 : w6.cell? ⟨gB, 3, none⟩ = some (.int .i64 (b2.time : Int)) := HT6.out.blk.cell 3 rfl
          have q4 : w6.cell? ⟨gB, 4, none⟩ = some (.int .i64 (b2.came : Int)) := HT6.out.blk.cell 4 rfl
          have q5 : w6.cell? ⟨gB, 5, none⟩ = some (.slice A' n' cap') := HT6.out.blk.cell 5 rfl
          have q6 : w6.cell? ⟨gB, 6, none⟩ = some (.slice B' m' capB') := HT6.out.blk.cell 6 rfl
          have h2 := refNext_any w6 b2 ⟨A', n', cap', B', m', capB'⟩ HT6.out.bo.rf HSO.out HNX.out.2.2.1
          rw [HNX.out.1] at h2
          have HN2 := Lib.hid (show Calls Try.prog 19 #[.agg #[.int .i64 (b2.sp : Int), .int .i64 (b2.wait : Int), .int .i64 (b2.most : Int), .int .i64 (b2.time : Int), .int .i64 (b2.came : Int), .slice A' n' cap', .slice B' m' capB']] w6 (fun e w' => e = .returned (.tuple #[.int .i64 (nx : Int), .bool nb]) ∧ Hid (Below w6.heap.size w6 w')) from h2)
          clear HN1 h2 hb6 HT5
          go_wp2_with fail
          refine HN2.out.mono ?_
          rintro e w7 ⟨rfl, HB7⟩
          clear q0 q1 q2 q3 q4 q5 q6 HN2
          have hdr7 : Below w7.heap.size w7 w7.drew := ⟨rfl, rfl, rfl, Nat.le_refl _, fun _ _ => rfl⟩
          have HT8 := Lib.hid ((HT6.out.later HB7.out).later hdr7)
          have HLN1 := Lib.hid (own_len HT8.out.bo.ob M HNX.out.2.1)
          have HLN2 := Lib.hid (show Calls Try.prog 20 #[.agg #[.int .i64 (b2.sp : Int), .int .i64 (b2.wait : Int), .int .i64 (b2.most : Int), .int .i64 (b2.time : Int), .int .i64 (b2.came : Int), .slice A' n' cap', .slice B' m' capB']] w7.drew _ from refLen_any w7.drew b2 ⟨A', n', cap', B', m', capB'⟩ HT8.out.bo.rf M HNX.out.2.1 hM5 HNX.out.2.2.1)
          have hbd := HT8.out.blk
          have bx : ((nx : Int) != (nx : Int)) = false := by simp
          have bM : ((M : Int) != (M : Int)) = false := by simp
          clear HT6 HB7 hdr7 HSO
          cases nb
          all_goals
            go_wp2_with fail
            refine wp_region_held_drew (S := fun W => Blk W gB (rfC b2 ⟨A', n', cap', B', m', capB'⟩) 50) (by kernel_rfl) ?_ (fun hHeld => ?_)
            · exact hbd
            refine wpAnyH_take (i := 0) (v := ?_) rfl (by kernel_rfl) (by kernel_rfl) (by kernel_rfl) (fun _ _ _ h => h) (Or.inl ⟨by rfl, ?_⟩) (by assumption) ?_
            rotate_left
            · intro wq hSw; (try dsimp only at hSw); go_simp; (try with_reducible rfl)
            simp only [Act.put, List.getElem_toArray, List.getElem_cons_succ, List.getElem_cons_zero, List.setIfInBounds_toArray, List.set_cons_zero, List.set_cons_succ]
            refine wpAnyH_take (i := 1) (v := ?_) rfl (by kernel_rfl) (by kernel_rfl) (by kernel_rfl) (fun _ _ _ h => h) (Or.inl ⟨by rfl, ?_⟩) (by assumption) ?_
            rotate_left
            · intro wq hSw; (try dsimp only at hSw); go_simp; (try with_reducible rfl)
            simp only [Act.put, List.getElem_toArray, List.getElem_cons_succ, List.getElem_cons_zero, List.setIfInBounds_toArray, List.set_cons_zero, List.set_cons_succ]
            refine wpAnyH_take (i := 2) (v := ?_) rfl (by kernel_rfl) (by kernel_rfl) (by kernel_rfl) (fun _ _ _ h => h) (Or.inl ⟨by rfl, ?_⟩) (by assumption) ?_
            rotate_left
            · intro wq hSw; (try dsimp only at hSw); go_simp; (try with_reducible rfl)
            simp only [Act.put, List.getElem_toArray, List.getElem_cons_succ, List.getElem_cons_zero, List.setIfInBounds_toArray, List.set_cons_zero, List.set_cons_succ]
            refine wpAnyH_take (i := 3) (v := ?_) rfl (by kernel_rfl) (by kernel_rfl) (by kernel_rfl) (fun _ _ _ h => h) (Or.inl ⟨by rfl, ?_⟩) (by assumption) ?_
            rotate_left
            · intro wq hSw; (try dsimp only at hSw); go_simp; (try with_reducible rfl)
            simp only [Act.put, List.getElem_toArray, List.getElem_cons_succ, List.getElem_cons_zero, List.setIfInBounds_toArray, List.set_cons_zero, List.set_cons_succ]
            refine wpAnyH_take (i := 4) (v := ?_) rfl (by kernel_rfl) (by kernel_rfl) (by kernel_rfl) (fun _ _ _ h => h) (Or.inl ⟨by rfl, ?_⟩) (by assumption) ?_
            rotate_left
            · intro wq hSw; (try dsimp only at hSw); go_simp; (try with_reducible rfl)
            simp only [Act.put, List.getElem_toArray, List.getElem_cons_succ, List.getElem_cons_zero, List.setIfInBounds_toArray, List.set_cons_zero, List.set_cons_succ]
            refine wpAnyH_take (i := 5) (v := ?_) rfl (by kernel_rfl) (by kernel_rfl) (by kernel_rfl) (fun _ _ _ h => h) (Or.inl ⟨by rfl, ?_⟩) (by assumption) ?_
            rotate_left
            · intro wq hSw; (try dsimp only at hSw); go_simp; (try with_reducible rfl)
            simp only [Act.put, List.getElem_toArray, List.getElem_cons_succ, List.getElem_cons_zero, List.setIfInBounds_toArray, List.set_cons_zero, List.set_cons_succ]
            refine wpAnyH_take (i := 6) (v := ?_) rfl (by kernel_rfl) (by kernel_rfl) (by kernel_rfl) (fun _ _ _ h => h) (Or.inl ⟨by rfl, ?_⟩) (by assumption) ?_
            rotate_left
            · intro wq hSw; (try dsimp only at hSw); go_simp; (try with_reducible rfl)
            simp only [Act.put, List.getElem_toArray, List.getElem_cons_succ, List.getElem_cons_zero, List.setIfInBounds_toArray, List.set_cons_zero, List.set_cons_succ]
            refine wpAnyH_take (i := 7) (v := ?_) rfl (by kernel_rfl) (by kernel_rfl) (by kernel_rfl) (fun _ _ _ h => h) (Or.inl ⟨by rfl, ?_⟩) (by assumption) ?_
            rotate_left
            · intro wq hSw; (try dsimp only at hSw); go_simp; (try with_reducible rfl)
            simp only [Act.put, List.getElem_toArray, List.getElem_cons_succ, List.getElem_cons_zero, List.setIfInBounds_toArray, List.set_cons_zero, List.set_cons_succ]
            refine wpAnyH_take (i := 8) (v := ?_) rfl (by kernel_rfl) (by kernel_rfl) (by kernel_rfl) (fun _ _ _ h => h) (Or.inl ⟨by rfl, ?_⟩) (by assumption) ?_
            rotate_left
            · intro wq hSw; (try dsimp only at hSw); go_simp; (try with_reducible rfl)
            simp only [Act.put, List.getElem_toArray, List.getElem_cons_succ, List.getElem_cons_zero, List.setIfInBounds_toArray, List.set_cons_zero, List.set_cons_succ]
            refine wpAnyH_take (i := 9) (v := ?_) rfl (by kernel_rfl) (by kernel_rfl) (by kernel_rfl) (fun _ _ _ h => h) (Or.inl ⟨by rfl, ?_⟩) (by assumption) ?_
            rotate_left
            · intro wq hSw; (try dsimp only at hSw); go_simp; (try with_reducible rfl)
            simp only [Act.put, List.getElem_toArray, List.getElem_cons_succ, List.getElem_cons_zero, List.setIfInBounds_toArray, List.set_cons_zero, List.set_cons_succ]
            refine wpAnyH_take (i := 10) (v := ?_) rfl (by kernel_rfl) (by kernel_rfl) (by kernel_rfl) (fun _ _ _ h => h) (Or.inl ⟨by rfl, ?_⟩) (by assumption) ?_
            rotate_left
            · intro wq hSw; (try dsimp only at hSw); go_simp; (try with_reducible rfl)
            simp only [Act.put, List.getElem_toArray, List.getElem_cons_succ, List.getElem_cons_zero, List.setIfInBounds_toArray, List.set_cons_zero, List.set_cons_succ]
            refine wpAnyH_take (i := 11) (v := ?_) rfl (by kernel_rfl) (by kernel_rfl) (by kernel_rfl) (fun _ _ _ h => h) (Or.inl ⟨by rfl, ?_⟩) (by assumption) ?_
            rotate_left
            · intro wq hSw; (try dsimp only at hSw); go_simp; (try with_reducible rfl)
            simp only [Act.put, List.getElem_toArray, List.getElem_cons_succ, List.getElem_cons_zero, List.setIfInBounds_toArray, List.set_cons_zero, List.set_cons_succ]
            refine wpAnyH_take (i := 12) (v := ?_) rfl (by kernel_rfl) (by kernel_rfl) (by kernel_rfl) (fun _ _ _ h => h) (Or.inl ⟨by rfl, ?_⟩) (by assumption) ?_
            rotate_left
            · intro wq hSw; (try dsimp only at hSw); go_simp; (try with_reducible rfl)
            simp only [Act.put, List.getElem_toArray, List.getElem_cons_succ, List.getElem_cons_zero, List.setIfInBounds_toArray, List.set_cons_zero, List.set_cons_succ]
            refine wpAnyH_take (i := 13) (v := ?_) rfl (by kernel_rfl) (by kernel_rfl) (by kernel_rfl) (fun _ _ _ h => h) (Or.inl ⟨by rfl, ?_⟩) (by assumption) ?_
            rotate_left
            · intro wq hSw; (try dsimp only at hSw); go_simp; (try with_reducible rfl)
            simp only [Act.put, List.getElem_toArray, List.getElem_cons_succ, List.getElem_cons_zero, List.setIfInBounds_toArray, List.set_cons_zero, List.set_cons_succ]
            refine wpAnyH_take (i := 15) (v := ?_) rfl (by kernel_rfl) (by kernel_rfl) (by kernel_rfl) (fun _ _ _ h => h) (Or.inl ⟨by rfl, ?_⟩) (by assumption) ?_
            rotate_left
            · intro wq hSw; (try dsimp only at hSw); have z0 : wq.cell? ⟨gB, 0, none⟩ = some (.int .i64 (b2.sp : Int)) := Blk.cell hSw 0 rfl; have z1 : wq.cell? ⟨gB, 1, none⟩ = some (.int .i64 (b2.wait : Int)) := Blk.cell hSw 1 rfl; have z2 : wq.cell? ⟨gB, 2, none⟩ = some (.int .i64 (b2.most : Int)) := Blk.cell hSw 2 rfl; have z3 : wq.cell? ⟨gB, 3, none⟩ = some (.int .i64 (b2.time : Int)) := Blk.cell hSw 3 rfl; have z4 : wq.cell? ⟨gB, 4, none⟩ = some (.int .i64 (b2.came : Int)) := Blk.cell hSw 4 rfl; have z5 : wq.cell? ⟨gB, 5, none⟩ = some (.slice A' n' cap') := Blk.cell hSw 5 rfl; have z6 : wq.cell? ⟨gB, 6, none⟩ = some (.slice B' m' capB') := Blk.cell hSw 6 rfl; go_simp; (try with_reducible rfl)
            simp only [Act.put, List.getElem_toArray, List.getElem_cons_succ, List.getElem_cons_zero, List.setIfInBounds_toArray, List.set_cons_zero, List.set_cons_succ]
            refine wpAnyH_ready (rs := [14]) (by kernel_rfl) (by simp) ?_
            refine AllReadyH.cons rfl (fun K hK => ?_) AllReadyH.nil
            go_simp
            refine HLN1.out.mono ?_
            rintro e w8 ⟨rfl, rfl⟩
            have y14 := hbd
            (try go_wp2_with fail)
            refine hK.out _ _ ?_ (fun hHeld => ?_)
            · exact y14
            clear hK K
            try simp only [Act.put, List.getElem_toArray, List.getElem_cons_succ, List.getElem_cons_zero, List.setIfInBounds_toArray, List.set_cons_zero, List.set_cons_succ]
            refine wpAnyH_ready (rs := [16]) (by kernel_rfl) (by simp) ?_
            refine AllReadyH.cons rfl (fun K hK => ?_) AllReadyH.nil
            go_simp
            refine HLN2.out.mono ?_
            rintro e w9 ⟨rfl, HB9⟩
            have y16 : Blk w9 gB (rfC b2 ⟨A', n', cap', B', m', capB'⟩) 50 := hbd.later HB9.out
            (try go_wp2_with fail)
            refine hK.out _ _ ?_ (fun hHeld => ?_)
            · exact y16
            clear hK K
            try simp only [Act.put, List.getElem_toArray, List.getElem_cons_succ, List.getElem_cons_zero, List.setIfInBounds_toArray, List.set_cons_zero, List.set_cons_succ]
            refine wpAnyH_take (i := 17) (v := ?_) rfl (by kernel_rfl) (by kernel_rfl) (by kernel_rfl) (fun _ _ _ h => h) (Or.inl ⟨by rfl, ?_⟩) (by assumption) ?_
            rotate_left
            · intro wq hSw; (try dsimp only at hSw); go_simp; (try with_reducible rfl)
            simp only [Act.put, List.getElem_toArray, List.getElem_cons_succ, List.getElem_cons_zero, List.setIfInBounds_toArray, List.set_cons_zero, List.set_cons_succ]
            refine wpAnyH_take (i := 18) (v := ?_) rfl (by kernel_rfl) (by kernel_rfl) (by kernel_rfl) (fun _ _ _ h => h) (Or.inl ⟨by rfl, ?_⟩) (by assumption) ?_
            rotate_left
            · intro wq hSw; (try dsimp only at hSw); go_simp; (try with_reducible rfl)
            simp only [Act.put, List.getElem_toArray, List.getElem_cons_succ, List.getElem_cons_zero, List.setIfInBounds_toArray, List.set_cons_zero, List.set_cons_succ]
            refine wpAnyH_done (by kernel_rfl) ?_ _
            clear hHeld
            have HT9 := Lib.hid (HT8.out.later HB9.out)
            have z3 : w9.cell? ⟨gB, 3, none⟩ = some (.int .i64 (b2.time : Int)) := y16.cell 3 rfl
            clear HT8 HLN1 HLN2 hbd HB9 y14 y16
            go_wp2_with fail
            go_roundw
            case rel => exact ⟨i + 1, max n1 b2.time, b2, bs2, A', n', cap', B', m', capB', by simp, by (simp; split <;> omega), by omega, by omega, hcm2, HT9⟩
            case measure => simp [intOf]; omega
        · have e1 : decide ((245 : Int) < (d.after : Int)) = false := by simp; omega
          have e3 : decide ((d.after : Int) ≤ 245) = true := by simp; omega
          by_cases h235 : 235 < d.after
          · have e2 : decide ((235 : Int) < (d.after : Int)) = true := by simp; omega
            obtain ⟨t, ht⟩ : ∃ t : Int, (n1 : Int) - 3 = t := ⟨_, rfl⟩
            obtain ⟨b2, hb2⟩ : ∃ x, stp d t b = x := ⟨_, rfl⟩
            have hcm2 : b2.came ≤ i + 1 := by have := stp_came d t b; rw [hb2] at this; omega
            have hdo := does_any d t HOK.out HDR.out.bo (by omega)
            rw [hb2] at hdo
            have HDO := Lib.hid (show Calls Try.prog 17 #[.pointer (some ⟨S, 0, none⟩), .agg #[.int .i64 (b.sp : Int), .int .i64 (b.wait : Int), .int .i64 (b.most : Int), .int .i64 (b.time : Int), .int .i64 (b.came : Int), .slice A n cap, .slice B m capB], .int .i64 t, .agg #[.int .u8 (d.what : Int), .int .u8 (d.after : Int), .int .u8 (d.trace : Int), .int .u8 (d.more : Int)]] wr.drew (DoTo w wr.drew S b2 bs1) from hdo)
            have q0 : wr.drew.cell? ⟨gB, 0, none⟩ = some (.int .i64 (b.sp : Int)) := HDR.out.blk.cell 0 rfl
            have q1 : wr.drew.cell? ⟨gB, 1, none⟩ = some (.int .i64 (b.wait : Int)) := HDR.out.blk.cell 1 rfl
            have q2 : wr.drew.cell? ⟨gB, 2, none⟩ = some (.int .i64 (b.most : Int)) := HDR.out.blk.cell 2 rfl
            have q3 : wr.drew.cell? ⟨gB, 3, none⟩ = some (.int .i64 (b.time : Int)) := HDR.out.blk.cell 3 rfl
            have q4 : wr.drew.cell? ⟨gB, 4, none⟩ = some (.int .i64 (b.came : Int)) := HDR.out.blk.cell 4 rfl
            have q5 : wr.drew.cell? ⟨gB, 5, none⟩ = some (.slice A n cap) := HDR.out.blk.cell 5 rfl
            have q6 : wr.drew.cell? ⟨gB, 6, none⟩ = some (.slice B m capB) := HDR.out.blk.cell 6 rfl
            clear hdo
            go_wp2_with fail
            refine wp_region_held_drew (S := fun W => W.cell? ⟨b0, o0 + i * 4, none⟩ = some (.int .u8 (d.what : Int)) ∧ W.cell? ⟨b0, o0 + i * 4 + 1, none⟩ = some (.int .u8 (d.after : Int)) ∧ W.cell? ⟨b0, o0 + i * 4 + 2, none⟩ = some (.int .u8 (d.trace : Int)) ∧ W.cell? ⟨b0, o0 + i * 4 + 3, none⟩ = some (.int .u8 (d.more : Int))) (by kernel_rfl) ?_ (fun hHeld => ?_)
            · exact zd
            refine wpAnyH_take (i := 0) (v := ?_) rfl (by kernel_rfl) (by kernel_rfl) (by kernel_rfl) (fun _ _ _ h => h) (Or.inl ⟨by rfl, ?_⟩) (by assumption) ?_
            rotate_left
            · intro wq hSw; (try dsimp only at hSw); go_simp; (try with_reducible rfl)
            simp only [Act.put, List.getElem_toArray, List.getElem_cons_succ, List.getElem_cons_zero, List.setIfInBounds_toArray, List.set_cons_zero, List.set_cons_succ]
            refine wpAnyH_take (i := 2) (v := ?_) rfl (by kernel_rfl) (by kernel_rfl) (by kernel_rfl) (fun _ _ _ h => h) (Or.inl ⟨by rfl, ?_⟩) (by assumption) ?_
            rotate_left
            · intro wq hSw; (try dsimp only at hSw); go_simp; (try with_reducible rfl)
            simp only [Act.put, List.getElem_toArray, List.getElem_cons_succ, List.getElem_cons_zero, List.setIfInBounds_toArray, List.set_cons_zero, List.set_cons_succ]
            refine wpAnyH_take (i := 3) (v := ?_) rfl (by kernel_rfl) (by kernel_rfl) (by kernel_rfl) (fun _ _ _ h => h) (Or.inl ⟨by rfl, ?_⟩) (by assumption) ?_
            rotate_left
            · intro wq hSw; (try dsimp only at hSw); go_simp; (try with_reducible rfl)
            simp only [Act.put, List.getElem_toArray, List.getElem_cons_succ, List.getElem_cons_zero, List.setIfInBounds_toArray, List.set_cons_zero, List.set_cons_succ]
            refine wpAnyH_take (i := 4) (v := ?_) rfl (by kernel_rfl) (by kernel_rfl) (by kernel_rfl) (fun _ _ _ h => h) (Or.inl ⟨by rfl, ?_⟩) (by assumption) ?_
            rotate_left
            · intro wq hSw; (try dsimp only at hSw); go_simp; (try with_reducible rfl)
            simp only [Act.put, List.getElem_toArray, List.getElem_cons_succ, List.getElem_cons_zero, List.setIfInBounds_toArray, List.set_cons_zero, List.set_cons_succ]
            refine wpAnyH_take (i := 5) (v := ?_) rfl (by kernel_rfl) (by kernel_rfl) (by kernel_rfl) (fun _ _ _ h => h) (Or.inl ⟨by rfl, ?_⟩) (by assumption) ?_
            rotate_left
            · intro wq hSw; (try dsimp only at hSw); go_simp; (try with_reducible rfl)
            simp only [Act.put, List.getElem_toArray, List.getElem_cons_succ, List.getElem_cons_zero, List.setIfInBounds_toArray, List.set_cons_zero, List.set_cons_succ]
            refine wpAnyH_take (i := 6) (v := ?_) rfl (by kernel_rfl) (by kernel_rfl) (by kernel_rfl) (fun _ _ _ h => h) (Or.inl ⟨by rfl, ?_⟩) (by assumption) ?_
            rotate_left
            · intro wq hSw; (try dsimp only at hSw); obtain ⟨u0, u1, u2, u3⟩ := hSw; go_simp; (try with_reducible rfl)
            simp only [Act.put, List.getElem_toArray, List.getElem_cons_succ, List.getElem_cons_zero, List.setIfInBounds_toArray, List.set_cons_zero, List.set_cons_succ]
            refine wpAnyH_ready (rs := [1]) (by kernel_rfl) (by simp) ?_
            refine AllReadyH.cons rfl (fun K hK => ?_) AllReadyH.nil
            go_simp
            (try go_wp2_with fail)
            refine hK.out _ _ ?_ (fun hHeld => ?_)
            · exact zd
            clear hK K
            try simp only [Act.put, List.getElem_toArray, List.getElem_cons_succ, List.getElem_cons_zero, List.setIfInBounds_toArray, List.set_cons_zero, List.set_cons_succ]
            refine wpAnyH_ready (rs := [7]) (by kernel_rfl) (by simp) ?_
            refine AllReadyH.cons rfl (fun K hK => ?_) AllReadyH.nil
            go_simp
            ((with_reducible refine HDO.out.mono ?_); rintro e w4 ⟨r', bs2, rfl, HB4, HM4⟩)
            obtain ⟨A', n', cap', B', m', capB'⟩ := r'
            have hnx := HDR.out.next HB4.out HM4.out
            have HNX := Lib.hid hnx
            have hS7 := HL.out w4 HB4.out.ob.2.1
            clear hnx
            (try go_wp2_with fail)
            refine hK.out _ _ ?_ (fun hHeld => ?_)
            · exact hS7
            clear hK K
            try simp only [Act.put, List.getElem_toArray, List.getElem_cons_succ, List.getElem_cons_zero, List.setIfInBounds_toArray, List.set_cons_zero, List.set_cons_succ]
            refine wpAnyH_take (i := 8) (v := ?_) rfl (by kernel_rfl) (by kernel_rfl) (by kernel_rfl) (fun _ _ _ h => h) (Or.inl ⟨by rfl, ?_⟩) (by assumption) ?_
            rotate_left
            · intro wq hSw; (try dsimp only at hSw); go_simp; (try with_reducible rfl)
            simp only [Act.put, List.getElem_toArray, List.getElem_cons_succ, List.getElem_cons_zero, List.setIfInBounds_toArray, List.set_cons_zero, List.set_cons_succ]
            refine wpAnyH_take (i := 9) (v := ?_) rfl (by kernel_rfl) (by kernel_rfl) (by kernel_rfl) (fun _ _ _ h => h) (Or.inl ⟨by rfl, ?_⟩) (by assumption) ?_
            rotate_left
            · intro wq hSw; (try dsimp only at hSw); go_simp; (try with_reducible rfl)
            simp only [Act.put, List.getElem_toArray, List.getElem_cons_succ, List.getElem_cons_zero, List.setIfInBounds_toArray, List.set_cons_zero, List.set_cons_succ]
            refine wpAnyH_take (i := 10) (v := ?_) rfl (by kernel_rfl) (by kernel_rfl) (by kernel_rfl) (fun _ _ _ h => h) (Or.inl ⟨by rfl, ?_⟩) (by assumption) ?_
            rotate_left
            · intro wq hSw; (try dsimp only at hSw); go_simp; (try with_reducible rfl)
            simp only [Act.put, List.getElem_toArray, List.getElem_cons_succ, List.getElem_cons_zero, List.setIfInBounds_toArray, List.set_cons_zero, List.set_cons_succ]
            refine wpAnyH_ready (rs := [11]) (by kernel_rfl) (by simp) ?_
            refine AllReadyH.cons rfl (fun K hK => ?_) AllReadyH.nil
            have hS11 := HL.out (w4.setRow gB (rfC b2 ⟨A', n', cap', B', m', capB'⟩)) HNX.out.1.bo.ob.2.1
            refine wp_store_row 50 (.tmp 12) _ rfl gB (rfC b2 ⟨A', n', cap', B', m', capB'⟩) (by with_unfolding_all exact rfl) (by with_unfolding_all exact rfl) 50 (rfC b ⟨A, n, cap, B, m, capB⟩) (by with_unfolding_all exact HNX.out.2) (by kernel_rfl) (by with_unfolding_all exact rfl) (rfC_one _ _) ?_
            refine hK.out _ _ ?_ (fun hHeld => ?_)
            · exact hS11
            clear hK K
            try simp only [Act.put, List.getElem_toArray, List.getElem_cons_succ, List.getElem_cons_zero, List.setIfInBounds_toArray, List.set_cons_zero, List.set_cons_succ]
            refine wpAnyH_take (i := 12) (v := ?_) rfl (by kernel_rfl) (by kernel_rfl) (by kernel_rfl) (fun _ _ _ h => h) (Or.inl ⟨by rfl, ?_⟩) (by assumption) ?_
            rotate_left
            · intro wq hSw; (try dsimp only at hSw); go_simp; (try with_reducible rfl)
            simp only [Act.put, List.getElem_toArray, List.getElem_cons_succ, List.getElem_cons_zero, List.setIfInBounds_toArray, List.set_cons_zero, List.set_cons_succ]
            refine wpAnyH_done (by kernel_rfl) ?_ _
            clear hHeld
            have HT5 := Lib.hid HNX.out.1
            clear zd hS7 hS11 HNX HB4 HM4 HDO HDR HD q0 q1 q2 q3 q4 q5 q6 c0 c1 c2 c3 h245 h235 e1 e2 e3
            generalize w4.setRow gB (rfC b2 ⟨A', n', cap', B', m', capB'⟩) = w5 at HT5 ⊢
            have hv5 := HT5.out.bo.ob.1.iv
            have hl5 := HT5.out.bo.lens
            obtain ⟨⟨nx, nb⟩, hnx⟩ : ∃ x, nextOf b2.L = x := ⟨_, rfl⟩
            obtain ⟨M, hM⟩ : ∃ M, TailMath.tot b2.L = M := ⟨_, rfl⟩
            have hM5 : M ≤ 5000 := by have h1 := hv5.tot; have h2 := hv5.sp; omega
            have htm : b2.time ≤ 1099511627776 := hv5.time
            have h1 := next_any w5 HT5.out.bo.ob.1
            rw [hnx] at h1
            have HN1 := Lib.hid (show Calls Try.prog 18 #[.pointer (some ⟨S, 0, none⟩)] w5 (fun e w' => e = .returned (.tuple #[.int .i64 (nx : Int), .bool nb]) ∧ Below w5.heap.size w5 w') from h1)
            have HSO := Lib.hid (show b2.L.Pairwise (fun a b => a.due ≤ b.due) from hv5.L.so.imp fun h => h.2)
            have HNX := Lib.hid (And.intro hnx (And.intro hM hl5))
            clear h1 hv5 hl5 hnx hM
            go_wp2_with fail
            refine HN1.out.mono ?_
            rintro e w6 ⟨rfl, hb6⟩
            have HT6 := Lib.hid (HT5.out.later hb6)
            have q0 : w6.cell? ⟨gB, 0, none⟩ = some (.int .i64 (b2.sp : Int)) := HT6.out.blk.cell 0 rfl
            have q1 : w6.cell? ⟨gB, 1, none⟩ = some (.int .i64 (b2.wait : Int)) := HT6.out.blk.cell 1 rfl
            have q2 : w6.cell? ⟨gB, 2, none⟩ = some (.int .i64 (b2.most : Int)) := HT6.out.blk.cell 2 rfl
            have q3 : w6.cell? ⟨gB, 3, none⟩ = some (.int .i64 (b2.time : Int)) := HT6.out.blk.cell 3 rfl
            have q4 : w6.cell? ⟨gB, 4, none⟩ = some (.int .i64 (b2.came : Int)) := HT6.out.blk.cell 4 rfl
            have q5 : w6.cell? ⟨gB, 5, none⟩ = some (.slice A' n' cap') := HT6.out.blk.cell 5 rfl
            have q6 : w6.cell? ⟨gB, 6, none⟩ = some (.slice B' m' capB') := HT6.out.blk.cell 6 rfl
            have h2 := refNext_any w6 b2 ⟨A', n', cap', B', m', capB'⟩ HT6.out.bo.rf HSO.out HNX.out.2.2.1
            rw [HNX.out.1] at h2
            have HN2 := Lib.hid (show Calls Try.prog 19 #[.agg #[.int .i64 (b2.sp : Int), .int .i64 (b2.wait : Int), .int .i64 (b2.most : Int), .int .i64 (b2.time : Int), .int .i64 (b2.came : Int), .slice A' n' cap', .slice B' m' capB']] w6 (fun e w' => e = .returned (.tuple #[.int .i64 (nx : Int), .bool nb]) ∧ Hid (Below w6.heap.size w6 w')) from h2)
            clear HN1 h2 hb6 HT5
            go_wp2_with fail
            refine HN2.out.mono ?_
            rintro e w7 ⟨rfl, HB7⟩
            clear q0 q1 q2 q3 q4 q5 q6 HN2
            have hdr7 : Below w7.heap.size w7 w7.drew := ⟨rfl, rfl, rfl, Nat.le_refl _, fun _ _ => rfl⟩
            have HT8 := Lib.hid ((HT6.out.later HB7.out).later hdr7)
            have HLN1 := Lib.hid (own_len HT8.out.bo.ob M HNX.out.2.1)
            have HLN2 := Lib.hid (show Calls Try.prog 20 #[.agg #[.int .i64 (b2.sp : Int), .int .i64 (b2.wait : Int), .int .i64 (b2.most : Int), .int .i64 (b2.time : Int), .int .i64 (b2.came : Int), .slice A' n' cap', .slice B' m' capB']] w7.drew _ from refLen_any w7.drew b2 ⟨A', n', cap', B', m', capB'⟩ HT8.out.bo.rf M HNX.out.2.1 hM5 HNX.out.2.2.1)
            have hbd := HT8.out.blk
            have bx : ((nx : Int) != (nx : Int)) = false := by simp
            have bM : ((M : Int) != (M : Int)) = false := by simp
            clear HT6 HB7 hdr7 HSO
            cases nb
            all_goals
              go_wp2_with fail
              refine wp_region_held_drew (S := fun W => Blk W gB (rfC b2 ⟨A', n', cap', B', m', capB'⟩) 50) (by kernel_rfl) ?_ (fun hHeld => ?_)
              · exact hbd
              refine wpAnyH_take (i := 0) (v := ?_) rfl (by kernel_rfl) (by kernel_rfl) (by kernel_rfl) (fun _ _ _ h => h) (Or.inl ⟨by rfl, ?_⟩) (by assumption) ?_
              rotate_left
              · intro wq hSw; (try dsimp only at hSw); go_simp; (try with_reducible rfl)
              simp only [Act.put, List.getElem_toArray, List.getElem_cons_succ, List.getElem_cons_zero, List.setIfInBounds_toArray, List.set_cons_zero, List.set_cons_succ]
              refine wpAnyH_take (i := 1) (v := ?_) rfl (by kernel_rfl) (by kernel_rfl) (by kernel_rfl) (fun _ _ _ h => h) (Or.inl ⟨by rfl, ?_⟩) (by assumption) ?_
              rotate_left
              · intro wq hSw; (try dsimp only at hSw); go_simp; (try with_reducible rfl)
              simp only [Act.put, List.getElem_toArray, List.getElem_cons_succ, List.getElem_cons_zero, List.setIfInBounds_toArray, List.set_cons_zero, List.set_cons_succ]
              refine wpAnyH_take (i := 2) (v := ?_) rfl (by kernel_rfl) (by kernel_rfl) (by kernel_rfl) (fun _ _ _ h => h) (Or.inl ⟨by rfl, ?_⟩) (by assumption) ?_
              rotate_left
              · intro wq hSw; (try dsimp only at hSw); go_simp; (try with_reducible rfl)
              simp only [Act.put, List.getElem_toArray, List.getElem_cons_succ, List.getElem_cons_zero, List.setIfInBounds_toArray, List.set_cons_zero, List.set_cons_succ]
              refine wpAnyH_take (i := 3) (v := ?_) rfl (by kernel_rfl) (by kernel_rfl) (by kernel_rfl) (fun _ _ _ h => h) (Or.inl ⟨by rfl, ?_⟩) (by assumption) ?_
              rotate_left
              · intro wq hSw; (try dsimp only at hSw); go_simp; (try with_reducible rfl)
              simp only [Act.put, List.getElem_toArray, List.getElem_cons_succ, List.getElem_cons_zero, List.setIfInBounds_toArray, List.set_cons_zero, List.set_cons_succ]
              refine wpAnyH_take (i := 4) (v := ?_) rfl (by kernel_rfl) (by kernel_rfl) (by kernel_rfl) (fun _ _ _ h => h) (Or.inl ⟨by rfl, ?_⟩) (by assumption) ?_
              rotate_left
              · intro wq hSw; (try dsimp only at hSw); go_simp; (try with_reducible rfl)
              simp only [Act.put, List.getElem_toArray, List.getElem_cons_succ, List.getElem_cons_zero, List.setIfInBounds_toArray, List.set_cons_zero, List.set_cons_succ]
              refine wpAnyH_take (i := 5) (v := ?_) rfl (by kernel_rfl) (by kernel_rfl) (by kernel_rfl) (fun _ _ _ h => h) (Or.inl ⟨by rfl, ?_⟩) (by assumption) ?_
              rotate_left
              · intro wq hSw; (try dsimp only at hSw); go_simp; (try with_reducible rfl)
              simp only [Act.put, List.getElem_toArray, List.getElem_cons_succ, List.getElem_cons_zero, List.setIfInBounds_toArray, List.set_cons_zero, List.set_cons_succ]
              refine wpAnyH_take (i := 6) (v := ?_) rfl (by kernel_rfl) (by kernel_rfl) (by kernel_rfl) (fun _ _ _ h => h) (Or.inl ⟨by rfl, ?_⟩) (by assumption) ?_
              rotate_left
              · intro wq hSw; (try dsimp only at hSw); go_simp; (try with_reducible rfl)
              simp only [Act.put, List.getElem_toArray, List.getElem_cons_succ, List.getElem_cons_zero, List.setIfInBounds_toArray, List.set_cons_zero, List.set_cons_succ]
              refine wpAnyH_take (i := 7) (v := ?_) rfl (by kernel_rfl) (by kernel_rfl) (by kernel_rfl) (fun _ _ _ h => h) (Or.inl ⟨by rfl, ?_⟩) (by assumption) ?_
              rotate_left
              · intro wq hSw; (try dsimp only at hSw); go_simp; (try with_reducible rfl)
              simp only [Act.put, List.getElem_toArray, List.getElem_cons_succ, List.getElem_cons_zero, List.setIfInBounds_toArray, List.set_cons_zero, List.set_cons_succ]
              refine wpAnyH_take (i := 8) (v := ?_) rfl (by kernel_rfl) (by kernel_rfl) (by kernel_rfl) (fun _ _ _ h => h) (Or.inl ⟨by rfl, ?_⟩) (by assumption) ?_
              rotate_left
              · intro wq hSw; (try dsimp only at hSw); go_simp; (try with_reducible rfl)
              simp only [Act.put, List.getElem_toArray, List.getElem_cons_succ, List.getElem_cons_zero, List.setIfInBounds_toArray, List.set_cons_zero, List.set_cons_succ]
              refine wpAnyH_take (i := 9) (v := ?_) rfl (by kernel_rfl) (by kernel_rfl) (by kernel_rfl) (fun _ _ _ h => h) (Or.inl ⟨by rfl, ?_⟩) (by assumption) ?_
              rotate_left
              · intro wq hSw; (try dsimp only at hSw); go_simp; (try with_reducible rfl)
              simp only [Act.put, List.getElem_toArray, List.getElem_cons_succ, List.getElem_cons_zero, List.setIfInBounds_toArray, List.set_cons_zero, List.set_cons_succ]
              refine wpAnyH_take (i := 10) (v := ?_) rfl (by kernel_rfl) (by kernel_rfl) (by kernel_rfl) (fun _ _ _ h => h) (Or.inl ⟨by rfl, ?_⟩) (by assumption) ?_
              rotate_left
              · intro wq hSw; (try dsimp only at hSw); go_simp; (try with_reducible rfl)
              simp only [Act.put, List.getElem_toArray, List.getElem_cons_succ, List.getElem_cons_zero, List.setIfInBounds_toArray, List.set_cons_zero, List.set_cons_succ]
              refine wpAnyH_take (i := 11) (v := ?_) rfl (by kernel_rfl) (by kernel_rfl) (by kernel_rfl) (fun _ _ _ h => h) (Or.inl ⟨by rfl, ?_⟩) (by assumption) ?_
              rotate_left
              · intro wq hSw; (try dsimp only at hSw); go_simp; (try with_reducible rfl)
              simp only [Act.put, List.getElem_toArray, List.getElem_cons_succ, List.getElem_cons_zero, List.setIfInBounds_toArray, List.set_cons_zero, List.set_cons_succ]
              refine wpAnyH_take (i := 12) (v := ?_) rfl (by kernel_rfl) (by kernel_rfl) (by kernel_rfl) (fun _ _ _ h => h) (Or.inl ⟨by rfl, ?_⟩) (by assumption) ?_
              rotate_left
              · intro wq hSw; (try dsimp only at hSw); go_simp; (try with_reducible rfl)
              simp only [Act.put, List.getElem_toArray, List.getElem_cons_succ, List.getElem_cons_zero, List.setIfInBounds_toArray, List.set_cons_zero, List.set_cons_succ]
              refine wpAnyH_take (i := 13) (v := ?_) rfl (by kernel_rfl) (by kernel_rfl) (by kernel_rfl) (fun _ _ _ h => h) (Or.inl ⟨by rfl, ?_⟩) (by assumption) ?_
              rotate_left
              · intro wq hSw; (try dsimp only at hSw); go_simp; (try with_reducible rfl)
              simp only [Act.put, List.getElem_toArray, List.getElem_cons_succ, List.getElem_cons_zero, List.setIfInBounds_toArray, List.set_cons_zero, List.set_cons_succ]
              refine wpAnyH_take (i := 15) (v := ?_) rfl (by kernel_rfl) (by kernel_rfl) (by kernel_rfl) (fun _ _ _ h => h) (Or.inl ⟨by rfl, ?_⟩) (by assumption) ?_
              rotate_left
              · intro wq hSw; (try dsimp only at hSw); have z0 : wq.cell? ⟨gB, 0, none⟩ = some (.int .i64 (b2.sp : Int)) := Blk.cell hSw 0 rfl; have z1 : wq.cell? ⟨gB, 1, none⟩ = some (.int .i64 (b2.wait : Int)) := Blk.cell hSw 1 rfl; have z2 : wq.cell? ⟨gB, 2, none⟩ = some (.int .i64 (b2.most : Int)) := Blk.cell hSw 2 rfl; have z3 : wq.cell? ⟨gB, 3, none⟩ = some (.int .i64 (b2.time : Int)) := Blk.cell hSw 3 rfl; have z4 : wq.cell? ⟨gB, 4, none⟩ = some (.int .i64 (b2.came : Int)) := Blk.cell hSw 4 rfl; have z5 : wq.cell? ⟨gB, 5, none⟩ = some (.slice A' n' cap') := Blk.cell hSw 5 rfl; have z6 : wq.cell? ⟨gB, 6, none⟩ = some (.slice B' m' capB') := Blk.cell hSw 6 rfl; go_simp; (try with_reducible rfl)
              simp only [Act.put, List.getElem_toArray, List.getElem_cons_succ, List.getElem_cons_zero, List.setIfInBounds_toArray, List.set_cons_zero, List.set_cons_succ]
              refine wpAnyH_ready (rs := [14]) (by kernel_rfl) (by simp) ?_
              refine AllReadyH.cons rfl (fun K hK => ?_) AllReadyH.nil
              go_simp
              refine HLN1.out.mono ?_
              rintro e w8 ⟨rfl, rfl⟩
              have y14 := hbd
              (try go_wp2_with fail)
              refine hK.out _ _ ?_ (fun hHeld => ?_)
              · exact y14
              clear hK K
              try simp only [Act.put, List.getElem_toArray, List.getElem_cons_succ, List.getElem_cons_zero, List.setIfInBounds_toArray, List.set_cons_zero, List.set_cons_succ]
              refine wpAnyH_ready (rs := [16]) (by kernel_rfl) (by simp) ?_
              refine AllReadyH.cons rfl (fun K hK => ?_) AllReadyH.nil
              go_simp
              refine HLN2.out.mono ?_
              rintro e w9 ⟨rfl, HB9⟩
              have y16 : Blk w9 gB (rfC b2 ⟨A', n', cap', B', m', capB'⟩) 50 := hbd.later HB9.out
              (try go_wp2_with fail)
              refine hK.out _ _ ?_ (fun hHeld => ?_)
              · exact y16
              clear hK K
              try simp only [Act.put, List.getElem_toArray, List.getElem_cons_succ, List.getElem_cons_zero, List.setIfInBounds_toArray, List.set_cons_zero, List.set_cons_succ]
              refine wpAnyH_take (i := 17) (v := ?_) rfl (by kernel_rfl) (by kernel_rfl) (by kernel_rfl) (fun _ _ _ h => h) (Or.inl ⟨by rfl, ?_⟩) (by assumption) ?_
              rotate_left
              · intro wq hSw; (try dsimp only at hSw); go_simp; (try with_reducible rfl)
              simp only [Act.put, List.getElem_toArray, List.getElem_cons_succ, List.getElem_cons_zero, List.setIfInBounds_toArray, List.set_cons_zero, List.set_cons_succ]
              refine wpAnyH_take (i := 18) (v := ?_) rfl (by kernel_rfl) (by kernel_rfl) (by kernel_rfl) (fun _ _ _ h => h) (Or.inl ⟨by rfl, ?_⟩) (by assumption) ?_
              rotate_left
              · intro wq hSw; (try dsimp only at hSw); go_simp; (try with_reducible rfl)
              simp only [Act.put, List.getElem_toArray, List.getElem_cons_succ, List.getElem_cons_zero, List.setIfInBounds_toArray, List.set_cons_zero, List.set_cons_succ]
              refine wpAnyH_done (by kernel_rfl) ?_ _
              clear hHeld
              have HT9 := Lib.hid (HT8.out.later HB9.out)
              have z3 : w9.cell? ⟨gB, 3, none⟩ = some (.int .i64 (b2.time : Int)) := y16.cell 3 rfl
              clear HT8 HLN1 HLN2 hbd HB9 y14 y16
              go_wp2_with fail
              go_roundw
              case rel => exact ⟨i + 1, max n1 b2.time, b2, bs2, A', n', cap', B', m', capB', by simp, by (simp; split <;> omega), by omega, by omega, hcm2, HT9⟩
              case measure => simp [intOf]; omega
          · have e2 : decide ((235 : Int) < (d.after : Int)) = false := by simp; omega
            obtain ⟨b2, hb2⟩ : ∃ x, stp d (n1 : Int) b = x := ⟨_, rfl⟩
            have hcm2 : b2.came ≤ i + 1 := by have := stp_came d (n1 : Int) b; rw [hb2] at this; omega
            have hdo := does_any d (n1 : Int) HOK.out HDR.out.bo (by omega)
            rw [hb2] at hdo
            have HDO := Lib.hid (show Calls Try.prog 17 #[.pointer (some ⟨S, 0, none⟩), .agg #[.int .i64 (b.sp : Int), .int .i64 (b.wait : Int), .int .i64 (b.most : Int), .int .i64 (b.time : Int), .int .i64 (b.came : Int), .slice A n cap, .slice B m capB], .int .i64 (n1 : Int), .agg #[.int .u8 (d.what : Int), .int .u8 (d.after : Int), .int .u8 (d.trace : Int), .int .u8 (d.more : Int)]] wr.drew (DoTo w wr.drew S b2 bs1) from hdo)
            have q0 : wr.drew.cell? ⟨gB, 0, none⟩ = some (.int .i64 (b.sp : Int)) := HDR.out.blk.cell 0 rfl
            have q1 : wr.drew.cell? ⟨gB, 1, none⟩ = some (.int .i64 (b.wait : Int)) := HDR.out.blk.cell 1 rfl
            have q2 : wr.drew.cell? ⟨gB, 2, none⟩ = some (.int .i64 (b.most : Int)) := HDR.out.blk.cell 2 rfl
            have q3 : wr.drew.cell? ⟨gB, 3, none⟩ = some (.int .i64 (b.time : Int)) := HDR.out.blk.cell 3 rfl
            have q4 : wr.drew.cell? ⟨gB, 4, none⟩ = some (.int .i64 (b.came : Int)) := HDR.out.blk.cell 4 rfl
            have q5 : wr.drew.cell? ⟨gB, 5, none⟩ = some (.slice A n cap) := HDR.out.blk.cell 5 rfl
            have q6 : wr.drew.cell? ⟨gB, 6, none⟩ = some (.slice B m capB) := HDR.out.blk.cell 6 rfl
            clear hdo
            go_wp2_with fail
            refine wp_region_held_drew (S := fun W => W.cell? ⟨b0, o0 + i * 4, none⟩ = some (.int .u8 (d.what : Int)) ∧ W.cell? ⟨b0, o0 + i * 4 + 1, none⟩ = some (.int .u8 (d.after : Int)) ∧ W.cell? ⟨b0, o0 + i * 4 + 2, none⟩ = some (.int .u8 (d.trace : Int)) ∧ W.cell? ⟨b0, o0 + i * 4 + 3, none⟩ = some (.int .u8 (d.more : Int))) (by kernel_rfl) ?_ (fun hHeld => ?_)
            · exact zd
            refine wpAnyH_take (i := 0) (v := ?_) rfl (by kernel_rfl) (by kernel_rfl) (by kernel_rfl) (fun _ _ _ h => h) (Or.inl ⟨by rfl, ?_⟩) (by assumption) ?_
            rotate_left
            · intro wq hSw; (try dsimp only at hSw); go_simp; (try with_reducible rfl)
            simp only [Act.put, List.getElem_toArray, List.getElem_cons_succ, List.getElem_cons_zero, List.setIfInBounds_toArray, List.set_cons_zero, List.set_cons_succ]
            refine wpAnyH_take (i := 2) (v := ?_) rfl (by kernel_rfl) (by kernel_rfl) (by kernel_rfl) (fun _ _ _ h => h) (Or.inl ⟨by rfl, ?_⟩) (by assumption) ?_
            rotate_left
            · intro wq hSw; (try dsimp only at hSw); go_simp; (try with_reducible rfl)
            simp only [Act.put, List.getElem_toArray, List.getElem_cons_succ, List.getElem_cons_zero, List.setIfInBounds_toArray, List.set_cons_zero, List.set_cons_succ]
            refine wpAnyH_take (i := 3) (v := ?_) rfl (by kernel_rfl) (by kernel_rfl) (by kernel_rfl) (fun _ _ _ h => h) (Or.inl ⟨by rfl, ?_⟩) (by assumption) ?_
            rotate_left
            · intro wq hSw; (try dsimp only at hSw); go_simp; (try with_reducible rfl)
            simp only [Act.put, List.getElem_toArray, List.getElem_cons_succ, List.getElem_cons_zero, List.setIfInBounds_toArray, List.set_cons_zero, List.set_cons_succ]
            refine wpAnyH_take (i := 4) (v := ?_) rfl (by kernel_rfl) (by kernel_rfl) (by kernel_rfl) (fun _ _ _ h => h) (Or.inl ⟨by rfl, ?_⟩) (by assumption) ?_
            rotate_left
            · intro wq hSw; (try dsimp only at hSw); go_simp; (try with_reducible rfl)
            simp only [Act.put, List.getElem_toArray, List.getElem_cons_succ, List.getElem_cons_zero, List.setIfInBounds_toArray, List.set_cons_zero, List.set_cons_succ]
            refine wpAnyH_take (i := 5) (v := ?_) rfl (by kernel_rfl) (by kernel_rfl) (by kernel_rfl) (fun _ _ _ h => h) (Or.inl ⟨by rfl, ?_⟩) (by assumption) ?_
            rotate_left
            · intro wq hSw; (try dsimp only at hSw); go_simp; (try with_reducible rfl)
            simp only [Act.put, List.getElem_toArray, List.getElem_cons_succ, List.getElem_cons_zero, List.setIfInBounds_toArray, List.set_cons_zero, List.set_cons_succ]
            refine wpAnyH_take (i := 6) (v := ?_) rfl (by kernel_rfl) (by kernel_rfl) (by kernel_rfl) (fun _ _ _ h => h) (Or.inl ⟨by rfl, ?_⟩) (by assumption) ?_
            rotate_left
            · intro wq hSw; (try dsimp only at hSw); obtain ⟨u0, u1, u2, u3⟩ := hSw; go_simp; (try with_reducible rfl)
            simp only [Act.put, List.getElem_toArray, List.getElem_cons_succ, List.getElem_cons_zero, List.setIfInBounds_toArray, List.set_cons_zero, List.set_cons_succ]
            refine wpAnyH_ready (rs := [1]) (by kernel_rfl) (by simp) ?_
            refine AllReadyH.cons rfl (fun K hK => ?_) AllReadyH.nil
            go_simp
            (try go_wp2_with fail)
            refine hK.out _ _ ?_ (fun hHeld => ?_)
            · exact zd
            clear hK K
            try simp only [Act.put, List.getElem_toArray, List.getElem_cons_succ, List.getElem_cons_zero, List.setIfInBounds_toArray, List.set_cons_zero, List.set_cons_succ]
            refine wpAnyH_ready (rs := [7]) (by kernel_rfl) (by simp) ?_
            refine AllReadyH.cons rfl (fun K hK => ?_) AllReadyH.nil
            go_simp
            ((with_reducible refine HDO.out.mono ?_); rintro e w4 ⟨r', bs2, rfl, HB4, HM4⟩)
            obtain ⟨A', n', cap', B', m', capB'⟩ := r'
            have hnx := HDR.out.next HB4.out HM4.out
            have HNX := Lib.hid hnx
            have hS7 := HL.out w4 HB4.out.ob.2.1
            clear hnx
            (try go_wp2_with fail)
            refine hK.out _ _ ?_ (fun hHeld => ?_)
            · exact hS7
            clear hK K
            try simp only [Act.put, List.getElem_toArray, List.getElem_cons_succ, List.getElem_cons_zero, List.setIfInBounds_toArray, List.set_cons_zero, List.set_cons_succ]
            refine wpAnyH_take (i := 8) (v := ?_) rfl (by kernel_rfl) (by kernel_rfl) (by kernel_rfl) (fun _ _ _ h => h) (Or.inl ⟨by rfl, ?_⟩) (by assumption) ?_
            rotate_left
            · intro wq hSw; (try dsimp only at hSw); go_simp; (try with_reducible rfl)
            simp only [Act.put, List.getElem_toArray, List.getElem_cons_succ, List.getElem_cons_zero, List.setIfInBounds_toArray, List.set_cons_zero, List.set_cons_succ]
            refine wpAnyH_take (i := 9) (v := ?_) rfl (by kernel_rfl) (by kernel_rfl) (by kernel_rfl) (fun _ _ _ h => h) (Or.inl ⟨by rfl, ?_⟩) (by assumption) ?_
            rotate_left
            · intro wq hSw; (try dsimp only at hSw); go_simp; (try with_reducible rfl)
            simp only [Act.put, List.getElem_toArray, List.getElem_cons_succ, List.getElem_cons_zero, List.setIfInBounds_toArray, List.set_cons_zero, List.set_cons_succ]
            refine wpAnyH_take (i := 10) (v := ?_) rfl (by kernel_rfl) (by kernel_rfl) (by kernel_rfl) (fun _ _ _ h => h) (Or.inl ⟨by rfl, ?_⟩) (by assumption) ?_
            rotate_left
            · intro wq hSw; (try dsimp only at hSw); go_simp; (try with_reducible rfl)
            simp only [Act.put, List.getElem_toArray, List.getElem_cons_succ, List.getElem_cons_zero, List.setIfInBounds_toArray, List.set_cons_zero, List.set_cons_succ]
            refine wpAnyH_ready (rs := [11]) (by kernel_rfl) (by simp) ?_
            refine AllReadyH.cons rfl (fun K hK => ?_) AllReadyH.nil
            have hS11 := HL.out (w4.setRow gB (rfC b2 ⟨A', n', cap', B', m', capB'⟩)) HNX.out.1.bo.ob.2.1
            refine wp_store_row 50 (.tmp 12) _ rfl gB (rfC b2 ⟨A', n', cap', B', m', capB'⟩) (by with_unfolding_all exact rfl) (by with_unfolding_all exact rfl) 50 (rfC b ⟨A, n, cap, B, m, capB⟩) (by with_unfolding_all exact HNX.out.2) (by kernel_rfl) (by with_unfolding_all exact rfl) (rfC_one _ _) ?_
            refine hK.out _ _ ?_ (fun hHeld => ?_)
            · exact hS11
            clear hK K
            try simp only [Act.put, List.getElem_toArray, List.getElem_cons_succ, List.getElem_cons_zero, List.setIfInBounds_toArray, List.set_cons_zero, List.set_cons_succ]
            refine wpAnyH_take (i := 12) (v := ?_) rfl (by kernel_rfl) (by kernel_rfl) (by kernel_rfl) (fun _ _ _ h => h) (Or.inl ⟨by rfl, ?_⟩) (by assumption) ?_
            rotate_left
            · intro wq hSw; (try dsimp only at hSw); go_simp; (try with_reducible rfl)
            simp only [Act.put, List.getElem_toArray, List.getElem_cons_succ, List.getElem_cons_zero, List.setIfInBounds_toArray, List.set_cons_zero, List.set_cons_succ]
            refine wpAnyH_done (by kernel_rfl) ?_ _
            clear hHeld
            have HT5 := Lib.hid HNX.out.1
            clear zd hS7 hS11 HNX HB4 HM4 HDO HDR HD q0 q1 q2 q3 q4 q5 q6 c0 c1 c2 c3 h245 h235 e1 e2 e3
            generalize w4.setRow gB (rfC b2 ⟨A', n', cap', B', m', capB'⟩) = w5 at HT5 ⊢
            have hv5 := HT5.out.bo.ob.1.iv
            have hl5 := HT5.out.bo.lens
            obtain ⟨⟨nx, nb⟩, hnx⟩ : ∃ x, nextOf b2.L = x := ⟨_, rfl⟩
            obtain ⟨M, hM⟩ : ∃ M, TailMath.tot b2.L = M := ⟨_, rfl⟩
            have hM5 : M ≤ 5000 := by have h1 := hv5.tot; have h2 := hv5.sp; omega
            have htm : b2.time ≤ 1099511627776 := hv5.time
            have h1 := next_any w5 HT5.out.bo.ob.1
            rw [hnx] at h1
            have HN1 := Lib.hid (show Calls Try.prog 18 #[.pointer (some ⟨S, 0, none⟩)] w5 (fun e w' => e = .returned (.tuple #[.int .i64 (nx : Int), .bool nb]) ∧ Below w5.heap.size w5 w') from h1)
            have HSO := Lib.hid (show b2.L.Pairwise (fun a b => a.due ≤ b.due) from hv5.L.so.imp fun h => h.2)
            have HNX := Lib.hid (And.intro hnx (And.intro hM hl5))
            clear h1 hv5 hl5 hnx hM
            go_wp2_with fail
            refine HN1.out.mono ?_
            rintro e w6 ⟨rfl, hb6⟩
            have HT6 := Lib.hid (HT5.out.later hb6)
            have q0 : w6.cell? ⟨gB, 0, none⟩ = some (.int .i64 (b2.sp : Int)) := HT6.out.blk.cell 0 rfl
            have q1 : w6.cell? ⟨gB, 1, none⟩ = some (.int .i64 (b2.wait : Int)) := HT6.out.blk.cell 1 rfl
            have q2 : w6.cell? ⟨gB, 2, none⟩ = some (.int .i64 (b2.most : Int)) := HT6.out.blk.cell 2 rfl
            have q3 : w6.cell? ⟨gB, 3, none⟩ = some (.int .i64 (b2.time : Int)) := HT6.out.blk.cell 3 rfl
            have q4 : w6.cell? ⟨gB, 4, none⟩ = some (.int .i64 (b2.came : Int)) := HT6.out.blk.cell 4 rfl
            have q5 : w6.cell? ⟨gB, 5, none⟩ = some (.slice A' n' cap') := HT6.out.blk.cell 5 rfl
            have q6 : w6.cell? ⟨gB, 6, none⟩ = some (.slice B' m' capB') := HT6.out.blk.cell 6 rfl
            have h2 := refNext_any w6 b2 ⟨A', n', cap', B', m', capB'⟩ HT6.out.bo.rf HSO.out HNX.out.2.2.1
            rw [HNX.out.1] at h2
            have HN2 := Lib.hid (show Calls Try.prog 19 #[.agg #[.int .i64 (b2.sp : Int), .int .i64 (b2.wait : Int), .int .i64 (b2.most : Int), .int .i64 (b2.time : Int), .int .i64 (b2.came : Int), .slice A' n' cap', .slice B' m' capB']] w6 (fun e w' => e = .returned (.tuple #[.int .i64 (nx : Int), .bool nb]) ∧ Hid (Below w6.heap.size w6 w')) from h2)
            clear HN1 h2 hb6 HT5
            go_wp2_with fail
            refine HN2.out.mono ?_
            rintro e w7 ⟨rfl, HB7⟩
            clear q0 q1 q2 q3 q4 q5 q6 HN2
            have hdr7 : Below w7.heap.size w7 w7.drew := ⟨rfl, rfl, rfl, Nat.le_refl _, fun _ _ => rfl⟩
            have HT8 := Lib.hid ((HT6.out.later HB7.out).later hdr7)
            have HLN1 := Lib.hid (own_len HT8.out.bo.ob M HNX.out.2.1)
            have HLN2 := Lib.hid (show Calls Try.prog 20 #[.agg #[.int .i64 (b2.sp : Int), .int .i64 (b2.wait : Int), .int .i64 (b2.most : Int), .int .i64 (b2.time : Int), .int .i64 (b2.came : Int), .slice A' n' cap', .slice B' m' capB']] w7.drew _ from refLen_any w7.drew b2 ⟨A', n', cap', B', m', capB'⟩ HT8.out.bo.rf M HNX.out.2.1 hM5 HNX.out.2.2.1)
            have hbd := HT8.out.blk
            have bx : ((nx : Int) != (nx : Int)) = false := by simp
            have bM : ((M : Int) != (M : Int)) = false := by simp
            clear HT6 HB7 hdr7 HSO
            cases nb
            all_goals
              go_wp2_with fail
              refine wp_region_held_drew (S := fun W => Blk W gB (rfC b2 ⟨A', n', cap', B', m', capB'⟩) 50) (by kernel_rfl) ?_ (fun hHeld => ?_)
              · exact hbd
              refine wpAnyH_take (i := 0) (v := ?_) rfl (by kernel_rfl) (by kernel_rfl) (by kernel_rfl) (fun _ _ _ h => h) (Or.inl ⟨by rfl, ?_⟩) (by assumption) ?_
              rotate_left
              · intro wq hSw; (try dsimp only at hSw); go_simp; (try with_reducible rfl)
              simp only [Act.put, List.getElem_toArray, List.getElem_cons_succ, List.getElem_cons_zero, List.setIfInBounds_toArray, List.set_cons_zero, List.set_cons_succ]
              refine wpAnyH_take (i := 1) (v := ?_) rfl (by kernel_rfl) (by kernel_rfl) (by kernel_rfl) (fun _ _ _ h => h) (Or.inl ⟨by rfl, ?_⟩) (by assumption) ?_
              rotate_left
              · intro wq hSw; (try dsimp only at hSw); go_simp; (try with_reducible rfl)
              simp only [Act.put, List.getElem_toArray, List.getElem_cons_succ, List.getElem_cons_zero, List.setIfInBounds_toArray, List.set_cons_zero, List.set_cons_succ]
              refine wpAnyH_take (i := 2) (v := ?_) rfl (by kernel_rfl) (by kernel_rfl) (by kernel_rfl) (fun _ _ _ h => h) (Or.inl ⟨by rfl, ?_⟩) (by assumption) ?_
              rotate_left
              · intro wq hSw; (try dsimp only at hSw); go_simp; (try with_reducible rfl)
              simp only [Act.put, List.getElem_toArray, List.getElem_cons_succ, List.getElem_cons_zero, List.setIfInBounds_toArray, List.set_cons_zero, List.set_cons_succ]
              refine wpAnyH_take (i := 3) (v := ?_) rfl (by kernel_rfl) (by kernel_rfl) (by kernel_rfl) (fun _ _ _ h => h) (Or.inl ⟨by rfl, ?_⟩) (by assumption) ?_
              rotate_left
              · intro wq hSw; (try dsimp only at hSw); go_simp; (try with_reducible rfl)
              simp only [Act.put, List.getElem_toArray, List.getElem_cons_succ, List.getElem_cons_zero, List.setIfInBounds_toArray, List.set_cons_zero, List.set_cons_succ]
              refine wpAnyH_take (i := 4) (v := ?_) rfl (by kernel_rfl) (by kernel_rfl) (by kernel_rfl) (fun _ _ _ h => h) (Or.inl ⟨by rfl, ?_⟩) (by assumption) ?_
              rotate_left
              · intro wq hSw; (try dsimp only at hSw); go_simp; (try with_reducible rfl)
              simp only [Act.put, List.getElem_toArray, List.getElem_cons_succ, List.getElem_cons_zero, List.setIfInBounds_toArray, List.set_cons_zero, List.set_cons_succ]
              refine wpAnyH_take (i := 5) (v := ?_) rfl (by kernel_rfl) (by kernel_rfl) (by kernel_rfl) (fun _ _ _ h => h) (Or.inl ⟨by rfl, ?_⟩) (by assumption) ?_
              rotate_left
              · intro wq hSw; (try dsimp only at hSw); go_simp; (try with_reducible rfl)
              simp only [Act.put, List.getElem_toArray, List.getElem_cons_succ, List.getElem_cons_zero, List.setIfInBounds_toArray, List.set_cons_zero, List.set_cons_succ]
              refine wpAnyH_take (i := 6) (v := ?_) rfl (by kernel_rfl) (by kernel_rfl) (by kernel_rfl) (fun _ _ _ h => h) (Or.inl ⟨by rfl, ?_⟩) (by assumption) ?_
              rotate_left
              · intro wq hSw; (try dsimp only at hSw); go_simp; (try with_reducible rfl)
              simp only [Act.put, List.getElem_toArray, List.getElem_cons_succ, List.getElem_cons_zero, List.setIfInBounds_toArray, List.set_cons_zero, List.set_cons_succ]
              refine wpAnyH_take (i := 7) (v := ?_) rfl (by kernel_rfl) (by kernel_rfl) (by kernel_rfl) (fun _ _ _ h => h) (Or.inl ⟨by rfl, ?_⟩) (by assumption) ?_
              rotate_left
              · intro wq hSw; (try dsimp only at hSw); go_simp; (try with_reducible rfl)
              simp only [Act.put, List.getElem_toArray, List.getElem_cons_succ, List.getElem_cons_zero, List.setIfInBounds_toArray, List.set_cons_zero, List.set_cons_succ]
              refine wpAnyH_take (i := 8) (v := ?_) rfl (by kernel_rfl) (by kernel_rfl) (by kernel_rfl) (fun _ _ _ h => h) (Or.inl ⟨by rfl, ?_⟩) (by assumption) ?_
              rotate_left
              · intro wq hSw; (try dsimp only at hSw); go_simp; (try with_reducible rfl)
              simp only [Act.put, List.getElem_toArray, List.getElem_cons_succ, List.getElem_cons_zero, List.setIfInBounds_toArray, List.set_cons_zero, List.set_cons_succ]
              refine wpAnyH_take (i := 9) (v := ?_) rfl (by kernel_rfl) (by kernel_rfl) (by kernel_rfl) (fun _ _ _ h => h) (Or.inl ⟨by rfl, ?_⟩) (by assumption) ?_
              rotate_left
              · intro wq hSw; (try dsimp only at hSw); go_simp; (try with_reducible rfl)
              simp only [Act.put, List.getElem_toArray, List.getElem_cons_succ, List.getElem_cons_zero, List.setIfInBounds_toArray, List.set_cons_zero, List.set_cons_succ]
              refine wpAnyH_take (i := 10) (v := ?_) rfl (by kernel_rfl) (by kernel_rfl) (by kernel_rfl) (fun _ _ _ h => h) (Or.inl ⟨by rfl, ?_⟩) (by assumption) ?_
              rotate_left
              · intro wq hSw; (try dsimp only at hSw); go_simp; (try with_reducible rfl)
              simp only [Act.put, List.getElem_toArray, List.getElem_cons_succ, List.getElem_cons_zero, List.setIfInBounds_toArray, List.set_cons_zero, List.set_cons_succ]
              refine wpAnyH_take (i := 11) (v := ?_) rfl (by kernel_rfl) (by kernel_rfl) (by kernel_rfl) (fun _ _ _ h => h) (Or.inl ⟨by rfl, ?_⟩) (by assumption) ?_
              rotate_left
              · intro wq hSw; (try dsimp only at hSw); go_simp; (try with_reducible rfl)
              simp only [Act.put, List.getElem_toArray, List.getElem_cons_succ, List.getElem_cons_zero, List.setIfInBounds_toArray, List.set_cons_zero, List.set_cons_succ]
              refine wpAnyH_take (i := 12) (v := ?_) rfl (by kernel_rfl) (by kernel_rfl) (by kernel_rfl) (fun _ _ _ h => h) (Or.inl ⟨by rfl, ?_⟩) (by assumption) ?_
              rotate_left
              · intro wq hSw; (try dsimp only at hSw); go_simp; (try with_reducible rfl)
              simp only [Act.put, List.getElem_toArray, List.getElem_cons_succ, List.getElem_cons_zero, List.setIfInBounds_toArray, List.set_cons_zero, List.set_cons_succ]
              refine wpAnyH_take (i := 13) (v := ?_) rfl (by kernel_rfl) (by kernel_rfl) (by kernel_rfl) (fun _ _ _ h => h) (Or.inl ⟨by rfl, ?_⟩) (by assumption) ?_
              rotate_left
              · intro wq hSw; (try dsimp only at hSw); go_simp; (try with_reducible rfl)
              simp only [Act.put, List.getElem_toArray, List.getElem_cons_succ, List.getElem_cons_zero, List.setIfInBounds_toArray, List.set_cons_zero, List.set_cons_succ]
              refine wpAnyH_take (i := 15) (v := ?_) rfl (by kernel_rfl) (by kernel_rfl) (by kernel_rfl) (fun _ _ _ h => h) (Or.inl ⟨by rfl, ?_⟩) (by assumption) ?_
              rotate_left
              · intro wq hSw; (try dsimp only at hSw); have z0 : wq.cell? ⟨gB, 0, none⟩ = some (.int .i64 (b2.sp : Int)) := Blk.cell hSw 0 rfl; have z1 : wq.cell? ⟨gB, 1, none⟩ = some (.int .i64 (b2.wait : Int)) := Blk.cell hSw 1 rfl; have z2 : wq.cell? ⟨gB, 2, none⟩ = some (.int .i64 (b2.most : Int)) := Blk.cell hSw 2 rfl; have z3 : wq.cell? ⟨gB, 3, none⟩ = some (.int .i64 (b2.time : Int)) := Blk.cell hSw 3 rfl; have z4 : wq.cell? ⟨gB, 4, none⟩ = some (.int .i64 (b2.came : Int)) := Blk.cell hSw 4 rfl; have z5 : wq.cell? ⟨gB, 5, none⟩ = some (.slice A' n' cap') := Blk.cell hSw 5 rfl; have z6 : wq.cell? ⟨gB, 6, none⟩ = some (.slice B' m' capB') := Blk.cell hSw 6 rfl; go_simp; (try with_reducible rfl)
              simp only [Act.put, List.getElem_toArray, List.getElem_cons_succ, List.getElem_cons_zero, List.setIfInBounds_toArray, List.set_cons_zero, List.set_cons_succ]
              refine wpAnyH_ready (rs := [14]) (by kernel_rfl) (by simp) ?_
              refine AllReadyH.cons rfl (fun K hK => ?_) AllReadyH.nil
              go_simp
              refine HLN1.out.mono ?_
              rintro e w8 ⟨rfl, rfl⟩
              have y14 := hbd
              (try go_wp2_with fail)
              refine hK.out _ _ ?_ (fun hHeld => ?_)
              · exact y14
              clear hK K
              try simp only [Act.put, List.getElem_toArray, List.getElem_cons_succ, List.getElem_cons_zero, List.setIfInBounds_toArray, List.set_cons_zero, List.set_cons_succ]
              refine wpAnyH_ready (rs := [16]) (by kernel_rfl) (by simp) ?_
              refine AllReadyH.cons rfl (fun K hK => ?_) AllReadyH.nil
              go_simp
              refine HLN2.out.mono ?_
              rintro e w9 ⟨rfl, HB9⟩
              have y16 : Blk w9 gB (rfC b2 ⟨A', n', cap', B', m', capB'⟩) 50 := hbd.later HB9.out
              (try go_wp2_with fail)
              refine hK.out _ _ ?_ (fun hHeld => ?_)
              · exact y16
              clear hK K
              try simp only [Act.put, List.getElem_toArray, List.getElem_cons_succ, List.getElem_cons_zero, List.setIfInBounds_toArray, List.set_cons_zero, List.set_cons_succ]
              refine wpAnyH_take (i := 17) (v := ?_) rfl (by kernel_rfl) (by kernel_rfl) (by kernel_rfl) (fun _ _ _ h => h) (Or.inl ⟨by rfl, ?_⟩) (by assumption) ?_
              rotate_left
              · intro wq hSw; (try dsimp only at hSw); go_simp; (try with_reducible rfl)
              simp only [Act.put, List.getElem_toArray, List.getElem_cons_succ, List.getElem_cons_zero, List.setIfInBounds_toArray, List.set_cons_zero, List.set_cons_succ]
              refine wpAnyH_take (i := 18) (v := ?_) rfl (by kernel_rfl) (by kernel_rfl) (by kernel_rfl) (fun _ _ _ h => h) (Or.inl ⟨by rfl, ?_⟩) (by assumption) ?_
              rotate_left
              · intro wq hSw; (try dsimp only at hSw); go_simp; (try with_reducible rfl)
              simp only [Act.put, List.getElem_toArray, List.getElem_cons_succ, List.getElem_cons_zero, List.setIfInBounds_toArray, List.set_cons_zero, List.set_cons_succ]
              refine wpAnyH_done (by kernel_rfl) ?_ _
              clear hHeld
              have HT9 := Lib.hid (HT8.out.later HB9.out)
              have z3 : w9.cell? ⟨gB, 3, none⟩ = some (.int .i64 (b2.time : Int)) := y16.cell 3 rfl
              clear HT8 HLN1 HLN2 hbd HB9 y14 y16
              go_wp2_with fail
              go_roundw
              case rel => exact ⟨i + 1, max n1 b2.time, b2, bs2, A', n', cap', B', m', capB', by simp, by (simp; split <;> omega), by omega, by omega, hcm2, HT9⟩
              case measure => simp [intOf]; omega
      · obtain rfl : i = N := by omega
        have di : decide ((i : Int) < (i : Int)) = false := by simp
        have HE := Lib.hid HD.out.bo.ob.2.1
        clear HD HH
        go_wp2_with fail
        go_ret
        exact ⟨rfl, HE.out⟩
namespace TailDoes
set_option linter.unusedSimpArgs false in
set_option maxRecDepth 100000 in
theorem lifted (os : Os) (started : os.Started) (H : Type) (enc : TypeId × Value → H) :
    ReturnsInHanded {} Try.checked os 5 .any (Rows.tailDoesSpec.pre6 enc Try.prog Try.f5 Rows.tailDoesRow.domain false) (Rows.tailDoesSpec.post enc Try.prog Try.f5 false true false false) := by
  refine returnsInHanded_of_change (C := Try.checked) own started (by kernel_rfl) Try.func5
    (ChangeSpec.witness6 (enc := enc) (C := Try.checked) false ⟨#[], #[.int .u8 0, .int .u8 0, .int .u8 0, .slice none 0 0, .int .i64 0], []⟩ 8 (by kernel_rfl) (by kernel_rfl) (by kernel_rfl) (by kernel_rfl)) ?_
  intro W base args ds gs before hval0 hW _ _
  have hval : ∀ (j : Nat) t v, Try.f5.params[j]? = some t → args[j]? = some v → Value.okWide Try.prog W .any base t v := hval0
  have hW' := hW
  obtain ⟨p, q, hA0, hV, rfl, _, _⟩ := hW
  have hA : DataW.TrodAll enc Try.prog W 0 (fun _ => true) true Try.f5.params.toList args.toList ds p := hA0
  rw [Try.params5] at hA hval
  obtain ⟨v0, vs0, d0, ds0, p0, q0, hargs, rfl, rfl, h0, r0⟩ := trodAll_cons hA
  obtain ⟨v1, vs1, d1, ds1, p1, q1, rfl, rfl, rfl, h1, r1⟩ := trodAll_cons r0
  obtain ⟨v2, vs2, d2, ds2, p2, q2, rfl, rfl, rfl, h2, r2⟩ := trodAll_cons r1
  obtain ⟨v3, vs3, d3, ds3, p3, q3, rfl, rfl, rfl, h3, r3⟩ := trodAll_cons r2
  obtain ⟨v4, vs4, d4, ds4, p4, q4, rfl, rfl, rfl, h4, r4⟩ := trodAll_cons r3
  obtain ⟨rfl, rfl, rfl⟩ := trodAll_nil r4
  obtain rfl : args = #[v0, v1, v2, v3, v4] := by cases args; simp_all
  obtain ⟨rfl, rfl⟩ := trodVars_none hV
  obtain ⟨a0, rfl, rfl, rfl, w0⟩ := open_int Try.underlying5 (hval 0 5 v0 rfl rfl) h0
  have k0 := wf_u8 w0
  obtain ⟨n0, rfl⟩ : ∃ u : UInt8, a0 = (u.toNat : Int) := ⟨UInt8.ofNat a0.toNat, by simp; omega⟩
  obtain ⟨a1, rfl, rfl, rfl, w1⟩ := open_int Try.underlying5 (hval 1 5 v1 rfl rfl) h1
  have k1 := wf_u8 w1
  obtain ⟨n1, rfl⟩ : ∃ u : UInt8, a1 = (u.toNat : Int) := ⟨UInt8.ofNat a1.toNat, by simp; omega⟩
  obtain ⟨a2, rfl, rfl, rfl, w2⟩ := open_int Try.underlying5 (hval 2 5 v2 rfl rfl) h2
  have k2 := wf_u8 w2
  obtain ⟨n2, rfl⟩ : ∃ u : UInt8, a2 = (u.toNat : Int) := ⟨UInt8.ofNat a2.toNat, by simp; omega⟩
  obtain ⟨A3, cs3, cap3, rfl, l3, m3, b3⟩ := arg_deeds (hval 3 46 v3 rfl rfl) h3
  obtain ⟨a4, rfl, rfl, rfl, w4⟩ := open_int Try.underlying3 (hval 4 3 v4 rfl rfl) h4
  have k4 := wf_i64 w4
  clear hA0 hval0
  simp only [List.append_nil] at hW'
  refine (tailDoes_walk n0 n1 n2 A3 cs3 cap3 a4 W b3 l3).mono fun e W' ⟨he, hg⟩ => ?_
  subst he
  exact ⟨_, rfl, true_last hW' rfl (by kernel_rfl) Try.underlying4 rfl rfl rfl (of_decide_eq_true (by kernel_rfl)) hg⟩

/-- **TailDoes, at every input.** -/
theorem proved : Rows.TailDoesSaid :=
  OpenClaim.holds_of_wide 5 Try.f5 rfl rfl rfl rfl rfl rfl rfl ⟨rfl, rfl, rfl, rfl, rfl⟩ rfl rfl rfl rfl rfl (by kernel_rfl) Try.func5 (by kernel_rfl)
    (of_decide_eq_true (by kernel_rfl)) (by unfold Func.isWrapper; first | (rw [if_pos (by decide +kernel)]; kernel_rfl) | (rw [if_neg (by decide +kernel)]; exact ⟨rfl, rfl⟩))
    (fun os started H enc _ => lifted os started H enc)
end TailDoes

end Go.Proofs.Ythpcnnkdpgjiiaa
