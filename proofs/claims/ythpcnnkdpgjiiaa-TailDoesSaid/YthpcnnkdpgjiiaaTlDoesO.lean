/-
  The law's does: Offer.
-/
import Derived.Test.YthpcnnkdpgjiiaaTlDocs
namespace Go.Proofs.Ythpcnnkdpgjiiaa
open Go.RowKit Go.Maps Go.Proofs.HeapMath Go.Proofs.TailMath

set_option linter.unusedSimpArgs false in
set_option maxRecDepth 100000 in
set_option maxHeartbeats 8000000 in
theorem does_offer (d : De) (t : Int) (hd : d.ok) (hw : d.what % 5 ≤ 2) {w₀ W : World} {S : Nat} {b : St} {bs : List Nat} {r : Rf} (h : Bo w₀ W S b bs r) (hc : b.came ≤ 1000000000) :
    Calls Try.prog 17 #[.pointer (some ⟨S, 0, none⟩), rfV b r, .int .i64 t, .agg #[.int .u8 (d.what : Int), .int .u8 (d.after : Int), .int .u8 (d.trace : Int), .int .u8 (d.more : Int)]] W (DoTo w₀ W S (offer b t (ofSp d)).1 bs) := by
  have hlens := h.lens
  obtain ⟨A, n, cap, B, m, capB⟩ := r
  obtain ⟨n0, hn0⟩ : ∃ x, W.heap.size = x := ⟨_, rfl⟩
  have hw0 : w₀.heap.size ≤ n0 := by have := h.ob.2.1.size; omega
  have hS : S < n0 := by have := h.ob.1.lt S (Tb.S_mem h.ob.1); omega
  obtain ⟨s, hs⟩ : ∃ s, ofSp d = s := ⟨_, rfl⟩
  have hu : u64 s.hi ∧ u64 s.lo := hs ▸ ofU d
  obtain ⟨⟨b2, v1, v2⟩, hfo⟩ : ∃ x, offer b t s = x := ⟨_, rfl⟩
  have hv1 : v1 ≤ 4 ∧ v2 ≤ 60 := by have := offer_small b t s h.ob.1.iv; rw [hfo] at this; exact this
  rw [hs, hfo]
  have HFO := Lib.hid hfo
  clear hfo
  have HOF := Lib.hid (fun W' => show Calls Try.prog 21 #[.agg #[.int .u8 (d.what : Int), .int .u8 (d.after : Int), .int .u8 (d.trace : Int), .int .u8 (d.more : Int)]] W' (fun e w' => e = .returned (spV s) ∧ Below W'.heap.size W' w') from hs ▸ of_any d W' hd)
  have HU := Lib.hid hu
  have HBO := Lib.hid h
  have HLN := Lib.hid hlens
  obtain ⟨hi, lo, id, pa, nm, st, en, bad, rv⟩ := s
  obtain ⟨dw, da, dt, dm⟩ := d
  simp only at HOF hw
  unfold spV at HOF
  unfold rfV
  have HW0 := Lib.hid (show Blk (((W.alloc (.cells #[.int .i64 (b.sp : Int), .int .i64 (b.wait : Int), .int .i64 (b.most : Int), .int .i64 (b.time : Int), .int .i64 (b.came : Int), .slice A n cap, .slice B m capB] 50)).alloc (.cells #[.int .u8 (dw : Int), .int .u8 (da : Int), .int .u8 (dt : Int), .int .u8 (dm : Int)] 54)).alloc (.cells #[.int .i64 0, .int .i64 0, .int .i64 0, .int .i64 0, .int .i64 0, .slice none 0 0, .slice none 0 0] 50)) n0 #[.int .i64 (b.sp : Int), .int .i64 (b.wait : Int), .int .i64 (b.most : Int), .int .i64 (b.time : Int), .int .i64 (b.came : Int), .slice A n cap, .slice B m capB] 50 ∧ Blk (((W.alloc (.cells #[.int .i64 (b.sp : Int), .int .i64 (b.wait : Int), .int .i64 (b.most : Int), .int .i64 (b.time : Int), .int .i64 (b.came : Int), .slice A n cap, .slice B m capB] 50)).alloc (.cells #[.int .u8 (dw : Int), .int .u8 (da : Int), .int .u8 (dt : Int), .int .u8 (dm : Int)] 54)).alloc (.cells #[.int .i64 0, .int .i64 0, .int .i64 0, .int .i64 0, .int .i64 0, .slice none 0 0, .slice none 0 0] 50)) (n0 + 1) #[.int .u8 (dw : Int), .int .u8 (da : Int), .int .u8 (dt : Int), .int .u8 (dm : Int)] 54 ∧ Blk (((W.alloc (.cells #[.int .i64 (b.sp : Int), .int .i64 (b.wait : Int), .int .i64 (b.most : Int), .int .i64 (b.time : Int), .int .i64 (b.came : Int), .slice A n cap, .slice B m capB] 50)).alloc (.cells #[.int .u8 (dw : Int), .int .u8 (da : Int), .int .u8 (dt : Int), .int .u8 (dm : Int)] 54)).alloc (.cells #[.int .i64 0, .int .i64 0, .int .i64 0, .int .i64 0, .int .i64 0, .slice none 0 0, .slice none 0 0] 50)) (n0 + 2) #[.int .i64 0, .int .i64 0, .int .i64 0, .int .i64 0, .int .i64 0, .slice none 0 0, .slice none 0 0] 50 ∧ Below n0 W (((W.alloc (.cells #[.int .i64 (b.sp : Int), .int .i64 (b.wait : Int), .int .i64 (b.most : Int), .int .i64 (b.time : Int), .int .i64 (b.came : Int), .slice A n cap, .slice B m capB] 50)).alloc (.cells #[.int .u8 (dw : Int), .int .u8 (da : Int), .int .u8 (dt : Int), .int .u8 (dm : Int)] 54)).alloc (.cells #[.int .i64 0, .int .i64 0, .int .i64 0, .int .i64 0, .int .i64 0, .slice none 0 0, .slice none 0 0] 50)) from by
    subst hn0
    have b0 := blk_new W #[.int .i64 (b.sp : Int), .int .i64 (b.wait : Int), .int .i64 (b.most : Int), .int .i64 (b.time : Int), .int .i64 (b.came : Int), .slice A n cap, .slice B m capB] 50
    have b1 := blk_new (W.alloc (.cells #[.int .i64 (b.sp : Int), .int .i64 (b.wait : Int), .int .i64 (b.most : Int), .int .i64 (b.time : Int), .int .i64 (b.came : Int), .slice A n cap, .slice B m capB] 50)) #[.int .u8 (dw : Int), .int .u8 (da : Int), .int .u8 (dt : Int), .int .u8 (dm : Int)] 54
    have b2 := blk_new ((W.alloc (.cells #[.int .i64 (b.sp : Int), .int .i64 (b.wait : Int), .int .i64 (b.most : Int), .int .i64 (b.time : Int), .int .i64 (b.came : Int), .slice A n cap, .slice B m capB] 50)).alloc (.cells #[.int .u8 (dw : Int), .int .u8 (da : Int), .int .u8 (dt : Int), .int .u8 (dm : Int)] 54)) #[.int .i64 0, .int .i64 0, .int .i64 0, .int .i64 0, .int .i64 0, .slice none 0 0, .slice none 0 0] 50
    rw [World.size_alloc] at b1
    rw [World.size_alloc, World.size_alloc] at b2
    exact ⟨(b0.same (Below.heap_alloc _ _ _ (by simp))).same (Below.heap_alloc _ _ _ (by simp; omega)), b1.same (Below.heap_alloc _ _ _ (by simp)), b2, ((box_below _).alloc (by simp) _).alloc (by simp; omega) _⟩)
  have HN0 := Lib.hid hn0
  have HS := Lib.hid hs
  clear h hd hu hs hlens
  go_enter Try.func17, Try.ntmps17
  go_wp2_with fail
  refine (HOF.out _).mono ?_
  rintro e w1 ⟨rfl, hb1⟩
  obtain ⟨g1, hg1⟩ : ∃ x, w1.heap.size = x := ⟨_, rfl⟩
  have hbk := hg1 ▸ blk_new w1 #[.int .u64 (hi : Int), .int .u64 (lo : Int), .int .u64 (id : Int), .int .u64 (pa : Int), .string nm, .int .i64 st, .int .i64 en, .bool bad, .slice none 0 0, .int .u64 (rv : Int)] 35
  have hlt : n0 + 3 ≤ g1 := by have h1 := HW0.out.2.2.1.lt; have := hb1.size; omega
  have hbb : Below n0 W (w1.alloc (.cells #[.int .u64 (hi : Int), .int .u64 (lo : Int), .int .u64 (id : Int), .int .u64 (pa : Int), .string nm, .int .i64 st, .int .i64 en, .bool bad, .slice none 0 0, .int .u64 (rv : Int)] 35)) := HW0.out.2.2.2.trans ((hb1.trans ((box_below _).mono hb1.size)).mono (by have := HW0.out.1.lt; omega))
  have HX := Lib.hid (show Blk (w1.alloc (.cells #[.int .u64 (hi : Int), .int .u64 (lo : Int), .int .u64 (id : Int), .int .u64 (pa : Int), .string nm, .int .i64 st, .int .i64 en, .bool bad, .slice none 0 0, .int .u64 (rv : Int)] 35)) n0 #[.int .i64 (b.sp : Int), .int .i64 (b.wait : Int), .int .i64 (b.most : Int), .int .i64 (b.time : Int), .int .i64 (b.came : Int), .slice A n cap, .slice B m capB] 50 ∧ Blk (w1.alloc (.cells #[.int .u64 (hi : Int), .int .u64 (lo : Int), .int .u64 (id : Int), .int .u64 (pa : Int), .string nm, .int .i64 st, .int .i64 en, .bool bad, .slice none 0 0, .int .u64 (rv : Int)] 35)) (n0 + 1) #[.int .u8 (dw : Int), .int .u8 (da : Int), .int .u8 (dt : Int), .int .u8 (dm : Int)] 54 ∧ Blk (w1.alloc (.cells #[.int .u64 (hi : Int), .int .u64 (lo : Int), .int .u64 (id : Int), .int .u64 (pa : Int), .string nm, .int .i64 st, .int .i64 en, .bool bad, .slice none 0 0, .int .u64 (rv : Int)] 35)) (n0 + 2) #[.int .i64 0, .int .i64 0, .int .i64 0, .int .i64 0, .int .i64 0, .slice none 0 0, .slice none 0 0] 50 ∧ Blk (w1.alloc (.cells #[.int .u64 (hi : Int), .int .u64 (lo : Int), .int .u64 (id : Int), .int .u64 (pa : Int), .string nm, .int .i64 st, .int .i64 en, .bool bad, .slice none 0 0, .int .u64 (rv : Int)] 35)) g1 #[.int .u64 (hi : Int), .int .u64 (lo : Int), .int .u64 (id : Int), .int .u64 (pa : Int), .string nm, .int .i64 st, .int .i64 en, .bool bad, .slice none 0 0, .int .u64 (rv : Int)] 35 ∧ Below n0 W (w1.alloc (.cells #[.int .u64 (hi : Int), .int .u64 (lo : Int), .int .u64 (id : Int), .int .u64 (pa : Int), .string nm, .int .i64 st, .int .i64 en, .bool bad, .slice none 0 0, .int .u64 (rv : Int)] 35)) from
    ⟨(HW0.out.1.later hb1).later (box_below _), (HW0.out.2.1.later hb1).later (box_below _), (HW0.out.2.2.1.later hb1).later (box_below _), hbk, hbb⟩)
  have HLT := Lib.hid hlt
  clear hbk hbb hb1 hn0 HW0 HOF
  have q0 : (w1.alloc (.cells #[.int .u64 (hi : Int), .int .u64 (lo : Int), .int .u64 (id : Int), .int .u64 (pa : Int), .string nm, .int .i64 st, .int .i64 en, .bool bad, .slice none 0 0, .int .u64 (rv : Int)] 35)).cell? ⟨n0, 0, none⟩ = some (.int .i64 (b.sp : Int)) := HX.out.1.cell 0 rfl
  have q1 : (w1.alloc (.cells #[.int .u64 (hi : Int), .int .u64 (lo : Int), .int .u64 (id : Int), .int .u64 (pa : Int), .string nm, .int .i64 st, .int .i64 en, .bool bad, .slice none 0 0, .int .u64 (rv : Int)] 35)).cell? ⟨n0, 1, none⟩ = some (.int .i64 (b.wait : Int)) := HX.out.1.cell 1 rfl
  have q2 : (w1.alloc (.cells #[.int .u64 (hi : Int), .int .u64 (lo : Int), .int .u64 (id : Int), .int .u64 (pa : Int), .string nm, .int .i64 st, .int .i64 en, .bool bad, .slice none 0 0, .int .u64 (rv : Int)] 35)).cell? ⟨n0, 2, none⟩ = some (.int .i64 (b.most : Int)) := HX.out.1.cell 2 rfl
  have q3 : (w1.alloc (.cells #[.int .u64 (hi : Int), .int .u64 (lo : Int), .int .u64 (id : Int), .int .u64 (pa : Int), .string nm, .int .i64 st, .int .i64 en, .bool bad, .slice none 0 0, .int .u64 (rv : Int)] 35)).cell? ⟨n0, 3, none⟩ = some (.int .i64 (b.time : Int)) := HX.out.1.cell 3 rfl
  have q4 : (w1.alloc (.cells #[.int .u64 (hi : Int), .int .u64 (lo : Int), .int .u64 (id : Int), .int .u64 (pa : Int), .string nm, .int .i64 st, .int .i64 en, .bool bad, .slice none 0 0, .int .u64 (rv : Int)] 35)).cell? ⟨n0, 4, none⟩ = some (.int .i64 (b.came : Int)) := HX.out.1.cell 4 rfl
  have q5 : (w1.alloc (.cells #[.int .u64 (hi : Int), .int .u64 (lo : Int), .int .u64 (id : Int), .int .u64 (pa : Int), .string nm, .int .i64 st, .int .i64 en, .bool bad, .slice none 0 0, .int .u64 (rv : Int)] 35)).cell? ⟨n0, 5, none⟩ = some (.slice A n cap) := HX.out.1.cell 5 rfl
  have q6 : (w1.alloc (.cells #[.int .u64 (hi : Int), .int .u64 (lo : Int), .int .u64 (id : Int), .int .u64 (pa : Int), .string nm, .int .i64 st, .int .i64 en, .bool bad, .slice none 0 0, .int .u64 (rv : Int)] 35)).cell? ⟨n0, 6, none⟩ = some (.slice B m capB) := HX.out.1.cell 6 rfl
  have e0 : (w1.alloc (.cells #[.int .u64 (hi : Int), .int .u64 (lo : Int), .int .u64 (id : Int), .int .u64 (pa : Int), .string nm, .int .i64 st, .int .i64 en, .bool bad, .slice none 0 0, .int .u64 (rv : Int)] 35)).cell? ⟨n0 + 1, 0, none⟩ = some (.int .u8 (dw : Int)) := HX.out.2.1.cell 0 rfl
  have HRF := Lib.hid (show RfIn (· ∉ (n0 + 2) :: bs) (w1.alloc (.cells #[.int .u64 (hi : Int), .int .u64 (lo : Int), .int .u64 (id : Int), .int .u64 (pa : Int), .string nm, .int .i64 st, .int .i64 en, .bool bad, .slice none 0 0, .int .u64 (rv : Int)] 35)) b ⟨A, n, cap, B, m, capB⟩ from (HBO.out.rf.more (n0 + 2) (by have := HN0.out; omega)).later (by rw [HN0.out]; exact HX.out.2.2.2.2))
  have HFR := Lib.hid (show ∀ k, (w1.alloc (.cells #[.int .u64 (hi : Int), .int .u64 (lo : Int), .int .u64 (id : Int), .int .u64 (pa : Int), .string nm, .int .i64 st, .int .i64 en, .bool bad, .slice none 0 0, .int .u64 (rv : Int)] 35)).heap.size ≤ k → k ∉ (n0 + 2) :: bs from fun k hk hm => by
    have h1 := HX.out.2.2.1.lt
    have h2 := HX.out.2.2.2.2.size
    rcases List.mem_cons.1 hm with e | e
    · omega
    · have := HBO.out.ob.1.lt k e; have := HN0.out; omega)
  have HC1 := Lib.hid (show Calls Try.prog 32 #[.agg #[.int .i64 (b.sp : Int), .int .i64 (b.wait : Int), .int .i64 (b.most : Int), .int .i64 (b.time : Int), .int .i64 (b.came : Int), .slice A n cap, .slice B m capB], .int .i64 t, .agg #[.int .u64 (hi : Int), .int .u64 (lo : Int), .int .u64 (id : Int), .int .u64 (pa : Int), .string nm, .int .i64 st, .int .i64 en, .bool bad, .slice none 0 0, .int .u64 (rv : Int)]] (w1.alloc (.cells #[.int .u64 (hi : Int), .int .u64 (lo : Int), .int .u64 (id : Int), .int .u64 (pa : Int), .string nm, .int .i64 st, .int .i64 en, .bool bad, .slice none 0 0, .int .u64 (rv : Int)] 35)) _ from docOffer HRF.out HBO.out.ob.1.iv HLN.out hc HFR.out t ⟨hi, lo, id, pa, nm, st, en, bad, rv⟩ b2 v1 v2 HFO.out)
  have hx : (dw : Int) % 5 = 0 ∨ (dw : Int) % 5 = 1 ∨ (dw : Int) % 5 = 2 := by omega
  clear hw HFR HRF
  rcases hx with hx | hx | hx
  all_goals
    go_wp2_with fail
    refine HC1.out.mono ?_
    rintro e w2 ⟨A', n', cap', B', m', capB', rfl, HRF2, HB2⟩
    clear HC1 q0 q1 q2 q3 q4 q5 q6 e0 hlt hx
    obtain ⟨g2, hg2⟩ : ∃ x, w2.heap.size = x := ⟨_, rfl⟩
    have hlt2 : g1 < g2 := by have h1 := HX.out.2.2.2.1.lt; have := HB2.out.size; omega
    have hbk := hg2 ▸ blk_new w2 #[.int .i64 (b2.sp : Int), .int .i64 (b2.wait : Int), .int .i64 (b2.most : Int), .int .i64 (b2.time : Int), .int .i64 (b2.came : Int), .slice A' n' cap', .slice B' m' capB'] 50
    have HY := Lib.hid (show Blk (w2.alloc (.cells #[.int .i64 (b2.sp : Int), .int .i64 (b2.wait : Int), .int .i64 (b2.most : Int), .int .i64 (b2.time : Int), .int .i64 (b2.came : Int), .slice A' n' cap', .slice B' m' capB'] 50)) (n0 + 2) #[.int .i64 0, .int .i64 0, .int .i64 0, .int .i64 0, .int .i64 0, .slice none 0 0, .slice none 0 0] 50 ∧ Blk (w2.alloc (.cells #[.int .i64 (b2.sp : Int), .int .i64 (b2.wait : Int), .int .i64 (b2.most : Int), .int .i64 (b2.time : Int), .int .i64 (b2.came : Int), .slice A' n' cap', .slice B' m' capB'] 50)) g1 #[.int .u64 (hi : Int), .int .u64 (lo : Int), .int .u64 (id : Int), .int .u64 (pa : Int), .string nm, .int .i64 st, .int .i64 en, .bool bad, .slice none 0 0, .int .u64 (rv : Int)] 35 ∧ Blk (w2.alloc (.cells #[.int .i64 (b2.sp : Int), .int .i64 (b2.wait : Int), .int .i64 (b2.most : Int), .int .i64 (b2.time : Int), .int .i64 (b2.came : Int), .slice A' n' cap', .slice B' m' capB'] 50)) g2 #[.int .i64 (b2.sp : Int), .int .i64 (b2.wait : Int), .int .i64 (b2.most : Int), .int .i64 (b2.time : Int), .int .i64 (b2.came : Int), .slice A' n' cap', .slice B' m' capB'] 50 ∧ Below n0 W (w2.alloc (.cells #[.int .i64 (b2.sp : Int), .int .i64 (b2.wait : Int), .int .i64 (b2.most : Int), .int .i64 (b2.time : Int), .int .i64 (b2.came : Int), .slice A' n' cap', .slice B' m' capB'] 50)) ∧ RfIn (· ∉ (n0 + 2) :: bs) (w2.alloc (.cells #[.int .i64 (b2.sp : Int), .int .i64 (b2.wait : Int), .int .i64 (b2.most : Int), .int .i64 (b2.time : Int), .int .i64 (b2.came : Int), .slice A' n' cap', .slice B' m' capB'] 50)) b2 ⟨A', n', cap', B', m', capB'⟩ from
      ⟨(HX.out.2.2.1.later HB2.out).later (box_below _), (HX.out.2.2.2.1.later HB2.out).later (box_below _), hbk, HX.out.2.2.2.2.trans ((HB2.out.trans ((box_below _).mono HB2.out.size)).mono (by have := HX.out.1.lt; omega)), HRF2.out.later (box_below _)⟩)
    have HLT2 := Lib.hid hlt2
    have s0 : (w2.alloc (.cells #[.int .i64 (b2.sp : Int), .int .i64 (b2.wait : Int), .int .i64 (b2.most : Int), .int .i64 (b2.time : Int), .int .i64 (b2.came : Int), .slice A' n' cap', .slice B' m' capB'] 50)).cell? ⟨g1, 0, none⟩ = some (.int .u64 (hi : Int)) := HY.out.2.1.cell 0 rfl
    have s1 : (w2.alloc (.cells #[.int .i64 (b2.sp : Int), .int .i64 (b2.wait : Int), .int .i64 (b2.most : Int), .int .i64 (b2.time : Int), .int .i64 (b2.came : Int), .slice A' n' cap', .slice B' m' capB'] 50)).cell? ⟨g1, 1, none⟩ = some (.int .u64 (lo : Int)) := HY.out.2.1.cell 1 rfl
    have s2 : (w2.alloc (.cells #[.int .i64 (b2.sp : Int), .int .i64 (b2.wait : Int), .int .i64 (b2.most : Int), .int .i64 (b2.time : Int), .int .i64 (b2.came : Int), .slice A' n' cap', .slice B' m' capB'] 50)).cell? ⟨g1, 2, none⟩ = some (.int .u64 (id : Int)) := HY.out.2.1.cell 2 rfl
    have s3 : (w2.alloc (.cells #[.int .i64 (b2.sp : Int), .int .i64 (b2.wait : Int), .int .i64 (b2.most : Int), .int .i64 (b2.time : Int), .int .i64 (b2.came : Int), .slice A' n' cap', .slice B' m' capB'] 50)).cell? ⟨g1, 3, none⟩ = some (.int .u64 (pa : Int)) := HY.out.2.1.cell 3 rfl
    have s4 : (w2.alloc (.cells #[.int .i64 (b2.sp : Int), .int .i64 (b2.wait : Int), .int .i64 (b2.most : Int), .int .i64 (b2.time : Int), .int .i64 (b2.came : Int), .slice A' n' cap', .slice B' m' capB'] 50)).cell? ⟨g1, 4, none⟩ = some (.string nm) := HY.out.2.1.cell 4 rfl
    have s5 : (w2.alloc (.cells #[.int .i64 (b2.sp : Int), .int .i64 (b2.wait : Int), .int .i64 (b2.most : Int), .int .i64 (b2.time : Int), .int .i64 (b2.came : Int), .slice A' n' cap', .slice B' m' capB'] 50)).cell? ⟨g1, 5, none⟩ = some (.int .i64 st) := HY.out.2.1.cell 5 rfl
    have s6 : (w2.alloc (.cells #[.int .i64 (b2.sp : Int), .int .i64 (b2.wait : Int), .int .i64 (b2.most : Int), .int .i64 (b2.time : Int), .int .i64 (b2.came : Int), .slice A' n' cap', .slice B' m' capB'] 50)).cell? ⟨g1, 6, none⟩ = some (.int .i64 en) := HY.out.2.1.cell 6 rfl
    have s7 : (w2.alloc (.cells #[.int .i64 (b2.sp : Int), .int .i64 (b2.wait : Int), .int .i64 (b2.most : Int), .int .i64 (b2.time : Int), .int .i64 (b2.came : Int), .slice A' n' cap', .slice B' m' capB'] 50)).cell? ⟨g1, 7, none⟩ = some (.bool bad) := HY.out.2.1.cell 7 rfl
    have s8 : (w2.alloc (.cells #[.int .i64 (b2.sp : Int), .int .i64 (b2.wait : Int), .int .i64 (b2.most : Int), .int .i64 (b2.time : Int), .int .i64 (b2.came : Int), .slice A' n' cap', .slice B' m' capB'] 50)).cell? ⟨g1, 8, none⟩ = some (.slice none 0 0) := HY.out.2.1.cell 8 rfl
    have s9 : (w2.alloc (.cells #[.int .i64 (b2.sp : Int), .int .i64 (b2.wait : Int), .int .i64 (b2.most : Int), .int .i64 (b2.time : Int), .int .i64 (b2.came : Int), .slice A' n' cap', .slice B' m' capB'] 50)).cell? ⟨g1, 9, none⟩ = some (.int .u64 (rv : Int)) := HY.out.2.1.cell 9 rfl
    have HO := Lib.hid (show Calls Try.prog 12 #[.pointer (some ⟨S, 0, none⟩), .int .i64 t, .agg #[.int .u64 (hi : Int), .int .u64 (lo : Int), .int .u64 (id : Int), .int .u64 (pa : Int), .string nm, .int .i64 st, .int .i64 en, .bool bad, .slice none 0 0, .int .u64 (rv : Int)]] (w2.alloc (.cells #[.int .i64 (b2.sp : Int), .int .i64 (b2.wait : Int), .int .i64 (b2.most : Int), .int .i64 (b2.time : Int), .int .i64 (b2.came : Int), .slice A' n' cap', .slice B' m' capB'] 50)) _ from (HBO.out.ob.later (by rw [HN0.out]; exact HY.out.2.2.2.1)).offer t ⟨hi, lo, id, pa, nm, st, en, bad, rv⟩ HU.out hc (b2, v1, v2) HFO.out)
    clear hbk hlt2 HRF2 HB2 HX
    go_wp2_with fail
    refine HO.out.mono ?_
    rintro e w3 ⟨rfl, bs', HO3, HM3⟩
    clear HO s0 s1 s2 s3 s4 s5 s6 s7 s8 s9
    have hnb : ∀ k, n0 ≤ k → k ∉ bs := fun k hk hm => by have := HBO.out.ob.1.lt k hm; have := HN0.out; omega
    have hz1 : Blk w3 (n0 + 2) #[.int .i64 0, .int .i64 0, .int .i64 0, .int .i64 0, .int .i64 0, .slice none 0 0, .slice none 0 0] 50 := HY.out.1.mut HM3.out.1 (hnb _ (by omega))
    have hz2 : Blk w3 g2 #[.int .i64 (b2.sp : Int), .int .i64 (b2.wait : Int), .int .i64 (b2.most : Int), .int .i64 (b2.time : Int), .int .i64 (b2.came : Int), .slice A' n' cap', .slice B' m' capB'] 50 := HY.out.2.2.1.mut HM3.out.1 (hnb _ (by have := HLT.out; have := HLT2.out; omega))
    have HZ := Lib.hid hz1
    have hR3 : RfIn (· ∉ (n0 + 2) :: bs') w3 b2 ⟨A', n', cap', B', m', capB'⟩ := HY.out.2.2.2.2.mut (HM3.out.1.wider fun k hk => List.mem_cons_of_mem _ hk) fun k hk => (List.mem_cons.1 hk).elim (fun e => .inl (by simp [e])) fun e => (HM3.out.2 k e).imp (List.mem_cons_of_mem _) fun h => h
    have HE := Lib.hid (do_end (q := n0 + 2) (W := W) (bs := bs) HO3.out hR3 (HM3.out.2.not (hnb _ (by omega)) HY.out.1.lt) (by rw [HN0.out]; exact hw0) (by have := HN0.out; omega) hz1 ((Mut.of_below (by rw [HN0.out]; exact HY.out.2.2.2.1)).trans HM3.out.1) (rfC b2 ⟨A', n', cap', B', m', capB'⟩))
    have HXT := Lib.hid (show Ext W bs bs' from fun k hk => (HM3.out.2 k hk).imp (fun h => h) fun h => Nat.le_trans (by have := HY.out.2.2.2.1.size; have := HN0.out; omega) h)
    have z0 : w3.cell? ⟨g2, 0, none⟩ = some (.int .i64 (b2.sp : Int)) := hz2.cell 0 rfl
    have z1 : w3.cell? ⟨g2, 1, none⟩ = some (.int .i64 (b2.wait : Int)) := hz2.cell 1 rfl
    have z2 : w3.cell? ⟨g2, 2, none⟩ = some (.int .i64 (b2.most : Int)) := hz2.cell 2 rfl
    have z3 : w3.cell? ⟨g2, 3, none⟩ = some (.int .i64 (b2.time : Int)) := hz2.cell 3 rfl
    have z4 : w3.cell? ⟨g2, 4, none⟩ = some (.int .i64 (b2.came : Int)) := hz2.cell 4 rfl
    have z5 : w3.cell? ⟨g2, 5, none⟩ = some (.slice A' n' cap') := hz2.cell 5 rfl
    have z6 : w3.cell? ⟨g2, 6, none⟩ = some (.slice B' m' capB') := hz2.cell 6 rfl
    clear hnb hz1 hz2 hR3 HO3 HM3 HY
    go_wp2_with (first
      | (with_reducible refine wpList_store_row rfl 50 (.tmp 8) _ rfl (n0 + 2) (rfC b2 ⟨A', n', cap', B', m', capB'⟩) (by with_unfolding_all exact rfl) (by with_unfolding_all exact rfl) 50 #[.int .i64 0, .int .i64 0, .int .i64 0, .int .i64 0, .int .i64 0, .slice none 0 0, .slice none 0 0] (by with_unfolding_all exact HZ.out) (by kernel_rfl) (by with_unfolding_all exact rfl) (rfC_one _ _) ?_)
      | fail)
    refine bodyPost_ret (do_results (b := b2) (r := ⟨A', n', cap', B', m', capB'⟩) rfl HE.out.1 rfl rfl) rfl ?_
    exact ⟨⟨A', n', cap', B', m', capB'⟩, bs', rfl, Lib.hid HE.out.2.1, Lib.hid ⟨HE.out.2.2, HXT.out⟩⟩
end Go.Proofs.Ythpcnnkdpgjiiaa
