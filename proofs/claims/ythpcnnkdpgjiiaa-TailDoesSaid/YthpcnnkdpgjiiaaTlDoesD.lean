/-
  The law's does: Due.
-/
import Derived.Test.YthpcnnkdpgjiiaaTlDocs
import Derived.Test.YthpcnnkdpgjiiaaTlGroups
namespace Go.Proofs.Ythpcnnkdpgjiiaa
open Go.RowKit Go.Maps Go.Proofs.HeapMath Go.Proofs.TailMath

set_option linter.unusedSimpArgs false in
set_option maxRecDepth 100000 in
set_option maxHeartbeats 8000000 in
theorem does_due (d : De) (t : Int) (hd : d.ok) (hw : d.what % 5 = 3) {w₀ W : World} {S : Nat} {b : St} {bs : List Nat} {r : Rf} (h : Bo w₀ W S b bs r) (hc : b.came ≤ 1000000000) :
    Calls Try.prog 17 #[.pointer (some ⟨S, 0, none⟩), rfV b r, .int .i64 t, .agg #[.int .u8 (d.what : Int), .int .u8 (d.after : Int), .int .u8 (d.trace : Int), .int .u8 (d.more : Int)]] W (DoTo w₀ W S (if okT b t = true then (dued (at_ b t.toNat) t, dueL t b.L, 0) else (b, [], 60) : St × List Gr × Nat).1 bs) := by
  have hlens := h.lens
  obtain ⟨A, n, cap, B, m, capB⟩ := r
  obtain ⟨n0, hn0⟩ : ∃ x, W.heap.size = x := ⟨_, rfl⟩
  have hw0 : w₀.heap.size ≤ n0 := by have := h.ob.2.1.size; omega
  have hS : S < n0 := by have := h.ob.1.lt S (Tb.S_mem h.ob.1); omega
  obtain ⟨s, hs⟩ : ∃ s, ofSp d = s := ⟨_, rfl⟩
  have hu : u64 s.hi ∧ u64 s.lo := hs ▸ ofU d
  obtain ⟨⟨b2, L, er⟩, hfo⟩ : ∃ x, (if okT b t = true then (dued (at_ b t.toNat) t, dueL t b.L, 0) else (b, [], 60) : St × List Gr × Nat) = x := ⟨_, rfl⟩
  obtain ⟨N, hnl⟩ : ∃ N, L.length = N := ⟨_, rfl⟩
  have hv := h.ob.1.iv
  have hsub : (∀ g ∈ L, g ∈ b.L) ∧ L.length ≤ b.L.length ∧ er ≤ 60 := by
    cases e : okT b t
    · rw [e, if_neg (by simp)] at hfo
      injection hfo with h1 hfo
      injection hfo with h2 h3
      subst h2 h3
      simp
    · rw [e, if_pos rfl] at hfo
      injection hfo with h1 hfo
      injection hfo with h2 h3
      subst h2 h3
      exact ⟨fun g hg => (List.takeWhile_sublist _).subset hg, (List.takeWhile_sublist _).length_le, by omega⟩
  have HSM := Lib.hid (show ∀ g ∈ L, g.spans.length ≤ 5000 from fun g hg => by
    obtain ⟨x, y, e⟩ := List.append_of_mem (hsub.1 g hg)
    have h1 := hv.tot
    have h2 := hv.sp
    rw [e, tot_split] at h1
    omega)
  have hN5 : N ≤ 5000 := by have := h.rf.n; have := hlens.1; have := hsub.2.1; simp only at *; omega
  have her : er ≤ 60 := hsub.2.2
  rw [hfo]
  have HFO := Lib.hid hfo
  have HNL := Lib.hid hnl
  have HWR : Hid (IntKind.i64.wrap (er : Int) = (er : Int)) := Lib.hid (IntWalk.i64_in _ (by omega))
  clear hfo hnl hv hsub
  have HOF := Lib.hid (fun W' => show Calls Try.prog 21 #[.agg #[.int .u8 (d.what : Int), .int .u8 (d.after : Int), .int .u8 (d.trace : Int), .int .u8 (d.more : Int)]] W' (fun e w' => e = .returned (spV s) ∧ Below W'.heap.size W' w') from hs ▸ of_any d W' hd)
  have HU := Lib.hid hu
  have HBO := Lib.hid h
  have HLN := Lib.hid hlens
  obtain ⟨hi, lo, id, pa, nm, st, en, bad, rv⟩ := s
  obtain ⟨dw, da, dt, dm⟩ := d
  simp only at HOF hw
  unfold spV at HOF
  unfold rfV
  have HW0 := Lib.hid (show Blk (((W.alloc (.cells #[.int .i64 (b.sp : Int), .int .i64 (b.wait : Int), .int .i64 (b.most : Int), .int .i64 (b.time : Int), .int .i64 (b.came : Int), .slice A n cap, .slice B m capB] 50)).alloc (.cells #[.int .u8 (dw : Int), .int .u8 (da : Int), .int .u8 (dt : Int), .int .u8 (dm : Int)] 54)).alloc (.cells #[.int .i64 0, .int .i64 0, .int .i64 0, .int .i64 0, .int .i64 0, .slice none 0 0, .slice none 0 0] 50)) n0 #[.int .i64 (b.sp : Int), .int .i64 (b.wait : Int), .int .i64 (b.most : Int), .int .i64 (b.time : Int), .int .i64 (b.came : Int), .slice A n cap, .slice B m capB] 50 ∧ Blk (((W.alloc (.cells #[.int .i64 (b.sp : Int), .int .i64 (b.wait : Int), .int .i64 (b.most : Int), .int .i64 (b.time : Int), .int .i64 (b.came : Int), .slice A n cap, .slice B m capB] 50)).alloc (.cells #[.int .u8 (dw : Int), .int .u8 (da : Int), .int .u8 (dt : Int), .int .u8 (dm : Int)] 54)).alloc (.cells #[.int .i64 0, .int .i64 0, .int .i64 0, .int .i64 0, .int .i64 0, .slice none 0 0, .slice none 0 0] 50)) (n0 + 1) #[.int .u8 (dw : Int), .int .u8 (da : Int), .int .u8 (dt : Int), .int .u8 (dm : Int)] 54 ∧ Blk (((W.alloc (.cells #[.int .i64 (b.sp : Int), .int .i64 (b.wait : Int), .int .i64 (b.most : Int), .int .i64 (b.time : Int), .int .i64 (b.came : Int), .slice A n cap, .slice B m capB] 50)).alloc (.cells #[.int .u8 (dw : Int), .int .u8 (da : Int), .int .u8 (dt : Int), .int .u8 (dm : Int)] 54)).alloc (.cells #[.int .i64 0, .int .i64 0, .int .i64 0, .int .i64 0, .int .i64 0, .slice none 0 0, .slice none 0 0] 50)) (n0 + 2) #[.int .i64 0, .int .i64 0, .int .i64 0, .int .i64 0, .int .i64 0, .slice none 0 0, .slice none 0 0] 50 ∧ Below n0 W (((W.alloc (.cells #[.int .i64 (b.sp : Int), .int .i64 (b.wait : Int), .int .i64 (b.most : Int), .int .i64 (b.time : Int), .int .i64 (b.came : Int), .slice A n cap, .slice B m capB] 50)).alloc (.cells #[.int .u8 (dw : Int), .int .u8 (da : Int), .int .u8 (dt : Int), .int .u8 (dm : Int)] 54)).alloc (.cells #[.int .i64 0, .int .i64 0, .int .i64 0, .int .i64 0, .int .i64 0, .slice none 0 0, .slice none 0 0] 50)) from by
    subst hn0
    have b0 := blk_new W #[.int .i64 (b.sp : Int), .int .i64 (b.wait : Int), .int .i64 (b.most : Int), .int .i64 (b.time : Int), .int .i64 (b.came : Int), .slice A n cap, .slice B m capB] 50
    have b1 := blk_new (W.alloc (.cells #[.int .i64 (b.sp : Int), .int .i64 (b.wait : Int), .int .i64 (b.most : Int), .int .i64 (b.time : Int), .int .i64 (b.came : Int), .slice A n cap, .slice B m capB] 50)) #[.int .u8 (dw : Int), .int .u8 (da : Int), .int .u8 (dt : Int), .int .u8 (dm : Int)] 54
    have b2 := blk_new ((W.alloc (.cells #[.int .i64 (b.sp : Int), .int .i64 (b.wait : Int), .int .i64 (b.most : Int), .int .i64 (b.time : Int), .int .i64 (b.came : Int), .slice A n cap, .slice B m capB] 50)).alloc (.cells #[.int .u8 (dw : Int), .int .u8 (da : Int), .int .u8 (dt : Int), .int .u8 (dm : Int)] 54)) #[.int .i64 0, .int .i64 0, .int .i64 0, .int .i64 0, .int .i64 0, .slice none 0 0, .slice none 0 0] 50
    rw [World.size_alloc] at b1
    rw [World.size_alloc, World.size_alloc] at b2
    exact ⟨(b0.same (Below.heap_alloc _ _ _ (by simp))).same (Below.heap_alloc _ _ _ (by simp; omega)), b1.same (Below.heap_alloc _ _ _ (by simp)), b2, ((box_below _).alloc (by simp) _).alloc (by simp; omega) _⟩)
  have HN0 := Lib.hid hn0
  have HS := Lib.hid hs
  clear h hd hu hs hlens
  go_enter Try.func17, Try.ntmps17
  go_wp2_with fail
  refine (HOF.out _).mono ?_
  rintro e w1 ⟨rfl, hb1⟩
  obtain ⟨g1, hg1⟩ : ∃ x, w1.heap.size = x := ⟨_, rfl⟩
  have hbk := hg1 ▸ blk_new w1 #[.int .u64 (hi : Int), .int .u64 (lo : Int), .int .u64 (id : Int), .int .u64 (pa : Int), .string nm, .int .i64 st, .int .i64 en, .bool bad, .slice none 0 0, .int .u64 (rv : Int)] 35
  have hlt : n0 + 3 ≤ g1 := by have h1 := HW0.out.2.2.1.lt; have := hb1.size; omega
  have hbb : Below n0 W (w1.alloc (.cells #[.int .u64 (hi : Int), .int .u64 (lo : Int), .int .u64 (id : Int), .int .u64 (pa : Int), .string nm, .int .i64 st, .int .i64 en, .bool bad, .slice none 0 0, .int .u64 (rv : Int)] 35)) := HW0.out.2.2.2.trans ((hb1.trans ((box_below _).mono hb1.size)).mono (by have := HW0.out.1.lt; omega))
  have HX := Lib.hid (show Blk (w1.alloc (.cells #[.int .u64 (hi : Int), .int .u64 (lo : Int), .int .u64 (id : Int), .int .u64 (pa : Int), .string nm, .int .i64 st, .int .i64 en, .bool bad, .slice none 0 0, .int .u64 (rv : Int)] 35)) n0 #[.int .i64 (b.sp : Int), .int .i64 (b.wait : Int), .int .i64 (b.most : Int), .int .i64 (b.time : Int), .int .i64 (b.came : Int), .slice A n cap, .slice B m capB] 50 ∧ Blk (w1.alloc (.cells #[.int .u64 (hi : Int), .int .u64 (lo : Int), .int .u64 (id : Int), .int .u64 (pa : Int), .string nm, .int .i64 st, .int .i64 en, .bool bad, .slice none 0 0, .int .u64 (rv : Int)] 35)) (n0 + 1) #[.int .u8 (dw : Int), .int .u8 (da : Int), .int .u8 (dt : Int), .int .u8 (dm : Int)] 54 ∧ Blk (w1.alloc (.cells #[.int .u64 (hi : Int), .int .u64 (lo : Int), .int .u64 (id : Int), .int .u64 (pa : Int), .string nm, .int .i64 st, .int .i64 en, .bool bad, .slice none 0 0, .int .u64 (rv : Int)] 35)) (n0 + 2) #[.int .i64 0, .int .i64 0, .int .i64 0, .int .i64 0, .int .i64 0, .slice none 0 0, .slice none 0 0] 50 ∧ Blk (w1.alloc (.cells #[.int .u64 (hi : Int), .int .u64 (lo : Int), .int .u64 (id : Int), .int .u64 (pa : Int), .string nm, .int .i64 st, .int .i64 en, .bool bad, .slice none 0 0, .int .u64 (rv : Int)] 35)) g1 #[.int .u64 (hi : Int), .int .u64 (lo : Int), .int .u64 (id : Int), .int .u64 (pa : Int), .string nm, .int .i64 st, .int .i64 en, .bool bad, .slice none 0 0, .int .u64 (rv : Int)] 35 ∧ Below n0 W (w1.alloc (.cells #[.int .u64 (hi : Int), .int .u64 (lo : Int), .int .u64 (id : Int), .int .u64 (pa : Int), .string nm, .int .i64 st, .int .i64 en, .bool bad, .slice none 0 0, .int .u64 (rv : Int)] 35)) from
    ⟨(HW0.out.1.later hb1).later (box_below _), (HW0.out.2.1.later hb1).later (box_below _), (HW0.out.2.2.1.later hb1).later (box_below _), hbk, hbb⟩)
  have HLT := Lib.hid hlt
  clear hbk hbb hb1 hn0 HW0 HOF
  have q0 : (w1.alloc (.cells #[.int .u64 (hi : Int), .int .u64 (lo : Int), .int .u64 (id : Int), .int .u64 (pa : Int), .string nm, .int .i64 st, .int .i64 en, .bool bad, .slice none 0 0, .int .u64 (rv : Int)] 35)).cell? ⟨n0, 0, none⟩ = some (.int .i64 (b.sp : Int)) := HX.out.1.cell 0 rfl
  have q1 : (w1.alloc (.cells #[.int .u64 (hi : Int), .int .u64 (lo : Int), .int .u64 (id : Int), .int .u64 (pa : Int), .string nm, .int .i64 st, .int .i64 en, .bool bad, .slice none 0 0, .int .u64 (rv : Int)] 35)).cell? ⟨n0, 1, none⟩ = some (.int .i64 (b.wait : Int)) := HX.out.1.cell 1 rfl
  have q2 : (w1.alloc (.cells #[.int .u64 (hi : Int), .int .u64 (lo : Int), .int .u64 (id : Int), .int .u64 (pa : Int), .string nm, .int .i64 st, .int .i64 en, .bool bad, .slice none 0 0, .int .u64 (rv : Int)] 35)).cell? ⟨n0, 2, none⟩ = some (.int .i64 (b.most : Int)) := HX.out.1.cell 2 rfl
  have q3 : (w1.alloc (.cells #[.int .u64 (hi : Int), .int .u64 (lo : Int), .int .u64 (id : Int), .int .u64 (pa : Int), .string nm, .int .i64 st, .int .i64 en, .bool bad, .slice none 0 0, .int .u64 (rv : Int)] 35)).cell? ⟨n0, 3, none⟩ = some (.int .i64 (b.time : Int)) := HX.out.1.cell 3 rfl
  have q4 : (w1.alloc (.cells #[.int .u64 (hi : Int), .int .u64 (lo : Int), .int .u64 (id : Int), .int .u64 (pa : Int), .string nm, .int .i64 st, .int .i64 en, .bool bad, .slice none 0 0, .int .u64 (rv : Int)] 35)).cell? ⟨n0, 4, none⟩ = some (.int .i64 (b.came : Int)) := HX.out.1.cell 4 rfl
  have q5 : (w1.alloc (.cells #[.int .u64 (hi : Int), .int .u64 (lo : Int), .int .u64 (id : Int), .int .u64 (pa : Int), .string nm, .int .i64 st, .int .i64 en, .bool bad, .slice none 0 0, .int .u64 (rv : Int)] 35)).cell? ⟨n0, 5, none⟩ = some (.slice A n cap) := HX.out.1.cell 5 rfl
  have q6 : (w1.alloc (.cells #[.int .u64 (hi : Int), .int .u64 (lo : Int), .int .u64 (id : Int), .int .u64 (pa : Int), .string nm, .int .i64 st, .int .i64 en, .bool bad, .slice none 0 0, .int .u64 (rv : Int)] 35)).cell? ⟨n0, 6, none⟩ = some (.slice B m capB) := HX.out.1.cell 6 rfl
  have e0 : (w1.alloc (.cells #[.int .u64 (hi : Int), .int .u64 (lo : Int), .int .u64 (id : Int), .int .u64 (pa : Int), .string nm, .int .i64 st, .int .i64 en, .bool bad, .slice none 0 0, .int .u64 (rv : Int)] 35)).cell? ⟨n0 + 1, 0, none⟩ = some (.int .u8 (dw : Int)) := HX.out.2.1.cell 0 rfl
  have HRF := Lib.hid (show RfIn (· ∉ (n0 + 2) :: bs) (w1.alloc (.cells #[.int .u64 (hi : Int), .int .u64 (lo : Int), .int .u64 (id : Int), .int .u64 (pa : Int), .string nm, .int .i64 st, .int .i64 en, .bool bad, .slice none 0 0, .int .u64 (rv : Int)] 35)) b ⟨A, n, cap, B, m, capB⟩ from (HBO.out.rf.more (n0 + 2) (by have := HN0.out; omega)).later (by rw [HN0.out]; exact HX.out.2.2.2.2))
  have HFR := Lib.hid (show ∀ k, (w1.alloc (.cells #[.int .u64 (hi : Int), .int .u64 (lo : Int), .int .u64 (id : Int), .int .u64 (pa : Int), .string nm, .int .i64 st, .int .i64 en, .bool bad, .slice none 0 0, .int .u64 (rv : Int)] 35)).heap.size ≤ k → k ∉ (n0 + 2) :: bs from fun k hk hm => by
    have h1 := HX.out.2.2.1.lt
    have h2 := HX.out.2.2.2.2.size
    rcases List.mem_cons.1 hm with e | e
    · omega
    · have := HBO.out.ob.1.lt k e; have := HN0.out; omega)
  have HC1 := Lib.hid (show Calls Try.prog 33 #[.agg #[.int .i64 (b.sp : Int), .int .i64 (b.wait : Int), .int .i64 (b.most : Int), .int .i64 (b.time : Int), .int .i64 (b.came : Int), .slice A n cap, .slice B m capB], .int .i64 t] (w1.alloc (.cells #[.int .u64 (hi : Int), .int .u64 (lo : Int), .int .u64 (id : Int), .int .u64 (pa : Int), .string nm, .int .i64 st, .int .i64 en, .bool bad, .slice none 0 0, .int .u64 (rv : Int)] 35)) _ from docDue HRF.out HBO.out.ob.1.iv HLN.out.1 HFR.out t b2 L er HFO.out)
  have hx : (dw : Int) % 5 = 3 := by omega
  clear hw HFR HRF
  go_wp2_with fail
  refine HC1.out.mono ?_
  rintro e w2 ⟨A', n', cap', B', m', capB', V, k, c, l, rfl, HRF2, HTC, HLL, hlk, hkc, HB2⟩
  obtain rfl : N = k := by
    have h1 := HNL.out
    rw [← HLL.out, List.length_map] at h1
    omega
  clear HC1 q0 q1 q2 q3 q4 q5 q6 e0 hlt hx
  obtain ⟨g2, hg2⟩ : ∃ x, w2.heap.size = x := ⟨_, rfl⟩
  have hlt2 : g1 < g2 := by have h1 := HX.out.2.2.2.1.lt; have := HB2.out.size; omega
  have hbk := hg2 ▸ blk_new w2 #[.int .i64 (b2.sp : Int), .int .i64 (b2.wait : Int), .int .i64 (b2.most : Int), .int .i64 (b2.time : Int), .int .i64 (b2.came : Int), .slice A' n' cap', .slice B' m' capB'] 50
  have HY := Lib.hid (show Blk (w2.alloc (.cells #[.int .i64 (b2.sp : Int), .int .i64 (b2.wait : Int), .int .i64 (b2.most : Int), .int .i64 (b2.time : Int), .int .i64 (b2.came : Int), .slice A' n' cap', .slice B' m' capB'] 50)) (n0 + 2) #[.int .i64 0, .int .i64 0, .int .i64 0, .int .i64 0, .int .i64 0, .slice none 0 0, .slice none 0 0] 50 ∧ Blk (w2.alloc (.cells #[.int .i64 (b2.sp : Int), .int .i64 (b2.wait : Int), .int .i64 (b2.most : Int), .int .i64 (b2.time : Int), .int .i64 (b2.came : Int), .slice A' n' cap', .slice B' m' capB'] 50)) g1 #[.int .u64 (hi : Int), .int .u64 (lo : Int), .int .u64 (id : Int), .int .u64 (pa : Int), .string nm, .int .i64 st, .int .i64 en, .bool bad, .slice none 0 0, .int .u64 (rv : Int)] 35 ∧ Blk (w2.alloc (.cells #[.int .i64 (b2.sp : Int), .int .i64 (b2.wait : Int), .int .i64 (b2.most : Int), .int .i64 (b2.time : Int), .int .i64 (b2.came : Int), .slice A' n' cap', .slice B' m' capB'] 50)) g2 #[.int .i64 (b2.sp : Int), .int .i64 (b2.wait : Int), .int .i64 (b2.most : Int), .int .i64 (b2.time : Int), .int .i64 (b2.came : Int), .slice A' n' cap', .slice B' m' capB'] 50 ∧ Below n0 W (w2.alloc (.cells #[.int .i64 (b2.sp : Int), .int .i64 (b2.wait : Int), .int .i64 (b2.most : Int), .int .i64 (b2.time : Int), .int .i64 (b2.came : Int), .slice A' n' cap', .slice B' m' capB'] 50)) ∧ RfIn (· ∉ (n0 + 2) :: bs) (w2.alloc (.cells #[.int .i64 (b2.sp : Int), .int .i64 (b2.wait : Int), .int .i64 (b2.most : Int), .int .i64 (b2.time : Int), .int .i64 (b2.came : Int), .slice A' n' cap', .slice B' m' capB'] 50)) b2 ⟨A', n', cap', B', m', capB'⟩ from
    ⟨(HX.out.2.2.1.later HB2.out).later (box_below _), (HX.out.2.2.2.1.later HB2.out).later (box_below _), hbk, HX.out.2.2.2.2.trans ((HB2.out.trans ((box_below _).mono HB2.out.size)).mono (by have := HX.out.1.lt; omega)), HRF2.out.later (box_below _)⟩)
  have HT := Lib.hid (show ToldC (w2.alloc (.cells #[.int .i64 (b2.sp : Int), .int .i64 (b2.wait : Int), .int .i64 (b2.most : Int), .int .i64 (b2.time : Int), .int .i64 (b2.came : Int), .slice A' n' cap', .slice B' m' capB'] 50)) V l ∧ FarT (· ∉ bs) V l from ⟨HTC.out.1.later (box_below _), fun h0 g hg hm => HTC.out.2.1 h0 g hg (List.mem_cons_of_mem _ hm), fun x hx h0 g hg hm => HTC.out.2.2 x hx h0 g hg (List.mem_cons_of_mem _ hm)⟩)
  have HLT2 := Lib.hid hlt2
  have HO := Lib.hid ((HBO.out.ob.later (W' := (w2.alloc (.cells #[.int .i64 (b2.sp : Int), .int .i64 (b2.wait : Int), .int .i64 (b2.most : Int), .int .i64 (b2.time : Int), .int .i64 (b2.came : Int), .slice A' n' cap', .slice B' m' capB'] 50))) (by rw [HN0.out]; exact HY.out.2.2.2.1)).dueAny hc t b2 L er N HFO.out HNL.out)
  clear hbk hlt2 HRF2 HB2 HX HTC
  go_wp2_with fail
  refine HO.out.mono ?_
  rintro e w3 ⟨V2, l2, rfl, HL2, HT2, bs', HO3, HM3⟩
  have hnb : ∀ k, n0 ≤ k → k ∉ bs := fun k hk hm => by have := HBO.out.ob.1.lt k hm; have := HN0.out; omega
  have hdr : Below w3.heap.size w3 w3.drew := ⟨rfl, rfl, rfl, Nat.le_refl _, fun _ _ => rfl⟩
  have hz1 : Blk w3.drew (n0 + 2) #[.int .i64 0, .int .i64 0, .int .i64 0, .int .i64 0, .int .i64 0, .slice none 0 0, .slice none 0 0] 50 := (HY.out.1.mut HM3.out.1 (hnb _ (by omega))).later hdr
  have hbd : Blk w3.drew g2 #[.int .i64 (b2.sp : Int), .int .i64 (b2.wait : Int), .int .i64 (b2.most : Int), .int .i64 (b2.time : Int), .int .i64 (b2.came : Int), .slice A' n' cap', .slice B' m' capB'] 50 := (HY.out.2.2.1.mut HM3.out.1 (hnb _ (by have := HLT.out; have := HLT2.out; omega))).later hdr
  have HZ := Lib.hid (And.intro hz1 hbd)
  have HG := Lib.hid (groups_any V2 V c l2 l L w3.drew N HL2.out HLL.out HNL.out hkc (HT2.out.later hdr) ((HT.out.1.mut HT.out.2 HM3.out.1).later hdr) HSM.out hN5)
  have HNB := Lib.hid hnb
  have hne : g2 ≠ n0 + 2 := by have := HLT.out; have := HLT2.out; omega
  clear HO hnb hz1 hdr HT HT2 HL2 HLL HSM
  go_wp2_with fail
  refine wp_region_held_drew (S := fun W => Blk W g2 #[.int .i64 (b2.sp : Int), .int .i64 (b2.wait : Int), .int .i64 (b2.most : Int), .int .i64 (b2.time : Int), .int .i64 (b2.came : Int), .slice A' n' cap', .slice B' m' capB'] 50) (by kernel_rfl) ?_ (fun hHeld => ?_)
  · exact hbd
  refine wpAnyH_take (i := 0) (v := ?_) rfl (by kernel_rfl) (by kernel_rfl) (by kernel_rfl) (fun _ _ _ h => h) (Or.inl ⟨by rfl, ?_⟩) (by assumption) ?_
  rotate_left
  · intro wq hSw; (try dsimp only at hSw); have z0 : wq.cell? ⟨g2, 0, none⟩ = some (.int .i64 (b2.sp : Int)) := Blk.cell hSw 0 rfl; have z1 : wq.cell? ⟨g2, 1, none⟩ = some (.int .i64 (b2.wait : Int)) := Blk.cell hSw 1 rfl; have z2 : wq.cell? ⟨g2, 2, none⟩ = some (.int .i64 (b2.most : Int)) := Blk.cell hSw 2 rfl; have z3 : wq.cell? ⟨g2, 3, none⟩ = some (.int .i64 (b2.time : Int)) := Blk.cell hSw 3 rfl; have z4 : wq.cell? ⟨g2, 4, none⟩ = some (.int .i64 (b2.came : Int)) := Blk.cell hSw 4 rfl; have z5 : wq.cell? ⟨g2, 5, none⟩ = some (.slice A' n' cap') := Blk.cell hSw 5 rfl; have z6 : wq.cell? ⟨g2, 6, none⟩ = some (.slice B' m' capB') := Blk.cell hSw 6 rfl; go_simp; (try with_reducible rfl)
  simp only [Act.put, List.getElem_toArray, List.getElem_cons_succ, List.getElem_cons_zero, List.setIfInBounds_toArray, List.set_cons_zero, List.set_cons_succ]
  refine wpAnyH_take (i := 1) (v := ?_) rfl (by kernel_rfl) (by kernel_rfl) (by kernel_rfl) (fun _ _ _ h => h) (Or.inl ⟨by rfl, ?_⟩) (by assumption) ?_
  rotate_left
  · intro wq hSw; (try dsimp only at hSw); go_simp; (try with_reducible rfl)
  simp only [Act.put, List.getElem_toArray, List.getElem_cons_succ, List.getElem_cons_zero, List.setIfInBounds_toArray, List.set_cons_zero, List.set_cons_succ]
  refine wpAnyH_take (i := 2) (v := ?_) rfl (by kernel_rfl) (by kernel_rfl) (by kernel_rfl) (fun _ _ _ h => h) (Or.inl ⟨by rfl, ?_⟩) (by assumption) ?_
  rotate_left
  · intro wq hSw; (try dsimp only at hSw); go_simp; (try with_reducible rfl)
  simp only [Act.put, List.getElem_toArray, List.getElem_cons_succ, List.getElem_cons_zero, List.setIfInBounds_toArray, List.set_cons_zero, List.set_cons_succ]
  refine wpAnyH_ready (rs := [3]) (by kernel_rfl) (by simp) ?_
  refine AllReadyH.cons rfl (fun K hK => ?_) AllReadyH.nil
  go_simp
  refine HG.out.mono ?_
  rintro e w5 ⟨rfl, HB5⟩
  have y1 : Blk w5 g2 #[.int .i64 (b2.sp : Int), .int .i64 (b2.wait : Int), .int .i64 (b2.most : Int), .int .i64 (b2.time : Int), .int .i64 (b2.came : Int), .slice A' n' cap', .slice B' m' capB'] 50 := HZ.out.2.later HB5.out
  have hz5 : Blk w5 (n0 + 2) #[.int .i64 0, .int .i64 0, .int .i64 0, .int .i64 0, .int .i64 0, .slice none 0 0, .slice none 0 0] 50 := HZ.out.1.later HB5.out
  have HZ5 := Lib.hid hz5
  have y10 : Blk (w5.setRow (n0 + 2) (rfC b2 ⟨A', n', cap', B', m', capB'⟩)) g2 #[.int .i64 (b2.sp : Int), .int .i64 (b2.wait : Int), .int .i64 (b2.most : Int), .int .i64 (b2.time : Int), .int .i64 (b2.came : Int), .slice A' n' cap', .slice B' m' capB'] 50 := y1.same (setRow_other _ _ _ _ hne)
  clear hz5
  (try go_wp2_with fail)
  refine hK.out _ _ ?_ (fun hHeld => ?_)
  · exact y1
  clear hK K
  try simp only [Act.put, List.getElem_toArray, List.getElem_cons_succ, List.getElem_cons_zero, List.setIfInBounds_toArray, List.set_cons_zero, List.set_cons_succ]
  refine wpAnyH_take (i := 4) (v := ?_) rfl (by kernel_rfl) (by kernel_rfl) (by kernel_rfl) (fun _ _ _ h => h) (Or.inl ⟨by rfl, ?_⟩) (by assumption) ?_
  rotate_left
  · intro wq hSw; (try dsimp only at hSw); go_simp; (try with_reducible rfl)
  simp only [Act.put, List.getElem_toArray, List.getElem_cons_succ, List.getElem_cons_zero, List.setIfInBounds_toArray, List.set_cons_zero, List.set_cons_succ]
  refine wpAnyH_take (i := 5) (v := ?_) rfl (by kernel_rfl) (by kernel_rfl) (by kernel_rfl) (fun _ _ _ h => h) (Or.inl ⟨by rfl, ?_⟩) (by assumption) ?_
  rotate_left
  · intro wq hSw; (try dsimp only at hSw); go_simp; (try with_reducible rfl)
  simp only [Act.put, List.getElem_toArray, List.getElem_cons_succ, List.getElem_cons_zero, List.setIfInBounds_toArray, List.set_cons_zero, List.set_cons_succ]
  refine wpAnyH_take (i := 6) (v := ?_) rfl (by kernel_rfl) (by kernel_rfl) (by kernel_rfl) (fun _ _ _ h => h) (Or.inl ⟨by rfl, ?_⟩) (by assumption) ?_
  rotate_left
  · intro wq hSw; (try dsimp only at hSw); have hwe := HWR.out; go_simp; (try with_reducible rfl)
  simp only [Act.put, List.getElem_toArray, List.getElem_cons_succ, List.getElem_cons_zero, List.setIfInBounds_toArray, List.set_cons_zero, List.set_cons_succ]
  refine wpAnyH_take (i := 7) (v := ?_) rfl (by kernel_rfl) (by kernel_rfl) (by kernel_rfl) (fun _ _ _ h => h) (Or.inl ⟨by rfl, ?_⟩) (by assumption) ?_
  rotate_left
  · intro wq hSw; (try dsimp only at hSw); go_simp; (try with_reducible rfl)
  simp only [Act.put, List.getElem_toArray, List.getElem_cons_succ, List.getElem_cons_zero, List.setIfInBounds_toArray, List.set_cons_zero, List.set_cons_succ]
  refine wpAnyH_take (i := 8) (v := ?_) rfl (by kernel_rfl) (by kernel_rfl) (by kernel_rfl) (fun _ _ _ h => h) (Or.inl ⟨by rfl, ?_⟩) (by assumption) ?_
  rotate_left
  · intro wq hSw; (try dsimp only at hSw); go_simp; (try with_reducible rfl)
  simp only [Act.put, List.getElem_toArray, List.getElem_cons_succ, List.getElem_cons_zero, List.setIfInBounds_toArray, List.set_cons_zero, List.set_cons_succ]
  refine wpAnyH_take (i := 9) (v := ?_) rfl (by kernel_rfl) (by kernel_rfl) (by kernel_rfl) (fun _ _ _ h => h) (Or.inl ⟨by rfl, ?_⟩) (by assumption) ?_
  rotate_left
  · intro wq hSw; (try dsimp only at hSw); go_simp; (try with_reducible rfl)
  simp only [Act.put, List.getElem_toArray, List.getElem_cons_succ, List.getElem_cons_zero, List.setIfInBounds_toArray, List.set_cons_zero, List.set_cons_succ]
  refine wpAnyH_ready (rs := [10]) (by kernel_rfl) (by simp) ?_
  refine AllReadyH.cons rfl (fun K hK => ?_) AllReadyH.nil
  refine wp_store_row 50 (.tmp 8) _ rfl (n0 + 2) (rfC b2 ⟨A', n', cap', B', m', capB'⟩) (by with_unfolding_all exact rfl) (by with_unfolding_all exact rfl) 50 #[.int .i64 0, .int .i64 0, .int .i64 0, .int .i64 0, .int .i64 0, .slice none 0 0, .slice none 0 0] (by with_unfolding_all exact HZ5.out) (by kernel_rfl) (by with_unfolding_all exact rfl) (rfC_one _ _) ?_
  refine hK.out _ _ ?_ (fun hHeld => ?_)
  · exact y10
  clear hK K
  try simp only [Act.put, List.getElem_toArray, List.getElem_cons_succ, List.getElem_cons_zero, List.setIfInBounds_toArray, List.set_cons_zero, List.set_cons_succ]
  refine wpAnyH_take (i := 11) (v := ?_) rfl (by kernel_rfl) (by kernel_rfl) (by kernel_rfl) (fun _ _ _ h => h) (Or.inl ⟨by rfl, ?_⟩) (by assumption) ?_
  rotate_left
  · intro wq hSw; (try dsimp only at hSw); go_simp; (try with_reducible rfl)
  simp only [Act.put, List.getElem_toArray, List.getElem_cons_succ, List.getElem_cons_zero, List.setIfInBounds_toArray, List.set_cons_zero, List.set_cons_succ]
  refine wpAnyH_done (by kernel_rfl) ?_ _
  clear hHeld
  have hb35 : Below w3.heap.size w3 w5 := ⟨HB5.out.os, HB5.out.tape, HB5.out.output, HB5.out.size, HB5.out.block⟩
  have hR3 : RfIn (· ∉ (n0 + 2) :: bs') w5 b2 ⟨A', n', cap', B', m', capB'⟩ := (HY.out.2.2.2.2.mut (HM3.out.1.wider fun k hk => List.mem_cons_of_mem _ hk) fun k hk => (List.mem_cons.1 hk).elim (fun e => .inl (by simp [e])) fun e => (HM3.out.2 k e).imp (List.mem_cons_of_mem _) fun h => h).later hb35
  have HE := Lib.hid (do_end (q := n0 + 2) (W := W) (bs := bs) (HO3.out.later hb35) hR3 (HM3.out.2.not (HNB.out _ (by omega)) HY.out.1.lt) (by rw [HN0.out]; exact hw0) (by have := HN0.out; omega) HZ5.out (((Mut.of_below (by rw [HN0.out]; exact HY.out.2.2.2.1)).trans HM3.out.1).trans (Mut.of_below hb35)) (rfC b2 ⟨A', n', cap', B', m', capB'⟩))
  have HXT := Lib.hid (show Ext W bs bs' from fun k hk => (HM3.out.2 k hk).imp (fun h => h) fun h => Nat.le_trans (by have := HY.out.2.2.2.1.size; have := HN0.out; omega) h)
  go_wp2_with fail
  refine bodyPost_ret (do_results (b := b2) (r := ⟨A', n', cap', B', m', capB'⟩) rfl HE.out.1 rfl rfl) rfl ?_
  exact ⟨⟨A', n', cap', B', m', capB'⟩, bs', rfl, Lib.hid HE.out.2.1, Lib.hid ⟨HE.out.2.2, HXT.out⟩⟩
end Go.Proofs.Ythpcnnkdpgjiiaa
