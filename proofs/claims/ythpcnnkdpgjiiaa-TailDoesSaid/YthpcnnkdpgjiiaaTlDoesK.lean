/-
  The law's does: Decide.
-/
import Derived.Test.YthpcnnkdpgjiiaaTlDocs
namespace Go.Proofs.Ythpcnnkdpgjiiaa
open Go.RowKit Go.Maps Go.Proofs.HeapMath Go.Proofs.TailMath

set_option linter.unusedSimpArgs false in
set_option maxRecDepth 100000 in
set_option maxHeartbeats 8000000 in
theorem does_decide (d : De) (t : Int) (hd : d.ok) (hw : d.what % 5 = 4) {w₀ W : World} {S : Nat} {b : St} {bs : List Nat} {r : Rf} (h : Bo w₀ W S b bs r) (_ : b.came ≤ 1000000000) :
    Calls Try.prog 17 #[.pointer (some ⟨S, 0, none⟩), rfV b r, .int .i64 t, .agg #[.int .u8 (d.what : Int), .int .u8 (d.after : Int), .int .u8 (d.trace : Int), .int .u8 (d.more : Int)]] W (DoTo w₀ W S (decided b (ofSp d).hi (ofSp d).lo (ayOf (d.more % 2 == 0))) bs) := by
  have hlens := h.lens
  obtain ⟨A, n, cap, B, m, capB⟩ := r
  obtain ⟨n0, hn0⟩ : ∃ x, W.heap.size = x := ⟨_, rfl⟩
  have hw0 : w₀.heap.size ≤ n0 := by have := h.ob.2.1.size; omega
  have hS : S < n0 := by have := h.ob.1.lt S (Tb.S_mem h.ob.1); omega
  obtain ⟨s, hs⟩ : ∃ s, ofSp d = s := ⟨_, rfl⟩
  have hu : u64 s.hi ∧ u64 s.lo := hs ▸ ofU d
  obtain ⟨b2, hpo⟩ : ∃ x, decided b s.hi s.lo (ayOf (d.more % 2 == 0)) = x := ⟨_, rfl⟩
  rw [hs, hpo]
  have HPO := Lib.hid hpo
  clear hpo
  have HOF := Lib.hid (fun W' => show Calls Try.prog 21 #[.agg #[.int .u8 (d.what : Int), .int .u8 (d.after : Int), .int .u8 (d.trace : Int), .int .u8 (d.more : Int)]] W' (fun e w' => e = .returned (spV s) ∧ Below W'.heap.size W' w') from hs ▸ of_any d W' hd)
  have HU := Lib.hid hu
  have HBO := Lib.hid h
  have HLN := Lib.hid hlens
  obtain ⟨hi, lo, id, pa, nm, st, en, bad, rv⟩ := s
  obtain ⟨dw, da, dt, dm⟩ := d
  simp only at HOF hw HPO
  unfold spV at HOF
  unfold rfV
  have HW0 := Lib.hid (show Blk (((W.alloc (.cells #[.int .i64 (b.sp : Int), .int .i64 (b.wait : Int), .int .i64 (b.most : Int), .int .i64 (b.time : Int), .int .i64 (b.came : Int), .slice A n cap, .slice B m capB] 50)).alloc (.cells #[.int .u8 (dw : Int), .int .u8 (da : Int), .int .u8 (dt : Int), .int .u8 (dm : Int)] 54)).alloc (.cells #[.int .i64 0, .int .i64 0, .int .i64 0, .int .i64 0, .int .i64 0, .slice none 0 0, .slice none 0 0] 50)) n0 #[.int .i64 (b.sp : Int), .int .i64 (b.wait : Int), .int .i64 (b.most : Int), .int .i64 (b.time : Int), .int .i64 (b.came : Int), .slice A n cap, .slice B m capB] 50 ∧ Blk (((W.alloc (.cells #[.int .i64 (b.sp : Int), .int .i64 (b.wait : Int), .int .i64 (b.most : Int), .int .i64 (b.time : Int), .int .i64 (b.came : Int), .slice A n cap, .slice B m capB] 50)).alloc (.cells #[.int .u8 (dw : Int), .int .u8 (da : Int), .int .u8 (dt : Int), .int .u8 (dm : Int)] 54)).alloc (.cells #[.int .i64 0, .int .i64 0, .int .i64 0, .int .i64 0, .int .i64 0, .slice none 0 0, .slice none 0 0] 50)) (n0 + 1) #[.int .u8 (dw : Int), .int .u8 (da : Int), .int .u8 (dt : Int), .int .u8 (dm : Int)] 54 ∧ Blk (((W.alloc (.cells #[.int .i64 (b.sp : Int), .int .i64 (b.wait : Int), .int .i64 (b.most : Int), .int .i64 (b.time : Int), .int .i64 (b.came : Int), .slice A n cap, .slice B m capB] 50)).alloc (.cells #[.int .u8 (dw : Int), .int .u8 (da : Int), .int .u8 (dt : Int), .int .u8 (dm : Int)] 54)).alloc (.cells #[.int .i64 0, .int .i64 0, .int .i64 0, .int .i64 0, .int .i64 0, .slice none 0 0, .slice none 0 0] 50)) (n0 + 2) #[.int .i64 0, .int .i64 0, .int .i64 0, .int .i64 0, .int .i64 0, .slice none 0 0, .slice none 0 0] 50 ∧ Below n0 W (((W.alloc (.cells #[.int .i64 (b.sp : Int), .int .i64 (b.wait : Int), .int .i64 (b.most : Int), .int .i64 (b.time : Int), .int .i64 (b.came : Int), .slice A n cap, .slice B m capB] 50)).alloc (.cells #[.int .u8 (dw : Int), .int .u8 (da : Int), .int .u8 (dt : Int), .int .u8 (dm : Int)] 54)).alloc (.cells #[.int .i64 0, .int .i64 0, .int .i64 0, .int .i64 0, .int .i64 0, .slice none 0 0, .slice none 0 0] 50)) from by
    subst hn0
    have b0 := blk_new W #[.int .i64 (b.sp : Int), .int .i64 (b.wait : Int), .int .i64 (b.most : Int), .int .i64 (b.time : Int), .int .i64 (b.came : Int), .slice A n cap, .slice B m capB] 50
    have b1 := blk_new (W.alloc (.cells #[.int .i64 (b.sp : Int), .int .i64 (b.wait : Int), .int .i64 (b.most : Int), .int .i64 (b.time : Int), .int .i64 (b.came : Int), .slice A n cap, .slice B m capB] 50)) #[.int .u8 (dw : Int), .int .u8 (da : Int), .int .u8 (dt : Int), .int .u8 (dm : Int)] 54
    have b2 := blk_new ((W.alloc (.cells #[.int .i64 (b.sp : Int), .int .i64 (b.wait : Int), .int .i64 (b.most : Int), .int .i64 (b.time : Int), .int .i64 (b.came : Int), .slice A n cap, .slice B m capB] 50)).alloc (.cells #[.int .u8 (dw : Int), .int .u8 (da : Int), .int .u8 (dt : Int), .int .u8 (dm : Int)] 54)) #[.int .i64 0, .int .i64 0, .int .i64 0, .int .i64 0, .int .i64 0, .slice none 0 0, .slice none 0 0] 50
    rw [World.size_alloc] at b1
    rw [World.size_alloc, World.size_alloc] at b2
    exact ⟨(b0.same (Below.heap_alloc _ _ _ (by simp))).same (Below.heap_alloc _ _ _ (by simp; omega)), b1.same (Below.heap_alloc _ _ _ (by simp)), b2, ((box_below _).alloc (by simp) _).alloc (by simp; omega) _⟩)
  have HN0 := Lib.hid hn0
  have HS := Lib.hid hs
  clear h hd hu hs hlens
  go_enter Try.func17, Try.ntmps17
  go_wp2_with fail
  refine (HOF.out _).mono ?_
  rintro e w1 ⟨rfl, hb1⟩
  obtain ⟨g1, hg1⟩ : ∃ x, w1.heap.size = x := ⟨_, rfl⟩
  have hbk := hg1 ▸ blk_new w1 #[.int .u64 (hi : Int), .int .u64 (lo : Int), .int .u64 (id : Int), .int .u64 (pa : Int), .string nm, .int .i64 st, .int .i64 en, .bool bad, .slice none 0 0, .int .u64 (rv : Int)] 35
  have hlt : n0 + 3 ≤ g1 := by have h1 := HW0.out.2.2.1.lt; have := hb1.size; omega
  have hbb : Below n0 W (w1.alloc (.cells #[.int .u64 (hi : Int), .int .u64 (lo : Int), .int .u64 (id : Int), .int .u64 (pa : Int), .string nm, .int .i64 st, .int .i64 en, .bool bad, .slice none 0 0, .int .u64 (rv : Int)] 35)) := HW0.out.2.2.2.trans ((hb1.trans ((box_below _).mono hb1.size)).mono (by have := HW0.out.1.lt; omega))
  have HX := Lib.hid (show Blk (w1.alloc (.cells #[.int .u64 (hi : Int), .int .u64 (lo : Int), .int .u64 (id : Int), .int .u64 (pa : Int), .string nm, .int .i64 st, .int .i64 en, .bool bad, .slice none 0 0, .int .u64 (rv : Int)] 35)) n0 #[.int .i64 (b.sp : Int), .int .i64 (b.wait : Int), .int .i64 (b.most : Int), .int .i64 (b.time : Int), .int .i64 (b.came : Int), .slice A n cap, .slice B m capB] 50 ∧ Blk (w1.alloc (.cells #[.int .u64 (hi : Int), .int .u64 (lo : Int), .int .u64 (id : Int), .int .u64 (pa : Int), .string nm, .int .i64 st, .int .i64 en, .bool bad, .slice none 0 0, .int .u64 (rv : Int)] 35)) (n0 + 1) #[.int .u8 (dw : Int), .int .u8 (da : Int), .int .u8 (dt : Int), .int .u8 (dm : Int)] 54 ∧ Blk (w1.alloc (.cells #[.int .u64 (hi : Int), .int .u64 (lo : Int), .int .u64 (id : Int), .int .u64 (pa : Int), .string nm, .int .i64 st, .int .i64 en, .bool bad, .slice none 0 0, .int .u64 (rv : Int)] 35)) (n0 + 2) #[.int .i64 0, .int .i64 0, .int .i64 0, .int .i64 0, .int .i64 0, .slice none 0 0, .slice none 0 0] 50 ∧ Blk (w1.alloc (.cells #[.int .u64 (hi : Int), .int .u64 (lo : Int), .int .u64 (id : Int), .int .u64 (pa : Int), .string nm, .int .i64 st, .int .i64 en, .bool bad, .slice none 0 0, .int .u64 (rv : Int)] 35)) g1 #[.int .u64 (hi : Int), .int .u64 (lo : Int), .int .u64 (id : Int), .int .u64 (pa : Int), .string nm, .int .i64 st, .int .i64 en, .bool bad, .slice none 0 0, .int .u64 (rv : Int)] 35 ∧ Below n0 W (w1.alloc (.cells #[.int .u64 (hi : Int), .int .u64 (lo : Int), .int .u64 (id : Int), .int .u64 (pa : Int), .string nm, .int .i64 st, .int .i64 en, .bool bad, .slice none 0 0, .int .u64 (rv : Int)] 35)) from
    ⟨(HW0.out.1.later hb1).later (box_below _), (HW0.out.2.1.later hb1).later (box_below _), (HW0.out.2.2.1.later hb1).later (box_below _), hbk, hbb⟩)
  have HLT := Lib.hid hlt
  clear hbk hbb hb1 hn0 HW0 HOF
  have q0 : (w1.alloc (.cells #[.int .u64 (hi : Int), .int .u64 (lo : Int), .int .u64 (id : Int), .int .u64 (pa : Int), .string nm, .int .i64 st, .int .i64 en, .bool bad, .slice none 0 0, .int .u64 (rv : Int)] 35)).cell? ⟨n0, 0, none⟩ = some (.int .i64 (b.sp : Int)) := HX.out.1.cell 0 rfl
  have q1 : (w1.alloc (.cells #[.int .u64 (hi : Int), .int .u64 (lo : Int), .int .u64 (id : Int), .int .u64 (pa : Int), .string nm, .int .i64 st, .int .i64 en, .bool bad, .slice none 0 0, .int .u64 (rv : Int)] 35)).cell? ⟨n0, 1, none⟩ = some (.int .i64 (b.wait : Int)) := HX.out.1.cell 1 rfl
  have q2 : (w1.alloc (.cells #[.int .u64 (hi : Int), .int .u64 (lo : Int), .int .u64 (id : Int), .int .u64 (pa : Int), .string nm, .int .i64 st, .int .i64 en, .bool bad, .slice none 0 0, .int .u64 (rv : Int)] 35)).cell? ⟨n0, 2, none⟩ = some (.int .i64 (b.most : Int)) := HX.out.1.cell 2 rfl
  have q3 : (w1.alloc (.cells #[.int .u64 (hi : Int), .int .u64 (lo : Int), .int .u64 (id : Int), .int .u64 (pa : Int), .string nm, .int .i64 st, .int .i64 en, .bool bad, .slice none 0 0, .int .u64 (rv : Int)] 35)).cell? ⟨n0, 3, none⟩ = some (.int .i64 (b.time : Int)) := HX.out.1.cell 3 rfl
  have q4 : (w1.alloc (.cells #[.int .u64 (hi : Int), .int .u64 (lo : Int), .int .u64 (id : Int), .int .u64 (pa : Int), .string nm, .int .i64 st, .int .i64 en, .bool bad, .slice none 0 0, .int .u64 (rv : Int)] 35)).cell? ⟨n0, 4, none⟩ = some (.int .i64 (b.came : Int)) := HX.out.1.cell 4 rfl
  have q5 : (w1.alloc (.cells #[.int .u64 (hi : Int), .int .u64 (lo : Int), .int .u64 (id : Int), .int .u64 (pa : Int), .string nm, .int .i64 st, .int .i64 en, .bool bad, .slice none 0 0, .int .u64 (rv : Int)] 35)).cell? ⟨n0, 5, none⟩ = some (.slice A n cap) := HX.out.1.cell 5 rfl
  have q6 : (w1.alloc (.cells #[.int .u64 (hi : Int), .int .u64 (lo : Int), .int .u64 (id : Int), .int .u64 (pa : Int), .string nm, .int .i64 st, .int .i64 en, .bool bad, .slice none 0 0, .int .u64 (rv : Int)] 35)).cell? ⟨n0, 6, none⟩ = some (.slice B m capB) := HX.out.1.cell 6 rfl
  have e0 : (w1.alloc (.cells #[.int .u64 (hi : Int), .int .u64 (lo : Int), .int .u64 (id : Int), .int .u64 (pa : Int), .string nm, .int .i64 st, .int .i64 en, .bool bad, .slice none 0 0, .int .u64 (rv : Int)] 35)).cell? ⟨n0 + 1, 0, none⟩ = some (.int .u8 (dw : Int)) := HX.out.2.1.cell 0 rfl
  have HRF := Lib.hid (show RfIn (· ∉ (n0 + 2) :: bs) (w1.alloc (.cells #[.int .u64 (hi : Int), .int .u64 (lo : Int), .int .u64 (id : Int), .int .u64 (pa : Int), .string nm, .int .i64 st, .int .i64 en, .bool bad, .slice none 0 0, .int .u64 (rv : Int)] 35)) b ⟨A, n, cap, B, m, capB⟩ from (HBO.out.rf.more (n0 + 2) (by have := HN0.out; omega)).later (by rw [HN0.out]; exact HX.out.2.2.2.2))
  have e3 : (w1.alloc (.cells #[.int .u64 (hi : Int), .int .u64 (lo : Int), .int .u64 (id : Int), .int .u64 (pa : Int), .string nm, .int .i64 st, .int .i64 en, .bool bad, .slice none 0 0, .int .u64 (rv : Int)] 35)).cell? ⟨n0 + 1, 3, none⟩ = some (.int .u8 (dm : Int)) := HX.out.2.1.cell 3 rfl
  have hx : (dw : Int) % 5 = 4 := by omega
  have hmm : ((dm : Int) % 2 = 0 ∧ (dm % 2 == 0) = true) ∨ ((dm : Int) % 2 = 1 ∧ (dm % 2 == 0) = false) := by
    rcases Nat.mod_two_eq_zero_or_one dm with h | h
    · exact .inl ⟨by omega, by rw [h]; rfl⟩
    · exact .inr ⟨by omega, by rw [h]; rfl⟩
  have hnb : ∀ k, n0 ≤ k → k ∉ bs := fun k hk hm => by have := HBO.out.ob.1.lt k hm; have := HN0.out; omega
  have HNB := Lib.hid hnb
  clear hw hnb
  obtain ⟨kp, hkp⟩ : ∃ kp, (dm % 2 == 0) = kp := ⟨_, rfl⟩
  rw [hkp] at hmm HPO
  have HC1 := Lib.hid ((HBO.out.ob.later (W' := (w1.alloc (.cells #[.int .u64 (hi : Int), .int .u64 (lo : Int), .int .u64 (id : Int), .int .u64 (pa : Int), .string nm, .int .i64 st, .int .i64 en, .bool bad, .slice none 0 0, .int .u64 (rv : Int)] 35))) (by rw [HN0.out]; exact HX.out.2.2.2.2)).decide hi lo kp HU.out.1 HU.out.2 b2 HPO.out)
  clear hkp
  rcases hmm with ⟨hm2, rfl⟩ | ⟨hm2, rfl⟩
  all_goals
    go_wp2_with fail
    refine HC1.out.mono ?_
    rintro e w2 ⟨rfl, bs2, HO2, HM2⟩
    clear HC1 q0 q1 q2 q3 q4 q5 q6 e0 e3 hlt
    have HX2 := Lib.hid (show Blk w2 n0 #[.int .i64 (b.sp : Int), .int .i64 (b.wait : Int), .int .i64 (b.most : Int), .int .i64 (b.time : Int), .int .i64 (b.came : Int), .slice A n cap, .slice B m capB] 50 ∧ Blk w2 (n0 + 1) #[.int .u8 (dw : Int), .int .u8 (da : Int), .int .u8 (dt : Int), .int .u8 (dm : Int)] 54 ∧ Blk w2 (n0 + 2) #[.int .i64 0, .int .i64 0, .int .i64 0, .int .i64 0, .int .i64 0, .slice none 0 0, .slice none 0 0] 50 ∧ Blk w2 g1 #[.int .u64 (hi : Int), .int .u64 (lo : Int), .int .u64 (id : Int), .int .u64 (pa : Int), .string nm, .int .i64 st, .int .i64 en, .bool bad, .slice none 0 0, .int .u64 (rv : Int)] 35 from
      ⟨HX.out.1.mut HM2.out.1 (HNB.out _ (by omega)), HX.out.2.1.mut HM2.out.1 (HNB.out _ (by omega)), HX.out.2.2.1.mut HM2.out.1 (HNB.out _ (by omega)), HX.out.2.2.2.1.mut HM2.out.1 (HNB.out _ (by have := HLT.out; omega))⟩)
    have q0 : w2.cell? ⟨n0, 0, none⟩ = some (.int .i64 (b.sp : Int)) := HX2.out.1.cell 0 rfl
    have q1 : w2.cell? ⟨n0, 1, none⟩ = some (.int .i64 (b.wait : Int)) := HX2.out.1.cell 1 rfl
    have q2 : w2.cell? ⟨n0, 2, none⟩ = some (.int .i64 (b.most : Int)) := HX2.out.1.cell 2 rfl
    have q3 : w2.cell? ⟨n0, 3, none⟩ = some (.int .i64 (b.time : Int)) := HX2.out.1.cell 3 rfl
    have q4 : w2.cell? ⟨n0, 4, none⟩ = some (.int .i64 (b.came : Int)) := HX2.out.1.cell 4 rfl
    have q5 : w2.cell? ⟨n0, 5, none⟩ = some (.slice A n cap) := HX2.out.1.cell 5 rfl
    have q6 : w2.cell? ⟨n0, 6, none⟩ = some (.slice B m capB) := HX2.out.1.cell 6 rfl
    have s0 : w2.cell? ⟨g1, 0, none⟩ = some (.int .u64 (hi : Int)) := HX2.out.2.2.2.cell 0 rfl
    have s1 : w2.cell? ⟨g1, 1, none⟩ = some (.int .u64 (lo : Int)) := HX2.out.2.2.2.cell 1 rfl
    have e3 : w2.cell? ⟨n0 + 1, 3, none⟩ = some (.int .u8 (dm : Int)) := HX2.out.2.1.cell 3 rfl
    have HR2 := Lib.hid (show RfIn (· ∉ (n0 + 2) :: bs2) w2 b ⟨A, n, cap, B, m, capB⟩ from HRF.out.mut (HM2.out.1.wider fun k hk => List.mem_cons_of_mem _ hk) fun k hk => (List.mem_cons.1 hk).elim (fun e => .inl (by simp [e])) fun e => (HM2.out.2 k e).imp (List.mem_cons_of_mem _) fun h => h)
    have HC2 := Lib.hid (show Calls Try.prog 35 #[.agg #[.int .i64 (b.sp : Int), .int .i64 (b.wait : Int), .int .i64 (b.most : Int), .int .i64 (b.time : Int), .int .i64 (b.came : Int), .slice A n cap, .slice B m capB], .int .u64 (hi : Int), .int .u64 (lo : Int), .bool _] w2 _ from docDecide HR2.out HBO.out.ob.1.iv HLN.out.2 (fun k hk hm => by
      rcases List.mem_cons.1 hm with e | e
      · have := HX2.out.2.2.1.lt; omega
      · have := HO2.out.1.lt k e; omega) hi lo _ b2 HPO.out)
    go_wp2_with fail
    refine HC2.out.mono ?_
    rintro e w3 ⟨A', n', cap', B', m', capB', rfl, HRF3, HB3⟩
    clear HC2 q0 q1 q2 q3 q4 q5 q6 s0 s1 e3
    obtain ⟨g2, hg2⟩ : ∃ x, w3.heap.size = x := ⟨_, rfl⟩
    have hlt2 : g1 < g2 := by have h1 := HX2.out.2.2.2.lt; have := HB3.out.size; omega
    have hbk := hg2 ▸ blk_new w3 #[.int .i64 (b2.sp : Int), .int .i64 (b2.wait : Int), .int .i64 (b2.most : Int), .int .i64 (b2.time : Int), .int .i64 (b2.came : Int), .slice A' n' cap', .slice B' m' capB'] 50
    have HY := Lib.hid (show Blk (w3.alloc (.cells #[.int .i64 (b2.sp : Int), .int .i64 (b2.wait : Int), .int .i64 (b2.most : Int), .int .i64 (b2.time : Int), .int .i64 (b2.came : Int), .slice A' n' cap', .slice B' m' capB'] 50)) (n0 + 2) #[.int .i64 0, .int .i64 0, .int .i64 0, .int .i64 0, .int .i64 0, .slice none 0 0, .slice none 0 0] 50 ∧ Blk (w3.alloc (.cells #[.int .i64 (b2.sp : Int), .int .i64 (b2.wait : Int), .int .i64 (b2.most : Int), .int .i64 (b2.time : Int), .int .i64 (b2.came : Int), .slice A' n' cap', .slice B' m' capB'] 50)) g1 #[.int .u64 (hi : Int), .int .u64 (lo : Int), .int .u64 (id : Int), .int .u64 (pa : Int), .string nm, .int .i64 st, .int .i64 en, .bool bad, .slice none 0 0, .int .u64 (rv : Int)] 35 ∧ Blk (w3.alloc (.cells #[.int .i64 (b2.sp : Int), .int .i64 (b2.wait : Int), .int .i64 (b2.most : Int), .int .i64 (b2.time : Int), .int .i64 (b2.came : Int), .slice A' n' cap', .slice B' m' capB'] 50)) g2 #[.int .i64 (b2.sp : Int), .int .i64 (b2.wait : Int), .int .i64 (b2.most : Int), .int .i64 (b2.time : Int), .int .i64 (b2.came : Int), .slice A' n' cap', .slice B' m' capB'] 50 ∧ Below w2.heap.size w2 (w3.alloc (.cells #[.int .i64 (b2.sp : Int), .int .i64 (b2.wait : Int), .int .i64 (b2.most : Int), .int .i64 (b2.time : Int), .int .i64 (b2.came : Int), .slice A' n' cap', .slice B' m' capB'] 50)) ∧ RfIn (· ∉ (n0 + 2) :: bs2) (w3.alloc (.cells #[.int .i64 (b2.sp : Int), .int .i64 (b2.wait : Int), .int .i64 (b2.most : Int), .int .i64 (b2.time : Int), .int .i64 (b2.came : Int), .slice A' n' cap', .slice B' m' capB'] 50)) b2 ⟨A', n', cap', B', m', capB'⟩ from
      ⟨(HX2.out.2.2.1.later HB3.out).later (box_below _), (HX2.out.2.2.2.later HB3.out).later (box_below _), hbk, HB3.out.trans ((box_below _).mono HB3.out.size), HRF3.out.later (box_below _)⟩)
    have HLT2 := Lib.hid hlt2
    have HO3 := Lib.hid (HO2.out.later HY.out.2.2.2.1)
    have s0 : (w3.alloc (.cells #[.int .i64 (b2.sp : Int), .int .i64 (b2.wait : Int), .int .i64 (b2.most : Int), .int .i64 (b2.time : Int), .int .i64 (b2.came : Int), .slice A' n' cap', .slice B' m' capB'] 50)).cell? ⟨g1, 0, none⟩ = some (.int .u64 (hi : Int)) := HY.out.2.1.cell 0 rfl
    have s1 : (w3.alloc (.cells #[.int .i64 (b2.sp : Int), .int .i64 (b2.wait : Int), .int .i64 (b2.most : Int), .int .i64 (b2.time : Int), .int .i64 (b2.came : Int), .slice A' n' cap', .slice B' m' capB'] 50)).cell? ⟨g1, 1, none⟩ = some (.int .u64 (lo : Int)) := HY.out.2.1.cell 1 rfl
    obtain ⟨v1, hv1⟩ : ∃ v, ((((askK hi lo b2.K).map (·.ay)).getD 0) == 4) = v := ⟨_, rfl⟩
    obtain ⟨v2, hv2⟩ : ∃ v, (askK hi lo b2.K).isSome = v := ⟨_, rfl⟩
    have HK1 := Lib.hid (kept_any hi lo (w3.alloc (.cells #[.int .i64 (b2.sp : Int), .int .i64 (b2.wait : Int), .int .i64 (b2.most : Int), .int .i64 (b2.time : Int), .int .i64 (b2.came : Int), .slice A' n' cap', .slice B' m' capB'] 50)) HO3.out.1 HU.out.1 HU.out.2)
    have HVV := Lib.hid (And.intro hv1 hv2)
    rw [hv1, hv2] at HK1
    clear hv1 hv2 hbk hlt2 HB3
    go_wp2_with fail
    refine HK1.out.mono ?_
    rintro e w4 ⟨rfl, hq4⟩
    have hb4 : Below (w3.alloc (.cells #[.int .i64 (b2.sp : Int), .int .i64 (b2.wait : Int), .int .i64 (b2.most : Int), .int .i64 (b2.time : Int), .int .i64 (b2.came : Int), .slice A' n' cap', .slice B' m' capB'] 50)).heap.size (w3.alloc (.cells #[.int .i64 (b2.sp : Int), .int .i64 (b2.wait : Int), .int .i64 (b2.most : Int), .int .i64 (b2.time : Int), .int .i64 (b2.came : Int), .slice A' n' cap', .slice B' m' capB'] 50)) w4 := hq4 ▸ Below.refl _ _
    clear hq4
    have HY4 := Lib.hid (show Blk w4 (n0 + 2) #[.int .i64 0, .int .i64 0, .int .i64 0, .int .i64 0, .int .i64 0, .slice none 0 0, .slice none 0 0] 50 ∧ Blk w4 g1 #[.int .u64 (hi : Int), .int .u64 (lo : Int), .int .u64 (id : Int), .int .u64 (pa : Int), .string nm, .int .i64 st, .int .i64 en, .bool bad, .slice none 0 0, .int .u64 (rv : Int)] 35 ∧ Blk w4 g2 #[.int .i64 (b2.sp : Int), .int .i64 (b2.wait : Int), .int .i64 (b2.most : Int), .int .i64 (b2.time : Int), .int .i64 (b2.came : Int), .slice A' n' cap', .slice B' m' capB'] 50 ∧ Below w2.heap.size w2 w4 ∧ RfIn (· ∉ (n0 + 2) :: bs2) w4 b2 ⟨A', n', cap', B', m', capB'⟩ from
      ⟨HY.out.1.later hb4, HY.out.2.1.later hb4, HY.out.2.2.1.later hb4, HY.out.2.2.2.1.trans (hb4.mono HY.out.2.2.2.1.size), HY.out.2.2.2.2.later hb4⟩)
    have HO4 := Lib.hid (HO3.out.later hb4)
    clear HK1 s0 s1 hb4 HO3 HY
    have s0 : w4.cell? ⟨g1, 0, none⟩ = some (.int .u64 (hi : Int)) := HY4.out.2.1.cell 0 rfl
    have s1 : w4.cell? ⟨g1, 1, none⟩ = some (.int .u64 (lo : Int)) := HY4.out.2.1.cell 1 rfl
    have z0 : w4.cell? ⟨g2, 0, none⟩ = some (.int .i64 (b2.sp : Int)) := HY4.out.2.2.1.cell 0 rfl
    have z1 : w4.cell? ⟨g2, 1, none⟩ = some (.int .i64 (b2.wait : Int)) := HY4.out.2.2.1.cell 1 rfl
    have z2 : w4.cell? ⟨g2, 2, none⟩ = some (.int .i64 (b2.most : Int)) := HY4.out.2.2.1.cell 2 rfl
    have z3 : w4.cell? ⟨g2, 3, none⟩ = some (.int .i64 (b2.time : Int)) := HY4.out.2.2.1.cell 3 rfl
    have z4 : w4.cell? ⟨g2, 4, none⟩ = some (.int .i64 (b2.came : Int)) := HY4.out.2.2.1.cell 4 rfl
    have z5 : w4.cell? ⟨g2, 5, none⟩ = some (.slice A' n' cap') := HY4.out.2.2.1.cell 5 rfl
    have z6 : w4.cell? ⟨g2, 6, none⟩ = some (.slice B' m' capB') := HY4.out.2.2.1.cell 6 rfl
    have HK2 := Lib.hid (show Calls Try.prog 36 #[.agg #[.int .i64 (b2.sp : Int), .int .i64 (b2.wait : Int), .int .i64 (b2.most : Int), .int .i64 (b2.time : Int), .int .i64 (b2.came : Int), .slice A' n' cap', .slice B' m' capB'], .int .u64 (hi : Int), .int .u64 (lo : Int)] w4 _ from refKept_any hi lo w4 b2 ⟨A', n', cap', B', m', capB'⟩ HY4.out.2.2.2.2 (by
      have h1 := HY4.out.2.2.2.2.m
      have h2 := HO4.out.1.iv.K.len
      have h3 := HO4.out.1.iv.most
      simp only at h1 ⊢
      omega) _ rfl v1 v2 HVV.out.1 HVV.out.2)
    go_wp2_with fail
    refine HK2.out.mono ?_
    rintro e w5 ⟨rfl, HB5⟩
    clear HK2 s0 s1 z0 z1 z2 z3 z4 z5 z6
    have hR5 : RfIn (· ∉ (n0 + 2) :: bs2) w5 b2 ⟨A', n', cap', B', m', capB'⟩ := HY4.out.2.2.2.2.later HB5.out
    have hz1 : Blk w5 (n0 + 2) #[.int .i64 0, .int .i64 0, .int .i64 0, .int .i64 0, .int .i64 0, .slice none 0 0, .slice none 0 0] 50 := HY4.out.1.later HB5.out
    have hz2 : Blk w5 g2 #[.int .i64 (b2.sp : Int), .int .i64 (b2.wait : Int), .int .i64 (b2.most : Int), .int .i64 (b2.time : Int), .int .i64 (b2.came : Int), .slice A' n' cap', .slice B' m' capB'] 50 := HY4.out.2.2.1.later HB5.out
    have HZ := Lib.hid hz1
    have h25 : Below w2.heap.size w2 w5 := HY4.out.2.2.2.1.trans (HB5.out.mono HY4.out.2.2.2.1.size)
    have HE := Lib.hid (do_end (q := n0 + 2) (W := W) (bs := bs) (HO4.out.later HB5.out) hR5 (HM2.out.2.not (HNB.out _ (by omega)) HX.out.2.2.1.lt) (by rw [HN0.out]; exact hw0) (by have := HN0.out; omega) hz1 (((Mut.of_below (by rw [HN0.out]; exact HX.out.2.2.2.2)).trans HM2.out.1).trans (Mut.of_below h25)) (rfC b2 ⟨A', n', cap', B', m', capB'⟩))
    have HXT := Lib.hid (show Ext W bs bs2 from fun k hk => (HM2.out.2 k hk).imp (fun h => h) fun h => Nat.le_trans (by have := HX.out.2.2.2.2.size; have := HN0.out; omega) h)
    have z0 : w5.cell? ⟨g2, 0, none⟩ = some (.int .i64 (b2.sp : Int)) := hz2.cell 0 rfl
    have z1 : w5.cell? ⟨g2, 1, none⟩ = some (.int .i64 (b2.wait : Int)) := hz2.cell 1 rfl
    have z2 : w5.cell? ⟨g2, 2, none⟩ = some (.int .i64 (b2.most : Int)) := hz2.cell 2 rfl
    have z3 : w5.cell? ⟨g2, 3, none⟩ = some (.int .i64 (b2.time : Int)) := hz2.cell 3 rfl
    have z4 : w5.cell? ⟨g2, 4, none⟩ = some (.int .i64 (b2.came : Int)) := hz2.cell 4 rfl
    have z5 : w5.cell? ⟨g2, 5, none⟩ = some (.slice A' n' cap') := hz2.cell 5 rfl
    have z6 : w5.cell? ⟨g2, 6, none⟩ = some (.slice B' m' capB') := hz2.cell 6 rfl
    clear hz1 hz2 hR5 h25 HO4 HM2 HY4 HX HX2 HVV
    cases v1 <;> cases v2
    all_goals
      go_wp2_with (first
        | (with_reducible refine wpList_store_row rfl 50 (.tmp 8) _ rfl (n0 + 2) (rfC b2 ⟨A', n', cap', B', m', capB'⟩) (by with_unfolding_all exact rfl) (by with_unfolding_all exact rfl) 50 #[.int .i64 0, .int .i64 0, .int .i64 0, .int .i64 0, .int .i64 0, .slice none 0 0, .slice none 0 0] (by with_unfolding_all exact HZ.out) (by kernel_rfl) (by with_unfolding_all exact rfl) (rfC_one _ _) ?_)
        | fail)
      refine bodyPost_ret (do_results (b := b2) (r := ⟨A', n', cap', B', m', capB'⟩) rfl HE.out.1 rfl rfl) rfl ?_
      exact ⟨⟨A', n', cap', B', m', capB'⟩, bs2, rfl, Lib.hid HE.out.2.1, Lib.hid ⟨HE.out.2.2, HXT.out⟩⟩
end Go.Proofs.Ythpcnnkdpgjiiaa
