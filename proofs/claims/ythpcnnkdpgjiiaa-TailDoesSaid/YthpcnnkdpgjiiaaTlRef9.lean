/-
  The document's Offer, where the time is one that may be.
-/
import Derived.Test.YthpcnnkdpgjiiaaTlRef8
namespace Go.Proofs.Ythpcnnkdpgjiiaa
open Go.RowKit Go.Maps Go.Proofs.HeapMath Go.Proofs.TailMath

variable {P : Nat → Prop}

/-- A span is put to a trace, if it is its. -/
def addS (s : Sp) (g : Gr) : Gr := if g.is s.hi s.lo then { g with spans := g.spans ++ [s] } else g
theorem Sps.keep {W W' : World} {A : Option Addr} {l : List Sp} (h : Sps W A l) {bs : List Nat} (hm : Mut bs W W') (hA : 0 < l.length → ∀ g, A.map (·.block) = some g → g ∉ bs) : Sps W' A l := fun h0 => (h.mut hm (hA h0)) h0
/-- What the document's Offer knows while it goes through the traces. -/
structure OlI (P : Nat → Prop) (n0 : Nat) (w W : World) (b : St) (r : Rf) (s : Sp) (i : Nat) (A : Option Addr) (c : Nat) (l : List Tx) : Prop where
  ofi : OfI n0 w W b r s
  own : W.ownsRow (n0 + 3) 102 5 (.slice A i c) i (dtC l)
  len : l.length = i
  map : l.map (·.1) = (b.L.take i).map (addS s)
  ok : ∀ x ∈ l, Okx P n0 W x
/-- The row of traces is none of the spans' rows. -/
theorem OlI.apart {n0 : Nat} {w W : World} {b : St} {r : Rf} {s : Sp} {i : Nat} {A : Option Addr} {c : Nat} {l : List Tx} (h : OlI P n0 w W b r s i A c l) {x : Tx} (hx : x ∈ l) (h0 : 0 < x.1.spans.length) : ∀ g, x.2.1.map (·.block) = some g → (Value.slice A i c).ownBlock ≠ some g := fun g hg e => by
  obtain ⟨g1, e1, _, hc⟩ := (h.ok x hx).1.2 h0
  rw [e1] at hg
  simp at hg
  subst hg
  have hl : 0 < l.length := List.length_pos_of_mem hx
  have hi := h.len
  obtain ⟨g2, c2, e2, _⟩ := h.own.form (by omega)
  injection e2 with e2 _ e3
  subst e2 e3
  simp [Value.ownBlock] at e
  subst e
  have h1 := hc 0 h0 0 (by omega)
  have h2 := h.own.cellAt 0 (by omega)
  have h3 := dtC_at (l := l) hl (j := 0) (by omega)
  rw [Nat.zero_mul] at h1 h3
  rw [h1] at h2
  rw [h3] at h2
  simp [spL, dtL] at h2
theorem ok_grown {n0 : Nat} {w W W1 W2 : World} {b : St} {r : Rf} {s : Sp} {i : Nat} {A : Option Addr} {c : Nat} {l : List Tx} (h : OlI P n0 w W b r s i A c l) {bs : List Nat} (hm : Mut bs W W1) (hbs : ∀ k ∈ bs, W.heap.size ≤ k) (hg : W1.grownBy W2 (Value.slice A i c).ownBlock) : ∀ x ∈ l, Okx P n0 W2 x := fun x hx => by
  have h1 := h.ok x hx
  have hm2 : Mut (Value.slice A i c).ownBlock.toList W1 W2 := ⟨hg.os, hg.tape, hg.output, hg.size, fun k hk hn => hg.block k hk fun e => hn (by rw [← e]; simp)⟩
  refine ⟨⟨h1.1.1, (h1.1.2.keep hm fun h0 g hg' hm' => ?_).keep hm2 fun h0 g hg' hm' => ?_⟩, h1.2⟩
  · obtain ⟨g1, e1, hlt, _⟩ := h1.1.2 h0
    rw [e1] at hg'
    simp at hg'
    have := hbs g hm'
    omega
  · exact h.apart hx h0 g hg' (by simpa using hm')
/-- The next trace, as it is, or with one span more. -/
theorem OlI.next {n0 : Nat} {w W W1 W2 : World} {b : St} {r : Rf} {s : Sp} {i : Nat} {A : Option Addr} {c g2 c2 : Nat} {l : List Tx} (h : OlI P n0 w W b r s i A c l) {bs : List Nat} (hm : Mut bs W W1) (hbs : ∀ k ∈ bs, W.heap.size ≤ k) (hg : W1.grownBy W2 (Value.slice A i c).ownBlock) (x : Tx) (ho : W2.ownsRow (n0 + 3) 102 5 (.slice (some ⟨g2, 0, none⟩) (i + 1) c2) (i + 1) (dtC l ++ dtL x)) (hi : i < b.L.length) (hx : x.1 = addS s b.L[i]) (hok : Okx P n0 W2 x) :
    OlI P n0 w W2 b r s (i + 1) (some ⟨g2, 0, none⟩) c2 (l ++ [x]) := by
  have hsz := h.ofi.size
  have hm2 : Mut (Value.slice A i c).ownBlock.toList W1 W2 := ⟨hg.os, hg.tape, hg.output, hg.size, fun k hk hn => hg.block k hk fun e => hn (by rw [← e]; simp)⟩
  refine ⟨(h.ofi.above hm fun k hk => by have := hbs k hk; omega).above hm2 fun k hk => (h.own.lt k (by simpa using hk)).1, by rw [dtC_append, dtC_one]; exact ho, by simp [h.len], ?_, fun y hy => ?_⟩
  · rw [List.take_succ_eq_append_getElem hi, List.map_append, List.map_append, h.map]
    simp [hx]
  · rcases List.mem_append.1 hy with e | e
    · exact ok_grown h hm hbs hg y e
    · rw [List.mem_singleton.1 e]; exact hok
theorem addS_no {s : Sp} {g : Gr} (h : ¬ (g.hi = s.hi ∧ g.lo = s.lo)) : addS s g = g := by
  unfold addS
  rw [if_neg fun e => h (is_iff.1 e)]
theorem addS_yes {s : Sp} {g : Gr} (h : g.hi = s.hi ∧ g.lo = s.lo) : addS s g = { g with spans := g.spans ++ [s] } := by
  unfold addS
  rw [if_pos (is_iff.2 h)]
theorem any_take {L : List Gr} {i : Nat} (hi : i < L.length) (hi' lo : Nat) : (L.take (i + 1)).any (·.is hi' lo) = ((L.take i).any (·.is hi' lo) || L[i].is hi' lo) := by
  rw [List.take_succ_eq_append_getElem hi, List.any_append]
  simp
theorem sps_blk {W : World} {A : Option Addr} {l : List Sp} (h : Sps W A l) (hne : l ≠ []) : ∃ g, A = some ⟨g, 0, none⟩ ∧ g < W.heap.size := by
  obtain ⟨g, e, h1, _⟩ := h (List.length_pos_iff.2 hne)
  exact ⟨g, e, h1⟩
theorem sps_last {W : World} {base g n cap : Nat} {l : List Sp} (h : W.ownsRow base 35 10 (.slice (some ⟨g, 0, none⟩) n cap) n (spC l)) (hn : l.length = n) : Sps W (some ⟨g, 0, none⟩) l := sps_own (row_base h) hn

/-- The last steps of the document's Offer. -/
theorem of_close {n0 : Nat} {w W V : World} {bb b' : St} {r r' : Rf} {s : Sp} {v : Value} {A3 : Option Addr} {l : List Tx} (hn0 : w.heap.size = n0) (hR : RfIn P w bb r) (h : OfI n0 w W bb r s) (hm : Mut [n0] W V) (hb : Blk V n0 (rfC b' r') 50) (ho : W.ownsRow (n0 + 3) 102 5 v r'.n (dtC l)) (hl : l.length = r'.n) (hok : ∀ x ∈ l, Okx P n0 W x) (hmap : l.map (·.1) = b'.L) (hv : v = .slice A3 r'.n r'.cap) (hA : r'.A = A3) (hc : r'.n ≤ r'.cap) (hB : (r'.B, r'.m, r'.capB) = (r.B, r.m, r.capB)) (hK : b'.K = bb.K) (hP : ∀ k, n0 ≤ k → P k) :
    Blk V n0 (rfC b' r') 50 ∧ Blk V (n0 + 2) (rfC (new 0 0 0) rf0) 50 ∧ Blk (V.setRow (n0 + 2) (rfC b' r')) (n0 + 2) (rfC b' r') 50 ∧ RfIn P (V.setRow (n0 + 2) (rfC b' r')) b' r' ∧ Below n0 w (V.setRow (n0 + 2) (rfC b' r')) := by
  have h2 := h.blk2.mut hm (by simp)
  have hD : Mut [n0, n0 + 2] W (V.setRow (n0 + 2) (rfC b' r')) := (hm.wider (by simp)).trans ⟨rfl, rfl, rfl, by simp [World.setRow], fun k _ hk => setRow_other _ _ _ _ (by simp at hk; exact hk.2)⟩
  have hbl : Below n0 w (V.setRow (n0 + 2) (rfC b' r')) := h.below.trans (hD.below (by have := h.blk.lt; omega) (by simp))
  subst hv hA
  injection hB with e1 e2
  injection e2 with e2 e3
  refine ⟨hb, h2, setRow_heap _ _ _ _ _ _ h2, ⟨⟨l, hmap, dts_own (row_same ho fun g hg => hD.block g (ho.lt g hg).2 (by have := (ho.lt g hg).1; simp; omega)) hl fun x hx => ((hok x hx).mut hD (by intro k hk; simp at hk; omega)).1, fun _ g hg => hP g ?_, fun x hx _ g hg => ((hok x hx).2 g hg).elim (fun h => h.2) (fun h => hP g (by omega))⟩, ?_, by rw [← hmap, List.length_map, hl], by rw [hK, e2]; exact hR.m, hc, by rw [e2, e3]; exact hR.capB, by rw [e1, hK]; exact hR.KP⟩, hbl⟩
  · have hh := ho.lt g (by cases hA3 : r'.A with
      | none => rw [hA3] at hg; simp at hg
      | some ad => rw [hA3] at hg; simp at hg; simp [Value.ownBlock, hg])
    omega
  · rw [e1, hK]
    exact hR.K.later (by rw [hn0]; exact hbl)

set_option linter.unusedSimpArgs false in
set_option maxRecDepth 100000 in
set_option maxHeartbeats 8000000 in
theorem refOffer_ok (t : Nat) (s : Sp) (w : World) (b : St) (r : Rf) (h : RfIn P w b r) (hiv : Iv b) (ht1 : b.time ≤ t) (ht2 : t ≤ 1099511627776) (hn2 : r.n ≤ 5000) (hm2 : r.m ≤ 5000) (hcame : b.came ≤ 1000000000) (hP : ∀ k, w.heap.size ≤ k → P k) :
    Calls Try.prog 32 #[rfV b r, .int .i64 (t : Int), spV s] w (OfTo P w (offer b (t : Int) s)) := by
  obtain ⟨A, n, cap, B, m, capB⟩ := r
  have hml := h.m
  have hnl := h.n
  simp only at hm2 hml hn2 hnl
  have HAT := Lib.hid (show ∀ i, i < m → ∃ g o kh kl ka : Nat, B = some ⟨g, o, none⟩ ∧ (∃ hl : i < b.K.length, b.K[i] = ⟨kh, kl, ka⟩) ∧ (ka = 3 ∨ ka = 4) ∧ ∀ W, Below w.heap.size w W → W.cell? ⟨g, o + i * 3, none⟩ = some (.int .u64 (kh : Int)) ∧ W.cell? ⟨g, o + i * 3 + 1, none⟩ = some (.int .u64 (kl : Int)) ∧ W.cell? ⟨g, o + i * 3 + 2, none⟩ = some (.bool (ka == 4)) from fun i hi => by
    have hl : i < b.K.length := by omega
    obtain ⟨g, o, e, hg, hc⟩ := h.K (by omega)
    obtain ⟨a1, a2, a3⟩ := hc i hl
    exact ⟨g, o, _, _, _, e, ⟨hl, rfl⟩, (hiv.K.ok _ (List.getElem_mem hl)).2.2, fun W hW => ⟨(hW.cell (p := ⟨g, o + i * 3, none⟩) hg).trans a1, (hW.cell (p := ⟨g, o + i * 3 + 1, none⟩) hg).trans a2, (hW.cell (p := ⟨g, o + i * 3 + 2, none⟩) hg).trans a3⟩⟩)
  have HR := Lib.hid h
  have HIV := Lib.hid hiv
  have HML := Lib.hid hml
  have HNL := Lib.hid hnl
  obtain ⟨n0, hn0⟩ : ∃ x, w.heap.size = x := ⟨_, rfl⟩
  have HI0 := Lib.hid (show OfI n0 w (((w.alloc (.cells #[.int .i64 (b.sp : Int), .int .i64 (b.wait : Int), .int .i64 (b.most : Int), .int .i64 (t : Int), .int .i64 (b.came : Int), .slice A n cap, .slice B m capB] 50)).alloc (.cells #[.int .u64 (s.hi : Int), .int .u64 (s.lo : Int), .int .u64 (s.id : Int), .int .u64 (s.parent : Int), .string s.name, .int .i64 s.start, .int .i64 s.stop, .bool s.bad, .slice none 0 0, .int .u64 (s.rv : Int)] 35)).alloc (.cells #[.int .i64 0, .int .i64 0, .int .i64 0, .int .i64 0, .int .i64 0, .slice none 0 0, .slice none 0 0] 50)) (TailMath.at_ b t) ⟨A, n, cap, B, m, capB⟩ s from of_start w n0 hn0 _ _ _ _ _ _ rfl rfl rfl)
  have HN0 := Lib.hid hn0
  have HP := Lib.hid (show ∀ k, n0 ≤ k → P k from fun k hk => hP k (by rw [hn0]; exact hk))
  clear hP
  have tm1 : decide ((t : Int) < (b.time : Int)) = false := by simp; omega
  have tm1n : decide (t < b.time) = false := by simp; omega
  have tm2 : decide ((1099511627776 : Int) < (t : Int)) = false := by simp; omega
  have tm2n : decide (1099511627776 < t) = false := by simp; omega
  have HTT := Lib.hid (And.intro ht1 ht2)
  unfold rfV spV
  clear h hml hnl hiv
  go_enter Try.func32, Try.ntmps32
  go_wp2_with fail
  clear hn0 tm1 tm1n tm2 tm2n
  generalize (((w.alloc (.cells #[.int .i64 (b.sp : Int), .int .i64 (b.wait : Int), .int .i64 (b.most : Int), .int .i64 (t : Int), .int .i64 (b.came : Int), .slice A n cap, .slice B m capB] 50)).alloc (.cells #[.int .u64 (s.hi : Int), .int .u64 (s.lo : Int), .int .u64 (s.id : Int), .int .u64 (s.parent : Int), .string s.name, .int .i64 s.start, .int .i64 s.stop, .bool s.bad, .slice none 0 0, .int .u64 (s.rv : Int)] 35)).alloc (.cells #[.int .i64 0, .int .i64 0, .int .i64 0, .int .i64 0, .int .i64 0, .slice none 0 0, .slice none 0 0] 50)) = Wo at HI0 ⊢
  obtain ⟨hi, hhi⟩ : ∃ x, s.hi = x := ⟨_, rfl⟩
  obtain ⟨lo, hlo⟩ : ∃ x, s.lo = x := ⟨_, rfl⟩
  have HSH := Lib.hid (And.intro hhi hlo)
  clear hhi hlo
  go_loopw [9] (fun iv wq => ∃ i : Nat, iv = .int .i64 (i : Int) ∧ i ≤ m ∧ Hid (askK hi lo (b.K.drop i) = askK hi lo b.K) ∧ Hid (OfI n0 w wq (TailMath.at_ b t) ⟨A, n, cap, B, m, capB⟩ s)) (fun iv _ => m - (intOf iv).toNat)
  case atStart => exact ⟨0, rfl, by omega, Lib.hid rfl, HI0⟩
  case round =>
    obtain ⟨i, rfl, hi9, HK, HW⟩ := hrel
    have c6 : wr.cell? ⟨n0, 6, none⟩ = some (.slice B m capB) := HW.out.blk.cell 6 rfl
    have s0 : wr.cell? ⟨n0 + 1, 0, none⟩ = some (.int .u64 (hi : Int)) := HSH.out.1 ▸ HW.out.blk1.cell 0 rfl
    have s1 : wr.cell? ⟨n0 + 1, 1, none⟩ = some (.int .u64 (lo : Int)) := HSH.out.2 ▸ HW.out.blk1.cell 1 rfl
    by_cases him : i < m
    · have di : decide ((i : Int) < (m : Int)) = true := by simp; omega
      obtain ⟨g, o, kh, kl, ka, rfl, hkk, hka, hc⟩ := HAT.out i him
      obtain ⟨p0, p1, p2⟩ := hc wr (HN0.out ▸ HW.out.below)
      have HKK := Lib.hid hkk
      clear hkk hc
      by_cases he : kh = hi ∧ kl = lo
      · obtain ⟨rfl, rfl⟩ := he
        have hask : askK kh kl b.K = some ⟨kh, kl, ka⟩ := by
          obtain ⟨hl, e⟩ := HKK.out
          have h1 := HK.out
          rw [askK_drop hl, e] at h1
          simp only [and_self, if_true] at h1
          exact h1.symm
        have hof : offer b (t : Int) s = (TailMath.at_ b t, ka, 0) := offer_known HTT.out.1 HTT.out.2 (by rw [HSH.out.1, HSH.out.2]; exact hask)
        rw [hof]
        clear hask hof
        rcases hka with rfl | rfl
        · have p2' : wr.cell? ⟨g, o + i * 3 + 2, none⟩ = some (.bool false) := p2
          clear p2
          go_wp2_with fail
          go_quiet (fail)
          have HW2 := Lib.hid (HW.out.later (⟨rfl, rfl, rfl, Nat.le_refl _, fun _ _ => rfl⟩ : Below wr.heap.size wr (wr.drewN nq)))
          have p3 : (wr.drewN nq).cell? ⟨g, o + i * 3 + 2, none⟩ = some (.bool false) := p2'
          have c7 : (wr.drewN nq).cell? ⟨n0, 6, none⟩ = some (.slice (some ⟨g, o, none⟩) m capB) := c6
          clear c6 s0 s1 p0 p1 p2' HW
          generalize wr.drewN nq = wq at HW2 p3 c7 ⊢
          go_wp2_with (first
            | (refine wpList_load_row rfl 50 (.tmp 3) rfl n0 rfl 50 (rfC (TailMath.at_ b t) ⟨A, n, cap, some ⟨g, o, none⟩, m, capB⟩) (0, 0) _ HW2.out.blk Try.underlying50 rfl (by kernel_rfl) ?_)
            | (refine wpList_store_row rfl 50 (.tmp 6) _ rfl (n0 + 2) (rfC (TailMath.at_ b t) ⟨A, n, cap, some ⟨g, o, none⟩, m, capB⟩) rfl rfl 50 (rfC (new 0 0 0) rf0) HW2.out.blk2 (by kernel_rfl) rfl (rfC_one _ _) ?_)
            | fail)
          refine bodyPost_ret (of_results (b := (TailMath.at_ b t)) (r := ⟨A, n, cap, some ⟨g, o, none⟩, m, capB⟩) rfl (of_end HW2.out (rfC (TailMath.at_ b t) ⟨A, n, cap, some ⟨g, o, none⟩, m, capB⟩)).1 rfl rfl rfl (rfl : 0 = 0)) rfl ?_
          exact ⟨_, rfl, Lib.hid ((HR.out.at_t t).later (HN0.out ▸ (of_end HW2.out _).2.1)), Lib.hid (HN0.out ▸ (of_end HW2.out _).2.1)⟩
        · have p2' : wr.cell? ⟨g, o + i * 3 + 2, none⟩ = some (.bool true) := p2
          clear p2
          go_wp2_with fail
          go_quiet (fail)
          have HW2 := Lib.hid (HW.out.later (⟨rfl, rfl, rfl, Nat.le_refl _, fun _ _ => rfl⟩ : Below wr.heap.size wr (wr.drewN nq)))
          have p3 : (wr.drewN nq).cell? ⟨g, o + i * 3 + 2, none⟩ = some (.bool true) := p2'
          have c7 : (wr.drewN nq).cell? ⟨n0, 6, none⟩ = some (.slice (some ⟨g, o, none⟩) m capB) := c6
          clear c6 s0 s1 p0 p1 p2' HW
          generalize wr.drewN nq = wq at HW2 p3 c7 ⊢
          go_wp2_with (first
            | (refine wpList_load_row rfl 50 (.tmp 3) rfl n0 rfl 50 (rfC (TailMath.at_ b t) ⟨A, n, cap, some ⟨g, o, none⟩, m, capB⟩) (0, 0) _ HW2.out.blk Try.underlying50 rfl (by kernel_rfl) ?_)
            | (refine wpList_store_row rfl 50 (.tmp 6) _ rfl (n0 + 2) (rfC (TailMath.at_ b t) ⟨A, n, cap, some ⟨g, o, none⟩, m, capB⟩) rfl rfl 50 (rfC (new 0 0 0) rf0) HW2.out.blk2 (by kernel_rfl) rfl (rfC_one _ _) ?_)
            | fail)
          refine bodyPost_ret (of_results (b := (TailMath.at_ b t)) (r := ⟨A, n, cap, some ⟨g, o, none⟩, m, capB⟩) rfl (of_end HW2.out (rfC (TailMath.at_ b t) ⟨A, n, cap, some ⟨g, o, none⟩, m, capB⟩)).1 rfl rfl rfl (rfl : 0 = 0)) rfl ?_
          exact ⟨_, rfl, Lib.hid ((HR.out.at_t t).later (HN0.out ▸ (of_end HW2.out _).2.1)), Lib.hid (HN0.out ▸ (of_end HW2.out _).2.1)⟩
      · have HNX := Lib.hid (show askK hi lo (b.K.drop (i + 1)) = askK hi lo b.K from by
          obtain ⟨hl, e⟩ := HKK.out
          have h1 := HK.out
          rw [askK_drop hl, e, if_neg he] at h1
          exact h1)
        by_cases e1 : kh = hi
        · subst e1
          have e2 : ¬ kl = lo := fun h => he ⟨rfl, h⟩
          have e3 : ¬ (kl : Int) = (lo : Int) := by omega
          have e4 : ((kl : Int) == (lo : Int)) = false := by simpa using e3
          clear he
          go_wp2_with fail
          go_quiet (fail)
          have HW2 := Lib.hid (HW.out.later (⟨rfl, rfl, rfl, Nat.le_refl _, fun _ _ => rfl⟩ : Below wr.heap.size wr (wr.drewN nq)))
          clear c6 s0 s1 p0 p1 p2 HW
          go_wp2_with fail
          go_roundw
          case rel => exact ⟨i + 1, by simp, by omega, HNX, HW2⟩
          case measure => simp [intOf]; omega
        · have e3 : ¬ (kh : Int) = (hi : Int) := by omega
          have e4 : ((kh : Int) == (hi : Int)) = false := by simpa using e3
          clear he
          go_wp2_with fail
          go_quiet (fail)
          have HW2 := Lib.hid (HW.out.later (⟨rfl, rfl, rfl, Nat.le_refl _, fun _ _ => rfl⟩ : Below wr.heap.size wr (wr.drewN nq)))
          clear c6 s0 s1 p0 p1 p2 HW
          go_wp2_with fail
          go_roundw
          case rel => exact ⟨i + 1, by simp, by omega, HNX, HW2⟩
          case measure => simp [intOf]; omega
    · obtain rfl : m = i := by omega
      have di : decide ((m : Int) < (m : Int)) = false := by simp
      have HNK := Lib.hid (show askK hi lo b.K = none from by
        have h1 := HK.out
        rw [List.drop_of_length_le (by rw [HML.out]; exact Nat.le_refl _)] at h1
        exact h1.symm)
      clear HK hi9 him HAT
      obtain ⟨N, hN⟩ : ∃ N, tot b.L = N := ⟨_, rfl⟩
      have hNs : N ≤ b.sp ∧ b.sp ≤ 5000 := by have := HIV.out.tot; have := HIV.out.sp; omega
      have HSP := Lib.hid hN
      have hblk : Blk wr.drew n0 (rfC (TailMath.at_ b t) ⟨A, n, cap, B, m, capB⟩) 50 := HW.out.blk
      have HLEN := Lib.hid (refLen_any wr.drew (TailMath.at_ b t) ⟨A, n, cap, B, m, capB⟩ ((HR.out.at_t t).later (HN0.out ▸ (HW.out.later (⟨rfl, rfl, rfl, Nat.le_refl _, fun _ _ => rfl⟩ : Below wr.heap.size wr wr.drew)).below)) N hN (by omega) hn2)
      have HWD := Lib.hid (show OfI n0 w wr.drew (TailMath.at_ b t) ⟨A, n, cap, B, m, capB⟩ s from HW.out.later (⟨rfl, rfl, rfl, Nat.le_refl _, fun _ _ => rfl⟩ : Below wr.heap.size wr wr.drew))
      clear hN HW
      go_wp2_with fail
      refine wp_region_held_drew (S := fun W => Blk W n0 (rfC (TailMath.at_ b t) ⟨A, n, cap, B, m, capB⟩) 50) (by kernel_rfl) ?_ (fun hHeld => ?_)
      · exact hblk
      refine wpAnyH_take (i := 0) (v := ?_) rfl (by kernel_rfl) (by kernel_rfl) (by kernel_rfl) (fun _ _ _ h => h) (Or.inl ⟨by rfl, ?_⟩) (by assumption) ?_
      rotate_left
      · intro wq hSw; (try dsimp only at hSw); have hq0 : wq.cell? ⟨n0, 0, none⟩ = some (.int .i64 (b.sp : Int)) := Blk.cell hSw 0 rfl; have hq1 : wq.cell? ⟨n0, 1, none⟩ = some (.int .i64 (b.wait : Int)) := Blk.cell hSw 1 rfl; have hq2 : wq.cell? ⟨n0, 2, none⟩ = some (.int .i64 (b.most : Int)) := Blk.cell hSw 2 rfl; have hq3 : wq.cell? ⟨n0, 3, none⟩ = some (.int .i64 (t : Int)) := Blk.cell hSw 3 rfl; have hq4 : wq.cell? ⟨n0, 4, none⟩ = some (.int .i64 (b.came : Int)) := Blk.cell hSw 4 rfl; have hq5 : wq.cell? ⟨n0, 5, none⟩ = some (.slice A n cap) := Blk.cell hSw 5 rfl; have hq6 : wq.cell? ⟨n0, 6, none⟩ = some (.slice B m capB) := Blk.cell hSw 6 rfl; go_simp; (try with_reducible rfl)
      simp only [Act.put, List.getElem_toArray, List.getElem_cons_succ, List.getElem_cons_zero, List.setIfInBounds_toArray, List.set_cons_zero, List.set_cons_succ]
      refine wpAnyH_take (i := 2) (v := ?_) rfl (by kernel_rfl) (by kernel_rfl) (by kernel_rfl) (fun _ _ _ h => h) (Or.inl ⟨by rfl, ?_⟩) (by assumption) ?_
      rotate_left
      · intro wq hSw; (try dsimp only at hSw); go_simp; (try with_reducible rfl)
      simp only [Act.put, List.getElem_toArray, List.getElem_cons_succ, List.getElem_cons_zero, List.setIfInBounds_toArray, List.set_cons_zero, List.set_cons_succ]
      refine wpAnyH_take (i := 3) (v := ?_) rfl (by kernel_rfl) (by kernel_rfl) (by kernel_rfl) (fun _ _ _ h => h) (Or.inl ⟨by rfl, ?_⟩) (by assumption) ?_
      rotate_left
      · intro wq hSw; (try dsimp only at hSw); have hq0 : wq.cell? ⟨n0, 0, none⟩ = some (.int .i64 (b.sp : Int)) := Blk.cell hSw 0 rfl; go_simp; (try with_reducible rfl)
      simp only [Act.put, List.getElem_toArray, List.getElem_cons_succ, List.getElem_cons_zero, List.setIfInBounds_toArray, List.set_cons_zero, List.set_cons_succ]
      refine wpAnyH_ready (rs := [1]) (by kernel_rfl) (by simp) ?_
      refine AllReadyH.cons rfl (fun K hK => ?_) AllReadyH.nil
      go_simp
      refine HLEN.out.mono ?_
      rintro e w2 ⟨rfl, HB2⟩
      have y1 : Blk w2 n0 (rfC (TailMath.at_ b t) ⟨A, n, cap, B, m, capB⟩) 50 := (HWD.out.later HB2.out).blk
      have HW2 := Lib.hid (HWD.out.later HB2.out)
      refine hK.out _ _ ?_ (fun hHeld => ?_)
      · exact y1
      clear hK K
      try simp only [Act.put, List.getElem_toArray, List.getElem_cons_succ, List.getElem_cons_zero, List.setIfInBounds_toArray, List.set_cons_zero, List.set_cons_succ]
      refine wpAnyH_take (i := 4) (v := ?_) rfl (by kernel_rfl) (by kernel_rfl) (by kernel_rfl) (fun _ _ _ h => h) (Or.inl ⟨by rfl, ?_⟩) (by assumption) ?_
      rotate_left
      · intro wq hSw; (try dsimp only at hSw); go_simp; (try with_reducible rfl)
      simp only [Act.put, List.getElem_toArray, List.getElem_cons_succ, List.getElem_cons_zero, List.setIfInBounds_toArray, List.set_cons_zero, List.set_cons_succ]
      refine wpAnyH_done (by kernel_rfl) ?_ _
      clear hHeld
      clear hHeld y1
      clear c6 s0 s1 hblk HLEN HWD
      have bt1 : decide ((b.sp : Int) ≤ (N : Int)) = decide (N = b.sp) := decide_eq_decide.2 (by omega)
      by_cases hbusy : N = b.sp
      · have t3 : decide ((b.sp : Int) ≤ (N : Int)) = true := by rw [bt1]; simp [hbusy]
        have hof : offer b (t : Int) s = (TailMath.at_ b t, 2, 0) := offer_busy HTT.out.1 HTT.out.2 (by rw [HSH.out.1, HSH.out.2]; exact HNK.out) (by rw [HSP.out]; exact hbusy)
        have t3p : b.sp ≤ N := by omega
        have t3i : (b.sp : Int) ≤ (N : Int) := by omega
        have HOF := Lib.hid hof
        clear hof bt1 hbusy
        go_wp2_with (first
          | (refine wpList_load_row rfl 50 (.tmp 3) rfl n0 rfl 50 (rfC (TailMath.at_ b t) ⟨A, n, cap, B, m, capB⟩) (0, 0) _ HW2.out.blk Try.underlying50 rfl (by kernel_rfl) ?_)
          | (refine wpList_store_row rfl 50 (.tmp 6) _ rfl (n0 + 2) (rfC (TailMath.at_ b t) ⟨A, n, cap, B, m, capB⟩) rfl rfl 50 (rfC (new 0 0 0) rf0) HW2.out.blk2 (by kernel_rfl) rfl (rfC_one _ _) ?_)
          | fail)
        refine bodyPost_ret (of_results (b := (TailMath.at_ b t)) (r := ⟨A, n, cap, B, m, capB⟩) rfl (of_end HW2.out (rfC (TailMath.at_ b t) ⟨A, n, cap, B, m, capB⟩)).1 rfl rfl rfl (rfl : 0 = 0)) rfl ?_
        rw [HOF.out]
        exact ⟨_, rfl, Lib.hid ((HR.out.at_t t).later (by rw [HN0.out]; exact (of_end HW2.out _).2.1)), Lib.hid (by rw [HN0.out]; exact (of_end HW2.out _).2.1)⟩
      · have t3 : decide ((b.sp : Int) ≤ (N : Int)) = false := by rw [bt1]; simp [hbusy]
        have hof : offer b (t : Int) s = (offered (TailMath.at_ b t) s, 1, 0) := offer_taken HTT.out.1 HTT.out.2 (by rw [HSH.out.1, HSH.out.2]; exact HNK.out) (by rw [HSP.out]; omega)
        have t3p : ¬ b.sp ≤ N := by omega
        have t3i : ¬ (b.sp : Int) ≤ (N : Int) := by omega
        have HOF := Lib.hid hof
        clear hof bt1
        go_wp2_with fail
        clear t3 t3p t3i hbusy HB2
        have HTR := Lib.hid (show ∀ i, i < n → ∃ g du nu gh gl sps gs cs, A = some ⟨g, 0, none⟩ ∧ (∃ hl : i < b.L.length, b.L[i] = ⟨du, nu, gh, gl, sps⟩) ∧ (gs < n0 ∧ P gs) ∧ sps.length ≤ cs ∧ Sps w (some ⟨gs, 0, none⟩) sps ∧ sps ≠ [] ∧ sps.length ≤ 5000 ∧ ∀ W, Below n0 w W → W.cell? ⟨g, i * 5, none⟩ = some (.int .i64 (du : Int)) ∧ W.cell? ⟨g, i * 5 + 1, none⟩ = some (.int .i64 (nu : Int)) ∧ W.cell? ⟨g, i * 5 + 2, none⟩ = some (.int .u64 (gh : Int)) ∧ W.cell? ⟨g, i * 5 + 3, none⟩ = some (.int .u64 (gl : Int)) ∧ W.cell? ⟨g, i * 5 + 4, none⟩ = some (.slice (some ⟨gs, 0, none⟩) sps.length cs) from fun i hi => by
          obtain ⟨l0, e1, e2, e2f⟩ := HR.out.L
          have hl0 : l0.length = b.L.length := by rw [← e1, List.length_map]
          have hib : i < b.L.length := by rw [HNL.out]; exact hi
          have hil : i < l0.length := by omega
          obtain ⟨g, e3, hg, hc⟩ := e2 (by omega)
          obtain ⟨a0, a1, a2, a3, a4, a5, a6⟩ := hc i hil
          have e4 : b.L[i] = l0[i].1 := by simp [← e1]
          have hne : l0[i].1.spans ≠ [] := e4 ▸ (HIV.out.L.ok _ (List.getElem_mem hib)).2.2.2.2
          have hle : l0[i].1.spans.length ≤ 5000 := by
            have h1 := tot_take hib
            have h2 := tot_take_le b.L (i + 1)
            rw [← e4]
            have := HSP.out
            omega
          obtain ⟨gs, e5, e6⟩ := sps_blk a6 hne
          rw [e5] at a4 a6
          rw [← HN0.out]
          exact ⟨g, _, _, _, _, _, gs, _, e3, ⟨hib, e4⟩, ⟨e6, e2f.2 _ (List.getElem_mem hil) (by rw [← e4]; exact List.length_pos_iff.2 (e4 ▸ hne)) gs (by rw [e5]; rfl)⟩, a5, a6, hne, hle, fun W hW => ⟨(hW.cell (p := ⟨g, i * 5, none⟩) hg).trans a0, (hW.cell (p := ⟨g, i * 5 + 1, none⟩) hg).trans a1, (hW.cell (p := ⟨g, i * 5 + 2, none⟩) hg).trans a2, (hW.cell (p := ⟨g, i * 5 + 3, none⟩) hg).trans a3, (hW.cell (p := ⟨g, i * 5 + 4, none⟩) hg).trans a4⟩⟩)
        obtain ⟨i0, hi0, hz0, hz1, hz2⟩ := info_parts info_dt
        have HI := Lib.hid (And.intro hi0 (And.intro hz0 (And.intro hz1 hz2)))
        obtain ⟨i1, hi1, hy0, hy1, hy2⟩ := info_parts info_sp
        have HI1 := Lib.hid (And.intro hi1 (And.intro hy0 (And.intro hy1 hy2)))
        have HL0 := Lib.hid (show OlI P n0 w w2 (TailMath.at_ b t) ⟨A, n, cap, B, m, capB⟩ s 0 none 0 [] from ⟨HW2.out, ⟨rfl, .inl ⟨rfl, rfl⟩⟩, rfl, rfl, by simp⟩)
        clear hi0 hz0 hz1 hz2 hi1 hy0 hy1 hy2 HW2
        go_loopw [12, 10, 11] (fun iv lv fv wq => ∃ (i : Nat) (fnd : Bool) (A' : Option Addr) (c' : Nat) (l' : List Tx), iv = .int .i64 (i : Int) ∧ lv = .slice A' i c' ∧ fv = .bool fnd ∧ i ≤ n ∧ Hid ((b.L.take i).any (·.is hi lo) = fnd) ∧ Hid (OlI P n0 w wq (TailMath.at_ b t) ⟨A, n, cap, B, m, capB⟩ s i A' c' l')) (fun iv _ _ _ => n - (intOf iv).toNat)
        case atStart => exact ⟨0, false, none, 0, [], rfl, rfl, rfl, by omega, Lib.hid rfl, HL0⟩
        case round =>
          obtain ⟨i, fnd, A', c', l', rfl, rfl, rfl, hi7, HFD, HOL⟩ := hrel
          have c5 : wr.cell? ⟨n0, 5, none⟩ = some (.slice A n cap) := HOL.out.ofi.blk.cell 5 rfl
          by_cases hin : i < n
          · have di2 : decide ((i : Int) < (n : Int)) = true := by simp; omega
            obtain ⟨g, du, nu, gh, gl, sps, gs, cs, rfl, hx1, hgs, hx2, hx3, hx4, hx5, hc⟩ := HTR.out i hin
            obtain ⟨p0, p1, p2, p3, p4⟩ := hc wr HOL.out.ofi.below
            obtain ⟨sl, hsl⟩ : ∃ x, sps.length = x := ⟨_, rfl⟩
            rw [hsl] at p4 hx5
            have HSL := Lib.hid hsl
            have HX := Lib.hid (show ∃ hl : i < b.L.length, b.L[i] = ⟨du, nu, gh, gl, sps⟩ ∧ sps.length ≤ cs ∧ Sps w (some ⟨gs, 0, none⟩) sps from by
              obtain ⟨hl, e⟩ := hx1
              exact ⟨hl, e, hx2, hx3⟩)
            have HGS := Lib.hid hgs
            have HNP := Lib.hid hx4
            have HLB := Lib.hid hx5
            obtain ⟨n1, hn1⟩ : ∃ x, wr.heap.size = x := ⟨_, rfl⟩
            have HOA := Lib.hid (HOL.out.ofi.later (box_below (.cells #[.int .i64 (du : Int), .int .i64 (nu : Int), .int .u64 (gh : Int), .int .u64 (gl : Int), .slice (some ⟨gs, 0, none⟩) sl cs] 102)))
            have s0 : (wr.alloc (.cells #[.int .i64 (du : Int), .int .i64 (nu : Int), .int .u64 (gh : Int), .int .u64 (gl : Int), .slice (some ⟨gs, 0, none⟩) sl cs] 102)).cell? ⟨n0 + 1, 0, none⟩ = some (.int .u64 (hi : Int)) := HSH.out.1 ▸ HOA.out.blk1.cell 0 rfl
            have s1 : (wr.alloc (.cells #[.int .i64 (du : Int), .int .i64 (nu : Int), .int .u64 (gh : Int), .int .u64 (gl : Int), .slice (some ⟨gs, 0, none⟩) sl cs] 102)).cell? ⟨n0 + 1, 1, none⟩ = some (.int .u64 (lo : Int)) := HSH.out.2 ▸ HOA.out.blk1.cell 1 rfl
            clear hx1 hx2 hx3 hx4 hx5 hgs hsl hc
            by_cases e1 : gh = hi
            · by_cases e2 : gl = lo
              · have HMA := Lib.hid (show gh = hi ∧ gl = lo from ⟨e1, e2⟩)
                have e3 : ((gh : Int) == (hi : Int)) = true := by rw [e1]; simp
                have e4 : ((gl : Int) == (lo : Int)) = true := by rw [e2]; simp
                clear e1 e2
                have HNEWS := Lib.hid (sps_news (HX.out.2.2.2.later (by rw [HN0.out]; exact HOA.out.below)))
                have hslp : 0 < sl := by have := List.length_pos_iff.2 HNP.out; have := HSL.out; omega
                have HSE := Lib.hid (show (wr.alloc (.cells #[.int .i64 (du : Int), .int .i64 (nu : Int), .int .u64 (gh : Int), .int .u64 (gl : Int), .slice (some ⟨gs, 0, none⟩) sl cs] 102)).heap.size = n1 + 1 by rw [World.size_alloc, hn1])
                have HSZ := Lib.hid (show n0 + 3 ≤ (wr.alloc (.cells #[.int .i64 (du : Int), .int .i64 (nu : Int), .int .u64 (gh : Int), .int .u64 (gl : Int), .slice (some ⟨gs, 0, none⟩) sl cs] 102)).heap.size from by have := HOL.out.ofi.size; have := HSE.out; omega)
                have HXB := Lib.hid (hn1 ▸ blk_new wr #[.int .i64 (du : Int), .int .i64 (nu : Int), .int .u64 (gh : Int), .int .u64 (gl : Int), .slice (some ⟨gs, 0, none⟩) sl cs] 102)
                go_wp2_with (first
                  | (refine wpList_append_lies _ rfl _ _ 39 rfl (n0 + 3) 35 i1 zero10 10 104 Try.underlying39 HI1.out.1 HI1.out.2.1 HI1.out.2.2.1 HI1.out.2.2.2 rfl (by decide) (.slice none 0 0) 0 [] rfl ⟨rfl, .inl ⟨rfl, rfl⟩⟩ ⟨gs, 0, none⟩ sl cs (spC sps) rfl (by rw [spC_length, HSL.out]) HNEWS.out (spC_ones _) hslp (by unfold maxLen; have := HLB.out; omega) (by have := HLB.out; omega) HSZ.out (n1 + 1) HSE.out ?_)
                  | fail)
                intro g1 c1 w2 ho1 hg1 hor1 hlt1
                obtain rfl : g1 = n1 + 1 := by rcases hor1 with h | h; cases h; exact h
                have HB2 := Lib.hid (show Below n1 wr w2 from hn1 ▸ (box_below (W := wr) (.cells #[.int .i64 (du : Int), .int .i64 (nu : Int), .int .u64 (gh : Int), .int .u64 (gl : Int), .slice (some ⟨gs, 0, none⟩) sl cs] 102)).grown hg1 (by simp) (fun j hj => by cases hj))
                have HO2 := Lib.hid (show OfI n0 w w2 (TailMath.at_ b t) ⟨some ⟨g, 0, none⟩, n, cap, B, m, capB⟩ s from HOL.out.ofi.later (hn1 ▸ HB2.out))
                have HX2 := Lib.hid (show Blk w2 n1 #[.int .i64 (du : Int), .int .i64 (nu : Int), .int .u64 (gh : Int), .int .u64 (gl : Int), .slice (some ⟨gs, 0, none⟩) sl cs] 102 from HXB.out.same (hg1.block n1 (by have := HSE.out; omega) (by simp [Value.ownBlock])))
                have HW1 := Lib.hid (show w2.ownsRow (n0 + 3) 35 10 (.slice (some ⟨n1 + 1, 0, none⟩) sl c1) sl (spC sps) from by simpa using ho1)
                obtain ⟨n2, hn2'⟩ : ∃ x, w2.heap.size = x := ⟨_, rfl⟩
                have hn12 : n1 + 2 ≤ n2 := by omega
                have v0 : w2.cell? ⟨n0 + 1, 0, none⟩ = some (.int .u64 (s.hi : Int)) := HO2.out.blk1.cell 0 rfl
                have v1 : w2.cell? ⟨n0 + 1, 1, none⟩ = some (.int .u64 (s.lo : Int)) := HO2.out.blk1.cell 1 rfl
                have v2 : w2.cell? ⟨n0 + 1, 2, none⟩ = some (.int .u64 (s.id : Int)) := HO2.out.blk1.cell 2 rfl
                have v3 : w2.cell? ⟨n0 + 1, 3, none⟩ = some (.int .u64 (s.parent : Int)) := HO2.out.blk1.cell 3 rfl
                have v4 : w2.cell? ⟨n0 + 1, 4, none⟩ = some (.string s.name) := HO2.out.blk1.cell 4 rfl
                have v5 : w2.cell? ⟨n0 + 1, 5, none⟩ = some (.int .i64 s.start) := HO2.out.blk1.cell 5 rfl
                have v6 : w2.cell? ⟨n0 + 1, 6, none⟩ = some (.int .i64 s.stop) := HO2.out.blk1.cell 6 rfl
                have v7 : w2.cell? ⟨n0 + 1, 7, none⟩ = some (.bool s.bad) := HO2.out.blk1.cell 7 rfl
                have v8 : w2.cell? ⟨n0 + 1, 8, none⟩ = some (.slice none 0 0) := HO2.out.blk1.cell 8 rfl
                have v9 : w2.cell? ⟨n0 + 1, 9, none⟩ = some (.int .u64 (s.rv : Int)) := HO2.out.blk1.cell 9 rfl
                have HW1a := Lib.hid (HW1.out.alloc (.cells #[.int .u64 (s.hi : Int), .int .u64 (s.lo : Int), .int .u64 (s.id : Int), .int .u64 (s.parent : Int), .string s.name, .int .i64 s.start, .int .i64 s.stop, .bool s.bad, .slice none 0 0, .int .u64 (s.rv : Int)] 35))
                have HBX := Lib.hid (hn2' ▸ blk_new w2 #[.int .u64 (s.hi : Int), .int .u64 (s.lo : Int), .int .u64 (s.id : Int), .int .u64 (s.parent : Int), .string s.name, .int .i64 s.start, .int .i64 s.stop, .bool s.bad, .slice none 0 0, .int .u64 (s.rv : Int)] 35)
                have HSZ2 := Lib.hid (show n0 + 3 ≤ (w2.alloc (.cells #[.int .u64 (s.hi : Int), .int .u64 (s.lo : Int), .int .u64 (s.id : Int), .int .u64 (s.parent : Int), .string s.name, .int .i64 s.start, .int .i64 s.stop, .bool s.bad, .slice none 0 0, .int .u64 (s.rv : Int)] 35)).heap.size from by have := HO2.out.size; simp; omega)
                clear ho1 hg1 hor1 hlt1 p0 p1 p2 p3 p4 c5 s0 s1 HNEWS HSZ HOA HXB
                go_wp2_with (first
                  | (refine app_one Try.underlying39 HI1.out.1 HI1.out.2.1 HI1.out.2.2.1 HI1.out.2.2.2 rfl (by decide) rfl _ _ rfl (n0 + 3) (some ⟨n1 + 1, 0, none⟩) sl c1 _ (spL s) n2 1 rfl HW1a.out rfl rfl (fun jj uu hj => ?_) (spL_one s) (by have := HLB.out; omega) (by have := HLB.out; omega) HSZ2.out ?_)
                  | fail)
                · exact HBX.out.cell jj (by rw [← hj, ← Array.getElem?_toList]; rfl)
                · intro g3 c3 w3 ho3 hg3 hor3
                  have hg3n : n1 + 1 ≤ g3 ∧ g3 ≠ n1 := by
                    have hs : (w2.alloc (.cells #[.int .u64 (s.hi : Int), .int .u64 (s.lo : Int), .int .u64 (s.id : Int), .int .u64 (s.parent : Int), .string s.name, .int .i64 s.start, .int .i64 s.stop, .bool s.bad, .slice none 0 0, .int .u64 (s.rv : Int)] 35)).heap.size = n2 + 1 := by rw [World.size_alloc, hn2']
                    rcases hor3 with h | h
                    · simp [Value.ownBlock] at h; omega
                    · omega
                  have HB3 := Lib.hid (show Below n1 wr w3 from (HB2.out.alloc (by omega) _).grown hg3 (by simp; omega) (fun j hj => by simp [Value.ownBlock] at hj; omega))
                  have HX3 := Lib.hid (show Blk w3 n1 #[.int .i64 (du : Int), .int .i64 (nu : Int), .int .u64 (gh : Int), .int .u64 (gl : Int), .slice (some ⟨gs, 0, none⟩) sl cs] 102 from (HX2.out.later (box_below _)).same (hg3.block n1 (by simp; omega) (by simp [Value.ownBlock])))
                  have HSP3 := Lib.hid (show w3.ownsRow (n0 + 3) 35 10 (.slice (some ⟨g3, 0, none⟩) (sl + 1) c3) (sl + 1) (spC (sps ++ [s])) from by rw [spC_append]; simpa [spC] using ho3)
                  have hs3 : n2 + 1 ≤ w3.heap.size := by have := hg3.size; simp [hn2'] at this; omega
                  have hlt3 : g3 < w3.heap.size := (HSP3.out.lt g3 rfl).2
                  have d4 : w3.cell? ⟨n1, 4, none⟩ = some (.slice (some ⟨gs, 0, none⟩) sl cs) := HX3.out.cell 4 rfl
                  have f4 : w3.frozen? ⟨n1, 4, none⟩ = false := HX3.out.free 4
                  have HX4 := Lib.hid (show Blk (w3.setCell ⟨n1, 4, none⟩ (.slice (some ⟨g3, 0, none⟩) (sl + 1) c3)) n1 #[.int .i64 (du : Int), .int .i64 (nu : Int), .int .u64 (gh : Int), .int .u64 (gl : Int), .slice (some ⟨g3, 0, none⟩) (sl + 1) c3] 102 from HX3.out.set 4 _)
                  have r0 : (w3.setCell ⟨n1, 4, none⟩ (.slice (some ⟨g3, 0, none⟩) (sl + 1) c3)).cell? ⟨n1, 0, none⟩ = some (.int .i64 (du : Int)) := HX4.out.cell 0 rfl
                  have r1 : (w3.setCell ⟨n1, 4, none⟩ (.slice (some ⟨g3, 0, none⟩) (sl + 1) c3)).cell? ⟨n1, 1, none⟩ = some (.int .i64 (nu : Int)) := HX4.out.cell 1 rfl
                  have r2 : (w3.setCell ⟨n1, 4, none⟩ (.slice (some ⟨g3, 0, none⟩) (sl + 1) c3)).cell? ⟨n1, 2, none⟩ = some (.int .u64 (gh : Int)) := HX4.out.cell 2 rfl
                  have r3 : (w3.setCell ⟨n1, 4, none⟩ (.slice (some ⟨g3, 0, none⟩) (sl + 1) c3)).cell? ⟨n1, 3, none⟩ = some (.int .u64 (gl : Int)) := HX4.out.cell 3 rfl
                  have r4 : (w3.setCell ⟨n1, 4, none⟩ (.slice (some ⟨g3, 0, none⟩) (sl + 1) c3)).cell? ⟨n1, 4, none⟩ = some (.slice (some ⟨g3, 0, none⟩) (sl + 1) c3) := HX4.out.cell 4 rfl
                  have HB4 := Lib.hid (show Below n1 wr ((w3.setCell ⟨n1, 4, none⟩ (.slice (some ⟨g3, 0, none⟩) (sl + 1) c3)).alloc (.cells #[.int .i64 (du : Int), .int .i64 (nu : Int), .int .u64 (gh : Int), .int .u64 (gl : Int), .slice (some ⟨g3, 0, none⟩) (sl + 1) c3] 102)) from (HB3.out.setCell (p := ⟨n1, 4, none⟩) (Nat.le_refl _) _).alloc (by have := HB3.out.size; rw [World.size_setCell]; omega) _)
                  have hmut : ∀ k, (Value.slice A' i c').ownBlock = some k → k < n1 := fun k hk => by have := (HOL.out.own.lt k hk).2; omega
                  have HOW := Lib.hid (show ((w3.setCell ⟨n1, 4, none⟩ (.slice (some ⟨g3, 0, none⟩) (sl + 1) c3)).alloc (.cells #[.int .i64 (du : Int), .int .i64 (nu : Int), .int .u64 (gh : Int), .int .u64 (gl : Int), .slice (some ⟨g3, 0, none⟩) (sl + 1) c3] 102)).ownsRow (n0 + 3) 102 5 (.slice A' i c') i (dtC l') from row_same HOL.out.own fun k hk => HB4.out.block k (hmut k hk))
                  obtain ⟨n3, hn3⟩ : ∃ x, w3.heap.size = x := ⟨_, rfl⟩
                  have hsc : (w3.setCell ⟨n1, 4, none⟩ (.slice (some ⟨g3, 0, none⟩) (sl + 1) c3)).heap.size = n3 := by rw [World.size_setCell, hn3]
                  have hbx := blk_new (w3.setCell ⟨n1, 4, none⟩ (.slice (some ⟨g3, 0, none⟩) (sl + 1) c3)) #[.int .i64 (du : Int), .int .i64 (nu : Int), .int .u64 (gh : Int), .int .u64 (gl : Int), .slice (some ⟨g3, 0, none⟩) (sl + 1) c3] 102
                  rw [hsc] at hbx
                  have HBX2 := Lib.hid hbx
                  have HSZ3 := Lib.hid (show n0 + 3 ≤ ((w3.setCell ⟨n1, 4, none⟩ (.slice (some ⟨g3, 0, none⟩) (sl + 1) c3)).alloc (.cells #[.int .i64 (du : Int), .int .i64 (nu : Int), .int .u64 (gh : Int), .int .u64 (gl : Int), .slice (some ⟨g3, 0, none⟩) (sl + 1) c3] 102)).heap.size from by have := HOL.out.ofi.size; rw [World.size_alloc, hsc]; omega)
                  have HSC := Lib.hid hsc
                  have HMU := Lib.hid hmut
                  have HCC := Lib.hid (show sl + 1 ≤ c3 from by
                    rcases HSP3.out.2 with ⟨h1, _⟩ | ⟨_, _, _, h1, _, _, h2, _⟩
                    · cases h1
                    · injection h1 with _ _ h1; omega)
                  clear hbx hsc hmut ho3 hg3 hor3 HBX HW1a HSZ2 HW1 HX2 v0 v1 v2 v3 v4 v5 v6 v7 v8 v9
                  go_wp2_with (first
                    | (refine app_one Try.underlying47 HI.out.1 HI.out.2.1 HI.out.2.2.1 HI.out.2.2.2 rfl (by decide) rfl _ _ rfl (n0 + 3) A' i c' _ (dtL (⟨du, nu, gh, gl, sps ++ [s]⟩, some ⟨g3, 0, none⟩, c3)) n3 1 rfl HOW.out rfl rfl (fun jj uu hj => ?_) (dtL_one _) (by omega) (by omega) HSZ3.out ?_)
                    | fail)
                  · refine HBX2.out.cell jj ?_
                    rw [← hj]
                    have hsl := HSL.out
                    match jj with
                    | 0 => rfl
                    | 1 => rfl
                    | 2 => rfl
                    | 3 => rfl
                    | 4 => simp [dtL, hsl]
                    | _ + 5 => simp [dtL]
                  · intro g5 c5' w5 ho5 hg5 _
                    have hsz5 : n3 + 1 ≤ w5.heap.size := by have := hg5.size; rw [World.size_alloc, HSC.out] at this; exact this
                    have HSPS := Lib.hid (show Sps w5 (some ⟨g3, 0, none⟩) (sps ++ [s]) from by
                      refine sps_last (row_same (row_same HSP3.out (W' := (w3.setCell ⟨n1, 4, none⟩ (.slice (some ⟨g3, 0, none⟩) (sl + 1) c3)).alloc (.cells #[.int .i64 (du : Int), .int .i64 (nu : Int), .int .u64 (gh : Int), .int .u64 (gl : Int), .slice (some ⟨g3, 0, none⟩) (sl + 1) c3] 102)) fun k hk => ?_) fun k hk => ?_) (by simp [HSL.out])
                      · simp [Value.ownBlock] at hk
                        subst hk
                        exact (Below.heap_alloc _ _ _ (by rw [World.size_setCell]; exact hlt3)).trans (Below.heap_setCell _ _ _ _ hg3n.2)
                      · simp [Value.ownBlock] at hk
                        subst hk
                        refine hg5.block g3 (by rw [World.size_alloc, HSC.out]; omega) fun e => ?_
                        have := HMU.out g3 e.symm
                        omega)
                    have HNX := Lib.hid (show OlI P n0 w w5 (TailMath.at_ b t) ⟨some ⟨g, 0, none⟩, n, cap, B, m, capB⟩ s (i + 1) (some ⟨g5, 0, none⟩) c5' (l' ++ [(⟨du, nu, gh, gl, sps ++ [s]⟩, some ⟨g3, 0, none⟩, c3)]) from by
                      refine HOL.out.next (bs := []) (Mut.of_below (hn1 ▸ HB4.out)) (by simp) hg5 _ ho5 (show i < b.L.length from HX.out.1) ?_ ⟨⟨by simp [HSL.out]; exact HCC.out, HSPS.out⟩, fun g' hg' => ?_⟩
                      · obtain ⟨hl, e, _⟩ := HX.out
                        show _ = addS s (b.L[i]'hl)
                        rw [e, addS_yes]
                        rw [HSH.out.1, HSH.out.2]
                        exact HMA.out
                      · simp at hg'
                        subst hg'
                        exact .inr (by have := HOL.out.ofi.size; omega))
                    have HFN := Lib.hid (show (b.L.take (i + 1)).any (·.is hi lo) = true from by
                      rw [any_take HX.out.1, HX.out.2.1]
                      have : Gr.is ⟨du, nu, gh, gl, sps⟩ hi lo = true := is_iff.2 HMA.out
                      rw [this, Bool.or_true])
                    clear HOL HOW HBX2 HSZ3 ho5 hg5 d4 f4 r0 r1 r2 r3 r4 HX4 HX3 HSP3 HB4 HB3 HB2 HO2
                    go_wp2_with fail
                    go_roundw
                    case rel => exact ⟨i + 1, true, _, c5', _, by simp, rfl, rfl, by omega, HFN, HNX⟩
                    case measure => simp [intOf]; omega
              · have hne : ¬ (gh = hi ∧ gl = lo) := fun h => e2 h.2
                have e3 : ((gh : Int) == (hi : Int)) = true := by rw [e1]; simp
                have e4 : ((gl : Int) == (lo : Int)) = false := beq_eq_false_iff_ne.2 (by omega)
                have e4' : ¬ (gl : Int) = (lo : Int) := by omega
                clear e1 e2
                have HNE := Lib.hid (show ¬ (gh = hi ∧ gl = lo) from hne)
                have HOW := Lib.hid ((HOL.out.own.alloc (.cells #[.int .i64 (du : Int), .int .i64 (nu : Int), .int .u64 (gh : Int), .int .u64 (gl : Int), .slice (some ⟨gs, 0, none⟩) sl cs] 102)).alloc (.cells #[.int .i64 (du : Int), .int .i64 (nu : Int), .int .u64 (gh : Int), .int .u64 (gl : Int), .slice (some ⟨gs, 0, none⟩) sl cs] 102))
                have hbx := blk_new (wr.alloc (.cells #[.int .i64 (du : Int), .int .i64 (nu : Int), .int .u64 (gh : Int), .int .u64 (gl : Int), .slice (some ⟨gs, 0, none⟩) sl cs] 102)) #[.int .i64 (du : Int), .int .i64 (nu : Int), .int .u64 (gh : Int), .int .u64 (gl : Int), .slice (some ⟨gs, 0, none⟩) sl cs] 102
                rw [World.size_alloc, hn1] at hbx
                have HBX := Lib.hid hbx
                have HSZ := Lib.hid (show n0 + 3 ≤ ((wr.alloc (.cells #[.int .i64 (du : Int), .int .i64 (nu : Int), .int .u64 (gh : Int), .int .u64 (gl : Int), .slice (some ⟨gs, 0, none⟩) sl cs] 102)).alloc (.cells #[.int .i64 (du : Int), .int .i64 (nu : Int), .int .u64 (gh : Int), .int .u64 (gl : Int), .slice (some ⟨gs, 0, none⟩) sl cs] 102)).heap.size from by have := HOL.out.ofi.size; simp; omega)
                clear hbx hne
                go_wp2_with (first
                  | (refine app_one Try.underlying47 HI.out.1 HI.out.2.1 HI.out.2.2.1 HI.out.2.2.2 rfl (by decide) rfl _ _ rfl (n0 + 3) A' i c' _ (dtL (⟨du, nu, gh, gl, sps⟩, some ⟨gs, 0, none⟩, cs)) (n1 + 1) 1 rfl HOW.out rfl rfl (fun j u hj => ?_) (dtL_one _) (by omega) (by omega) HSZ.out ?_)
                  | fail)
                · refine HBX.out.cell j ?_
                  rw [← hj]
                  have hsl := HSL.out
                  match j with
                  | 0 => rfl
                  | 1 => rfl
                  | 2 => rfl
                  | 3 => rfl
                  | 4 => simp [dtL, hsl]
                  | j + 5 => simp [dtL]
                · intro g2 c2 w2 ho2 hg2 _
                  have hb2 : Below wr.heap.size wr ((wr.alloc (.cells #[.int .i64 (du : Int), .int .i64 (nu : Int), .int .u64 (gh : Int), .int .u64 (gl : Int), .slice (some ⟨gs, 0, none⟩) sl cs] 102)).alloc (.cells #[.int .i64 (du : Int), .int .i64 (nu : Int), .int .u64 (gh : Int), .int .u64 (gl : Int), .slice (some ⟨gs, 0, none⟩) sl cs] 102)) := (box_below _).alloc (by simp) _
                  have HNX := Lib.hid (show OlI P n0 w w2 (TailMath.at_ b t) ⟨some ⟨g, 0, none⟩, n, cap, B, m, capB⟩ s (i + 1) (some ⟨g2, 0, none⟩) c2 (l' ++ [(⟨du, nu, gh, gl, sps⟩, some ⟨gs, 0, none⟩, cs)]) from by
                    have hb3 : OfI n0 w w2 (TailMath.at_ b t) ⟨some ⟨g, 0, none⟩, n, cap, B, m, capB⟩ s := by
                      have h1 := HOL.out.ofi.later hb2
                      exact h1.above (bs := (Value.slice A' i c').ownBlock.toList) ⟨hg2.os, hg2.tape, hg2.output, hg2.size, fun k hk hn => hg2.block k hk fun e => hn (by rw [← e]; simp)⟩ fun k hk => (HOL.out.own.lt k (by simpa using hk)).1
                    refine HOL.out.next (bs := []) (Mut.of_below hb2) (by simp) hg2 _ ho2 HX.out.1 ?_ ⟨⟨HX.out.2.2.1, HX.out.2.2.2.later (HN0.out ▸ hb3.below)⟩, fun g' hg' => ?_⟩
                    · show _ = addS s (b.L[i]'HX.out.1)
                      rw [HX.out.2.1, addS_no]
                      rw [HSH.out.1, HSH.out.2]
                      exact HNE.out
                    · simp at hg'
                      subst hg'
                      exact .inl HGS.out)
                  have HFN := Lib.hid (show (b.L.take (i + 1)).any (·.is hi lo) = fnd from by
                    rw [any_take HX.out.1, HFD.out, HX.out.2.1]
                    have : Gr.is ⟨du, nu, gh, gl, sps⟩ hi lo = false := by
                      cases e : Gr.is ⟨du, nu, gh, gl, sps⟩ hi lo
                      · rfl
                      · exact absurd (is_iff.1 e) HNE.out
                    rw [this, Bool.or_false])
                  clear HOL HOW HBX HSZ hb2 ho2 hg2 c5 s0 s1 p0 p1 p2 p3 p4
                  go_wp2_with fail
                  go_roundw
                  case rel => exact ⟨i + 1, fnd, _, c2, _, by simp, rfl, rfl, by omega, HFN, HNX⟩
                  case measure => simp [intOf]; omega
            · have hne : ¬ (gh = hi ∧ gl = lo) := fun h => e1 h.1
              have e3 : ((gh : Int) == (hi : Int)) = false := beq_eq_false_iff_ne.2 (by omega)
              have e3' : ¬ (gh : Int) = (hi : Int) := by omega
              clear e1
              have HNE := Lib.hid (show ¬ (gh = hi ∧ gl = lo) from hne)
              have HOW := Lib.hid ((HOL.out.own.alloc (.cells #[.int .i64 (du : Int), .int .i64 (nu : Int), .int .u64 (gh : Int), .int .u64 (gl : Int), .slice (some ⟨gs, 0, none⟩) sl cs] 102)).alloc (.cells #[.int .i64 (du : Int), .int .i64 (nu : Int), .int .u64 (gh : Int), .int .u64 (gl : Int), .slice (some ⟨gs, 0, none⟩) sl cs] 102))
              have hbx := blk_new (wr.alloc (.cells #[.int .i64 (du : Int), .int .i64 (nu : Int), .int .u64 (gh : Int), .int .u64 (gl : Int), .slice (some ⟨gs, 0, none⟩) sl cs] 102)) #[.int .i64 (du : Int), .int .i64 (nu : Int), .int .u64 (gh : Int), .int .u64 (gl : Int), .slice (some ⟨gs, 0, none⟩) sl cs] 102
              rw [World.size_alloc, hn1] at hbx
              have HBX := Lib.hid hbx
              have HSZ := Lib.hid (show n0 + 3 ≤ ((wr.alloc (.cells #[.int .i64 (du : Int), .int .i64 (nu : Int), .int .u64 (gh : Int), .int .u64 (gl : Int), .slice (some ⟨gs, 0, none⟩) sl cs] 102)).alloc (.cells #[.int .i64 (du : Int), .int .i64 (nu : Int), .int .u64 (gh : Int), .int .u64 (gl : Int), .slice (some ⟨gs, 0, none⟩) sl cs] 102)).heap.size from by have := HOL.out.ofi.size; simp; omega)
              clear hbx hne
              go_wp2_with (first
                | (refine app_one Try.underlying47 HI.out.1 HI.out.2.1 HI.out.2.2.1 HI.out.2.2.2 rfl (by decide) rfl _ _ rfl (n0 + 3) A' i c' _ (dtL (⟨du, nu, gh, gl, sps⟩, some ⟨gs, 0, none⟩, cs)) (n1 + 1) 1 rfl HOW.out rfl rfl (fun j u hj => ?_) (dtL_one _) (by omega) (by omega) HSZ.out ?_)
                | fail)
              · refine HBX.out.cell j ?_
                rw [← hj]
                have hsl := HSL.out
                match j with
                | 0 => rfl
                | 1 => rfl
                | 2 => rfl
                | 3 => rfl
                | 4 => simp [dtL, hsl]
                | j + 5 => simp [dtL]
              · intro g2 c2 w2 ho2 hg2 _
                have hb2 : Below wr.heap.size wr ((wr.alloc (.cells #[.int .i64 (du : Int), .int .i64 (nu : Int), .int .u64 (gh : Int), .int .u64 (gl : Int), .slice (some ⟨gs, 0, none⟩) sl cs] 102)).alloc (.cells #[.int .i64 (du : Int), .int .i64 (nu : Int), .int .u64 (gh : Int), .int .u64 (gl : Int), .slice (some ⟨gs, 0, none⟩) sl cs] 102)) := (box_below _).alloc (by simp) _
                have HNX := Lib.hid (show OlI P n0 w w2 (TailMath.at_ b t) ⟨some ⟨g, 0, none⟩, n, cap, B, m, capB⟩ s (i + 1) (some ⟨g2, 0, none⟩) c2 (l' ++ [(⟨du, nu, gh, gl, sps⟩, some ⟨gs, 0, none⟩, cs)]) from by
                  have hb3 : OfI n0 w w2 (TailMath.at_ b t) ⟨some ⟨g, 0, none⟩, n, cap, B, m, capB⟩ s := by
                    have h1 := HOL.out.ofi.later hb2
                    exact h1.above (bs := (Value.slice A' i c').ownBlock.toList) ⟨hg2.os, hg2.tape, hg2.output, hg2.size, fun k hk hn => hg2.block k hk fun e => hn (by rw [← e]; simp)⟩ fun k hk => (HOL.out.own.lt k (by simpa using hk)).1
                  refine HOL.out.next (bs := []) (Mut.of_below hb2) (by simp) hg2 _ ho2 HX.out.1 ?_ ⟨⟨HX.out.2.2.1, HX.out.2.2.2.later (HN0.out ▸ hb3.below)⟩, fun g' hg' => ?_⟩
                  · show _ = addS s (b.L[i]'HX.out.1)
                    rw [HX.out.2.1, addS_no]
                    rw [HSH.out.1, HSH.out.2]
                    exact HNE.out
                  · simp at hg'
                    subst hg'
                    exact .inl HGS.out)
                have HFN := Lib.hid (show (b.L.take (i + 1)).any (·.is hi lo) = fnd from by
                  rw [any_take HX.out.1, HFD.out, HX.out.2.1]
                  have : Gr.is ⟨du, nu, gh, gl, sps⟩ hi lo = false := by
                    cases e : Gr.is ⟨du, nu, gh, gl, sps⟩ hi lo
                    · rfl
                    · exact absurd (is_iff.1 e) HNE.out
                  rw [this, Bool.or_false])
                clear HOL HOW HBX HSZ hb2 ho2 hg2 c5 s0 s1 p0 p1 p2 p3 p4
                go_wp2_with fail
                go_roundw
                case rel => exact ⟨i + 1, fnd, _, c2, _, by simp, rfl, rfl, by omega, HFN, HNX⟩
                case measure => simp [intOf]; omega
          · obtain rfl : n = i := by omega
            have t5 : decide ((n : Int) < (n : Int)) = false := by simp
            have HALL := Lib.hid (show b.L.take n = b.L from List.take_of_length_le (by rw [HNL.out]; exact Nat.le_refl _))
            clear hi7 hin HTR
            cases fnd with
            | true =>
              have HNW := Lib.hid (show isNew s.hi s.lo b.L = false from by
                have h1 := HFD.out
                rw [HALL.out] at h1
                unfold isNew
                rw [HSH.out.1, HSH.out.2, h1]
                rfl)
              have f5 : wr.frozen? ⟨n0, 5, none⟩ = false := HOL.out.ofi.blk.free 5
              have HE := Lib.hid (show Blk (wr.setCell ⟨n0, 5, none⟩ (.slice A' n c')) n0 (rfC (offered (TailMath.at_ b t) s) ⟨A', n, c', B, m, capB⟩) 50 ∧ Blk (wr.setCell ⟨n0, 5, none⟩ (.slice A' n c')) (n0 + 2) (rfC (new 0 0 0) rf0) 50 ∧ Blk ((wr.setCell ⟨n0, 5, none⟩ (.slice A' n c')).setRow (n0 + 2) (rfC (offered (TailMath.at_ b t) s) ⟨A', n, c', B, m, capB⟩)) (n0 + 2) (rfC (offered (TailMath.at_ b t) s) ⟨A', n, c', B, m, capB⟩) 50 ∧ RfIn P ((wr.setCell ⟨n0, 5, none⟩ (.slice A' n c')).setRow (n0 + 2) (rfC (offered (TailMath.at_ b t) s) ⟨A', n, c', B, m, capB⟩)) (offered (TailMath.at_ b t) s) ⟨A', n, c', B, m, capB⟩ ∧ Below n0 w ((wr.setCell ⟨n0, 5, none⟩ (.slice A' n c')).setRow (n0 + 2) (rfC (offered (TailMath.at_ b t) s) ⟨A', n, c', B, m, capB⟩)) from by
                have hcm : (offered (TailMath.at_ b t) s).came = b.came := by
                  show (if isNew s.hi s.lo b.L then b.came + 1 else b.came) = b.came
                  rw [HNW.out]; rfl
                have hL : (offered (TailMath.at_ b t) s).L = b.L.map (addS s) := by
                  show put _ _ s b.L = _
                  have : b.L.any (·.is s.hi s.lo) = true := by have := HNW.out; unfold isNew at this; simpa using this
                  unfold put
                  rw [if_pos this]
                  rfl
                have hb := HOL.out.ofi.blk.set 5 (.slice A' n c')
                have hC : (rfC (TailMath.at_ b t) ⟨A, n, cap, B, m, capB⟩).setIfInBounds 5 (.slice A' n c') = rfC (offered (TailMath.at_ b t) s) ⟨A', n, c', B, m, capB⟩ := by
                  unfold rfC
                  rw [hcm]
                  rfl
                rw [hC] at hb
                exact of_close (v := .slice A' n c') (A3 := A') (l := l') (bb := TailMath.at_ b t) (s := s) (hP := HP.out) HN0.out (HR.out.at_t t) HOL.out.ofi ((Mut.refl [n0] wr).setCell (by simp) _) hb HOL.out.own HOL.out.len HOL.out.ok (by rw [hL]; have := HOL.out.map; rw [show (TailMath.at_ b t).L = b.L from rfl, HALL.out] at this; exact this) rfl rfl (by
                  have := HOL.out.own
                  rcases this.2 with ⟨h1, h2⟩ | ⟨_, _, _, h1, _, _, h2, _⟩
                  · injection h1 with _ h1 h3; show n ≤ c'; omega
                  · injection h1 with _ _ h1; show n ≤ c'; omega) rfl rfl)
              clear HOL HFD HALL HNW HI HI1
              go_wp2_with (first
                | (refine wpList_load_row rfl 50 (.tmp 3) rfl n0 rfl 50 (rfC (offered (TailMath.at_ b t) s) ⟨A', n, c', B, m, capB⟩) (0, 0) _ HE.out.1 Try.underlying50 rfl (by kernel_rfl) ?_)
                | (refine wpList_store_row rfl 50 (.tmp 6) _ rfl (n0 + 2) (rfC (offered (TailMath.at_ b t) s) ⟨A', n, c', B, m, capB⟩) rfl rfl 50 (rfC (new 0 0 0) rf0) HE.out.2.1 (by kernel_rfl) rfl (rfC_one _ _) ?_)
                | fail)
              refine bodyPost_ret (of_results (b := (offered (TailMath.at_ b t) s)) (r := ⟨A', n, c', B, m, capB⟩) rfl HE.out.2.2.1 rfl rfl rfl (rfl : 0 = 0)) rfl ?_
              rw [HOF.out]
              exact ⟨⟨A', n, c', B, m, capB⟩, rfl, Lib.hid HE.out.2.2.2.1, Lib.hid (by rw [HN0.out]; exact HE.out.2.2.2.2)⟩
            | false =>
              have HNW := Lib.hid (show isNew s.hi s.lo b.L = true from by
                have h1 := HFD.out
                rw [HALL.out] at h1
                unfold isNew
                rw [HSH.out.1, HSH.out.2, h1]
                rfl)
              obtain ⟨n1, hn1⟩ : ∃ x, wr.heap.size = x := ⟨_, rfl⟩
              obtain ⟨dw, hdw⟩ : ∃ x, t + b.wait = x := ⟨_, rfl⟩
              have hdwi : (t : Int) + (b.wait : Int) = (dw : Int) := by omega
              have hdwb : dw ≤ 2199023255552 := by have := HIV.out.wait; omega
              obtain ⟨cm, hcm⟩ : ∃ x, b.came = x := ⟨_, rfl⟩
              have k1 : wr.cell? ⟨n0, 1, none⟩ = some (.int .i64 (b.wait : Int)) := HOL.out.ofi.blk.cell 1 rfl
              have k4 : wr.cell? ⟨n0, 4, none⟩ = some (.int .i64 (cm : Int)) := hcm ▸ HOL.out.ofi.blk.cell 4 rfl
              obtain ⟨cm1, hcm1⟩ : ∃ x : Nat, (cm : Int) + 1 = (x : Int) := ⟨cm + 1, by omega⟩
              have hcmb : cm ≤ 1000000000 := by omega
              have v0 : wr.cell? ⟨n0 + 1, 0, none⟩ = some (.int .u64 (hi : Int)) := HSH.out.1 ▸ HOL.out.ofi.blk1.cell 0 rfl
              have v1 : wr.cell? ⟨n0 + 1, 1, none⟩ = some (.int .u64 (lo : Int)) := HSH.out.2 ▸ HOL.out.ofi.blk1.cell 1 rfl
              have v2 : wr.cell? ⟨n0 + 1, 2, none⟩ = some (.int .u64 (s.id : Int)) := HOL.out.ofi.blk1.cell 2 rfl
              have v3 : wr.cell? ⟨n0 + 1, 3, none⟩ = some (.int .u64 (s.parent : Int)) := HOL.out.ofi.blk1.cell 3 rfl
              have v4 : wr.cell? ⟨n0 + 1, 4, none⟩ = some (.string s.name) := HOL.out.ofi.blk1.cell 4 rfl
              have v5 : wr.cell? ⟨n0 + 1, 5, none⟩ = some (.int .i64 s.start) := HOL.out.ofi.blk1.cell 5 rfl
              have v6 : wr.cell? ⟨n0 + 1, 6, none⟩ = some (.int .i64 s.stop) := HOL.out.ofi.blk1.cell 6 rfl
              have v7 : wr.cell? ⟨n0 + 1, 7, none⟩ = some (.bool s.bad) := HOL.out.ofi.blk1.cell 7 rfl
              have v8 : wr.cell? ⟨n0 + 1, 8, none⟩ = some (.slice none 0 0) := HOL.out.ofi.blk1.cell 8 rfl
              have v9 : wr.cell? ⟨n0 + 1, 9, none⟩ = some (.int .u64 (s.rv : Int)) := HOL.out.ofi.blk1.cell 9 rfl
              have HB2 := Lib.hid (show Below n1 wr ((wr.alloc (.cells #[.int .u64 (hi : Int), .int .u64 (lo : Int), .int .u64 (s.id : Int), .int .u64 (s.parent : Int), .string s.name, .int .i64 s.start, .int .i64 s.stop, .bool s.bad, .slice none 0 0, .int .u64 (s.rv : Int)] 35)).alloc (.cells #[.int .i64 (dw : Int), .int .i64 (cm : Int), .int .u64 (hi : Int), .int .u64 (lo : Int), .slice (some ⟨n1, 0, none⟩) 1 1] 102)) from hn1 ▸ (box_below _).alloc (by simp) _)
              have HOW := Lib.hid ((HOL.out.own.alloc (.cells #[.int .u64 (hi : Int), .int .u64 (lo : Int), .int .u64 (s.id : Int), .int .u64 (s.parent : Int), .string s.name, .int .i64 s.start, .int .i64 s.stop, .bool s.bad, .slice none 0 0, .int .u64 (s.rv : Int)] 35)).alloc (.cells #[.int .i64 (dw : Int), .int .i64 (cm : Int), .int .u64 (hi : Int), .int .u64 (lo : Int), .slice (some ⟨n1, 0, none⟩) 1 1] 102))
              have hbx := blk_new (wr.alloc (.cells #[.int .u64 (hi : Int), .int .u64 (lo : Int), .int .u64 (s.id : Int), .int .u64 (s.parent : Int), .string s.name, .int .i64 s.start, .int .i64 s.stop, .bool s.bad, .slice none 0 0, .int .u64 (s.rv : Int)] 35)) #[.int .i64 (dw : Int), .int .i64 (cm : Int), .int .u64 (hi : Int), .int .u64 (lo : Int), .slice (some ⟨n1, 0, none⟩) 1 1] 102
              rw [World.size_alloc, hn1] at hbx
              have HBX := Lib.hid hbx
              have HSZ := Lib.hid (show n0 + 3 ≤ ((wr.alloc (.cells #[.int .u64 (hi : Int), .int .u64 (lo : Int), .int .u64 (s.id : Int), .int .u64 (s.parent : Int), .string s.name, .int .i64 s.start, .int .i64 s.stop, .bool s.bad, .slice none 0 0, .int .u64 (s.rv : Int)] 35)).alloc (.cells #[.int .i64 (dw : Int), .int .i64 (cm : Int), .int .u64 (hi : Int), .int .u64 (lo : Int), .slice (some ⟨n1, 0, none⟩) 1 1] 102)).heap.size from by have := HOL.out.ofi.size; simp; omega)
              have HNB := Lib.hid (And.intro hdw (And.intro hcm hcm1))
              clear hbx hdw hcm
              go_wp2_with (first
                | (refine app_one Try.underlying47 HI.out.1 HI.out.2.1 HI.out.2.2.1 HI.out.2.2.2 rfl (by decide) rfl _ _ rfl (n0 + 3) A' n c' _ (dtL (⟨dw, cm, hi, lo, [s]⟩, some ⟨n1, 0, none⟩, 1)) (n1 + 1) 1 rfl HOW.out rfl rfl (fun jj uu hj => ?_) (dtL_one _) (by omega) (by omega) HSZ.out ?_)
                | fail)
              · refine HBX.out.cell jj ?_
                rw [← hj]
                match jj with
                | 0 => rfl
                | 1 => rfl
                | 2 => rfl
                | 3 => rfl
                | 4 => rfl
                | _ + 5 => simp [dtL]
              · intro g5 c5' w5 ho5 hg5 _
                have hmut : ∀ k, (Value.slice A' n c').ownBlock = some k → k < n1 := fun k hk => by have := (HOL.out.own.lt k hk).2; omega
                have hOF5 : OfI n0 w w5 (TailMath.at_ b t) ⟨A, n, cap, B, m, capB⟩ s := (HOL.out.ofi.later (hn1 ▸ HB2.out)).above (bs := (Value.slice A' n c').ownBlock.toList) ⟨hg5.os, hg5.tape, hg5.output, hg5.size, fun k hk hn => hg5.block k hk fun e => hn (by rw [← e]; simp)⟩ fun k hk => (HOL.out.own.lt k (by simpa using hk)).1
                have hsp1 : Blk w5 n1 #[.int .u64 (hi : Int), .int .u64 (lo : Int), .int .u64 (s.id : Int), .int .u64 (s.parent : Int), .string s.name, .int .i64 s.start, .int .i64 s.stop, .bool s.bad, .slice none 0 0, .int .u64 (s.rv : Int)] 35 := ((hn1 ▸ blk_new wr #[.int .u64 (hi : Int), .int .u64 (lo : Int), .int .u64 (s.id : Int), .int .u64 (s.parent : Int), .string s.name, .int .i64 s.start, .int .i64 s.stop, .bool s.bad, .slice none 0 0, .int .u64 (s.rv : Int)] 35 : Blk (wr.alloc (.cells #[.int .u64 (hi : Int), .int .u64 (lo : Int), .int .u64 (s.id : Int), .int .u64 (s.parent : Int), .string s.name, .int .i64 s.start, .int .i64 s.stop, .bool s.bad, .slice none 0 0, .int .u64 (s.rv : Int)] 35)) n1 #[.int .u64 (hi : Int), .int .u64 (lo : Int), .int .u64 (s.id : Int), .int .u64 (s.parent : Int), .string s.name, .int .i64 s.start, .int .i64 s.stop, .bool s.bad, .slice none 0 0, .int .u64 (s.rv : Int)] 35).later (box_below _)).same (hg5.block n1 (by simp; omega) (fun e => by have := hmut n1 e.symm; omega))
                have hok : ∀ x ∈ l' ++ [(⟨dw, cm, hi, lo, [s]⟩, some ⟨n1, 0, none⟩, 1)], Okx P n0 w5 x := fun x hx => by
                  rcases List.mem_append.1 hx with e | e
                  · exact ok_grown HOL.out (bs := []) (Mut.of_below (hn1 ▸ HB2.out)) (by simp) hg5 x e
                  · rw [List.mem_singleton.1 e]
                    refine ⟨⟨Nat.le_refl _, fun _ => ⟨n1, rfl, hsp1.lt, fun j hj k hk => ?_⟩⟩, fun g' hg' => ?_⟩
                    · have hj0 : j = 0 := by simp at hj; exact hj
                      subst hj0
                      have hh : ([s] : List Sp)[0] = s := rfl
                      rw [Nat.zero_mul, Nat.zero_add]
                      show w5.cell? ⟨n1, k, none⟩ = (spL s)[k]?
                      have hkk : k < (spL s).length := hk
                      rw [List.getElem?_eq_getElem hkk]
                      refine hsp1.cell k ?_
                      have hS := HSH.out
                      rw [← Array.getElem?_toList]
                      rw [← hS.1, ← hS.2]
                      show (spL s)[k]? = _
                      rw [List.getElem?_eq_getElem hkk]
                    · simp at hg'
                      subst hg'
                      exact .inr (by have := HOL.out.ofi.size; omega)
                have k4' : w5.cell? ⟨n0, 4, none⟩ = some (.int .i64 (cm : Int)) := HNB.out.2.1 ▸ hOF5.blk.cell 4 rfl
                have f4 : w5.frozen? ⟨n0, 4, none⟩ = false := hOF5.blk.free 4
                have k5 : (w5.setCell ⟨n0, 4, none⟩ (.int .i64 (cm1 : Int))).cell? ⟨n0, 5, none⟩ = some (.slice A n cap) := (hOF5.blk.set 4 (.int .i64 (cm1 : Int))).cell 5 rfl
                have f5 : (w5.setCell ⟨n0, 4, none⟩ (.int .i64 (cm1 : Int))).frozen? ⟨n0, 5, none⟩ = false := (hOF5.blk.set 4 (.int .i64 (cm1 : Int))).free 5
                have HE := Lib.hid (show Blk ((w5.setCell ⟨n0, 4, none⟩ (.int .i64 (cm1 : Int))).setCell ⟨n0, 5, none⟩ (.slice (some ⟨g5, 0, none⟩) (n + 1) c5')) n0 (rfC (offered (TailMath.at_ b t) s) ⟨some ⟨g5, 0, none⟩, n + 1, c5', B, m, capB⟩) 50 ∧ Blk ((w5.setCell ⟨n0, 4, none⟩ (.int .i64 (cm1 : Int))).setCell ⟨n0, 5, none⟩ (.slice (some ⟨g5, 0, none⟩) (n + 1) c5')) (n0 + 2) (rfC (new 0 0 0) rf0) 50 ∧ Blk (((w5.setCell ⟨n0, 4, none⟩ (.int .i64 (cm1 : Int))).setCell ⟨n0, 5, none⟩ (.slice (some ⟨g5, 0, none⟩) (n + 1) c5')).setRow (n0 + 2) (rfC (offered (TailMath.at_ b t) s) ⟨some ⟨g5, 0, none⟩, n + 1, c5', B, m, capB⟩)) (n0 + 2) (rfC (offered (TailMath.at_ b t) s) ⟨some ⟨g5, 0, none⟩, n + 1, c5', B, m, capB⟩) 50 ∧ RfIn P (((w5.setCell ⟨n0, 4, none⟩ (.int .i64 (cm1 : Int))).setCell ⟨n0, 5, none⟩ (.slice (some ⟨g5, 0, none⟩) (n + 1) c5')).setRow (n0 + 2) (rfC (offered (TailMath.at_ b t) s) ⟨some ⟨g5, 0, none⟩, n + 1, c5', B, m, capB⟩)) (offered (TailMath.at_ b t) s) ⟨some ⟨g5, 0, none⟩, n + 1, c5', B, m, capB⟩ ∧ Below n0 w (((w5.setCell ⟨n0, 4, none⟩ (.int .i64 (cm1 : Int))).setCell ⟨n0, 5, none⟩ (.slice (some ⟨g5, 0, none⟩) (n + 1) c5')).setRow (n0 + 2) (rfC (offered (TailMath.at_ b t) s) ⟨some ⟨g5, 0, none⟩, n + 1, c5', B, m, capB⟩)) from by
                  have hcm : (offered (TailMath.at_ b t) s).came = cm1 := by
                    show (if isNew s.hi s.lo b.L then b.came + 1 else b.came) = cm1
                    rw [HNW.out, if_pos rfl]
                    have := HNB.out.2
                    omega
                  have hL : (offered (TailMath.at_ b t) s).L = b.L ++ [⟨dw, cm, hi, lo, [s]⟩] := by
                    show put (t + b.wait) b.came s b.L = _
                    rw [put_new HNW.out, HSH.out.1, HSH.out.2, HNB.out.1, HNB.out.2.1]
                  have hb := (hOF5.blk.set 4 (.int .i64 (cm1 : Int))).set 5 (.slice (some ⟨g5, 0, none⟩) (n + 1) c5')
                  have hC : ((rfC (TailMath.at_ b t) ⟨A, n, cap, B, m, capB⟩).setIfInBounds 4 (.int .i64 (cm1 : Int))).setIfInBounds 5 (.slice (some ⟨g5, 0, none⟩) (n + 1) c5') = rfC (offered (TailMath.at_ b t) s) ⟨some ⟨g5, 0, none⟩, n + 1, c5', B, m, capB⟩ := by
                    unfold rfC
                    rw [hcm]
                    rfl
                  rw [hC] at hb
                  have hmap : l'.map (·.1) = b.L := by
                    have := HOL.out.map
                    rw [show (TailMath.at_ b t).L = b.L from rfl, HALL.out] at this
                    rw [this]
                    have hid : ∀ g ∈ b.L, addS s g = g := fun g hg => addS_no (isNew_true.1 HNW.out g hg)
                    exact (List.map_congr_left hid).trans (List.map_id _)
                  exact of_close (v := .slice (some ⟨g5, 0, none⟩) (n + 1) c5') (A3 := some ⟨g5, 0, none⟩) (l := l' ++ [(⟨dw, cm, hi, lo, [s]⟩, some ⟨n1, 0, none⟩, 1)]) (bb := TailMath.at_ b t) (s := s) (hP := HP.out) HN0.out (HR.out.at_t t) hOF5 (((Mut.refl [n0] w5).setCell (by simp) _).setCell (by simp) _) hb (by rw [dtC_append, dtC_one]; exact ho5) (by simp [HOL.out.len]) hok (by rw [hL, List.map_append, hmap]; rfl) rfl rfl (by
                    rcases ho5.2 with ⟨h1, h2⟩ | ⟨_, _, _, h1, _, _, h2, _⟩
                    · cases h1
                    · injection h1 with _ _ h1; show n + 1 ≤ c5'; omega) rfl rfl)
                clear hmut hOF5 hsp1 hok HOL HFD HALL HNW HI HI1 HBX HSZ HOW HB2 ho5 hg5 k1 k4 v0 v1 v2 v3 v4 v5 v6 v7 v8 v9
                go_wp2_with (first
                  | (refine wpList_load_row rfl 50 (.tmp 3) rfl n0 rfl 50 (rfC (offered (TailMath.at_ b t) s) ⟨some ⟨g5, 0, none⟩, n + 1, c5', B, m, capB⟩) (0, 0) _ HE.out.1 Try.underlying50 rfl (by kernel_rfl) ?_)
                  | (refine wpList_store_row rfl 50 (.tmp 6) _ rfl (n0 + 2) (rfC (offered (TailMath.at_ b t) s) ⟨some ⟨g5, 0, none⟩, n + 1, c5', B, m, capB⟩) rfl rfl 50 (rfC (new 0 0 0) rf0) HE.out.2.1 (by kernel_rfl) rfl (rfC_one _ _) ?_)
                  | fail)
                refine bodyPost_ret (of_results (b := (offered (TailMath.at_ b t) s)) (r := ⟨some ⟨g5, 0, none⟩, n + 1, c5', B, m, capB⟩) rfl HE.out.2.2.1 rfl rfl rfl (rfl : 0 = 0)) rfl ?_
                rw [HOF.out]
                exact ⟨⟨some ⟨g5, 0, none⟩, n + 1, c5', B, m, capB⟩, rfl, Lib.hid HE.out.2.2.2.1, Lib.hid (by rw [HN0.out]; exact HE.out.2.2.2.2)⟩

end Go.Proofs.Ythpcnnkdpgjiiaa
