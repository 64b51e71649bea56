/-
  The document's own order of layer 11: the places of those offered, the greatest first.
-/
import Derived.Test.YtmjbdjcpjaeemaaPrRefOrdM
import Derived.Test.YtmjbdjcpjaeemaaPrRef
namespace Go.Proofs.Ytmjbdjcpjaeemaa
open Go.RowKit Go.Proofs.PrioMath

theorem quietX {P : Program} {f : FuncId} {args : Array Value} {w : World} {n : Nat} {v : Value}
    (h : Calls P f args (w.drewN n) fun e w' => e = .returned v ∧ w.drewN n = w') : Calls P f args (w.drewN n) fun e w'' => e = .returned v ∧ ∃ m, w'' = w.drewN m :=
  h.mono fun _ _ ⟨he, hm⟩ => ⟨he, n, hm.symm⟩
theorem grow_below {B : Nat} {W3 w w' : World} {v : Value} (h : Below B W3 w) (hs : B ≤ w.heap.size) (hg : w.grownBy w' v.ownBlock) (hv : ∀ g, v.ownBlock = some g → B ≤ g) : Below B W3 w' ∧ B ≤ w'.heap.size := grown_below h hs hg hv
theorem ri_one (w : World) (n : Nat) (hn : w.heap.size = n) (t : Of) (i : Nat) (hi : t.p = i) : Ri (w.alloc (.cells #[.int .i64 (i : Int)] 3)) (some ⟨n, 0, none⟩) 1 [t] := by
  subst hn hi
  refine ⟨rfl, fun _ => ⟨_, 0, rfl, fun j hj => ?_⟩⟩
  obtain rfl : j = 0 := by omega
  exact (blk_new w #[.int .i64 (t.p : Int)] 3).cell 0 rfl
theorem take_more {s L : List Of} {i : Nat} (hi : i < s.length) (h : L.Perm (s.take i)) : (insD (at_ s i) L).Perm (s.take (i + 1)) := by
  refine (insD_perm _ _).trans ?_
  rw [List.take_succ_eq_append_getElem hi, ← at_get hi]
  exact (List.perm_append_singleton _ _).symm.trans (h.append_right _)
/-- A row of places in memory of its own. -/
def Od (w W : World) (B : Option Addr) (n : Nat) (L : List Of) : Prop := 0 < n → ∃ g, B = some ⟨g, 0, none⟩ ∧ w.heap.size ≤ g ∧ g < W.heap.size ∧ ∀ j, j < n → W.cell? ⟨g, j, none⟩ = some (.int .i64 ((at_ L j).p : Int))
theorem il_row {W : World} {base n c : Nat} {B : Option Addr} {L : List Of} (h : W.ownsRow base 3 1 (.slice B n c) n (il L)) (hl : L.length = n) (h0 : 0 < n) : ∃ g, B = some ⟨g, 0, none⟩ ∧ base ≤ g ∧ g < W.heap.size ∧ ∀ j, j < n → W.cell? ⟨g, j, none⟩ = some (.int .i64 ((at_ L j).p : Int)) := by
  obtain ⟨g, cap', e, hg1, hg2⟩ := h.form h0
  have hb := h.lt g (by rw [e]; rfl)
  injection e with e1 _ e2
  subst e1 e2
  refine ⟨g, rfl, hb.1, hg2, fun j hj => ?_⟩
  have z : (⟨g, 0, none⟩ : Addr).add j = ⟨g, j, none⟩ := by unfold Addr.add; split <;> simp_all
  have r1 := h.cells (g := g) rfl _ _ (il_at (l := L) (i := j) (by omega))
  rw [z] at r1
  exact r1
theorem cut_base {W : World} {base n c : Nat} {B : Option Addr} {L : List Of} (h : W.ownsRow base 3 1 (.slice B n c) n (il L)) : n ≤ c ∧ (B = none → c = 0) := by
  rcases h.2 with ⟨e, en⟩ | ⟨g, c', cur, e, _, _, h2, h3, _⟩
  · injection e with e0 e1 e2; omega
  · injection e with e1 e2 e3
    refine ⟨by omega, fun hB => ?_⟩
    rw [hB] at e1; cases e1

set_option linter.unusedSimpArgs false in
set_option maxRecDepth 100000 in
set_option maxHeartbeats 4000000 in
theorem refOrder_any {A : Option Addr} {n cap k m : Nat} {s : List Of} {bs : List Nat} (w : World) (h : Dc w A n cap s bs) (hf : ∀ t ∈ s, Fit t) (hP : Pl s) :
    Calls Try.prog 23 #[.agg #[.int .i64 (k : Int), .int .u64 (m : Int), .slice A n cap]] w fun e w' => ∃ B c L, e = .returned (.slice B n c) ∧ Hid (Below w.heap.size w w' ∧ L.Perm s ∧ De L ∧ Od w w' B n L) := by
  obtain ⟨n0, hn0⟩ : ∃ n0, w.heap.size = n0 := ⟨_, rfl⟩
  have hl := h.len
  have h5 := h.five
  have hB : Below n0 w (w.alloc (.cells #[.int .i64 (k : Int), .int .u64 (m : Int), .slice A n cap] 42)) := hn0 ▸ box_below _
  have hk0 := blk_new w #[.int .i64 (k : Int), .int .u64 (m : Int), .slice A n cap] 42
  rw [hn0] at hk0
  obtain ⟨W1, hW1⟩ : ∃ W1, (w.alloc (.cells #[.int .i64 (k : Int), .int .u64 (m : Int), .slice A n cap] 42)) = W1 := ⟨_, rfl⟩
  have hs1 : W1.heap.size = n0 + 1 := by rw [← hW1]; simp [hn0]
  rw [hW1] at hB hk0
  have HK0 := Lib.hid hk0
  have HB := Lib.hid hB
  have HN0 := Lib.hid hn0
  have HL := Lib.hid hl
  have HD := Lib.hid (h.later (hn0 ▸ hB))
  have HF := Lib.hid hf
  have HPL := Lib.hid hP
  have HBX : Hid (Below (n0 + 1) W1 W1 ∧ n0 + 1 ≤ W1.heap.size) := Lib.hid ⟨Below.refl _ _, by omega⟩
  have HKF : Hid (∀ W, Below (n0 + 1) W1 W → W.cell? ⟨n0, 2, none⟩ = some (.slice A n cap)) := Lib.hid fun W hW => (HK0.out.same (hW.block _ (by omega))).cell 2 rfl
  have HSF : Hid (∀ W, Below (n0 + 1) W1 W → ∀ j, j < n → ∃ g, A = some ⟨g, 0, none⟩ ∧ W.cell? ⟨g, j * 2, none⟩ = some (.int .u64 ((at_ s j).w : Int)) ∧ W.cell? ⟨g, j * 2 + 1, none⟩ = some (.int .u64 ((at_ s j).d : Int))) := Lib.hid fun W hW j hj => by
    obtain ⟨g, e, hg, _, hc⟩ := HD.out.cells (by omega)
    rw [hs1] at hg
    exact ⟨g, e, (hW.cell (p := ⟨g, j * 2, none⟩) hg).trans (hc j hj).1, (hW.cell (p := ⟨g, j * 2 + 1, none⟩) hg).trans (hc j hj).2⟩
  have HO0 : Hid (W1.ownsRow (n0 + 1) 3 1 (.slice none 0 0) 0 (il [])) := Lib.hid (World.ownsRow_nil _ _ _ _)
  have HL0 : Hid (([] : List Of).Perm (s.take 0) ∧ De []) := Lib.hid ⟨by simp, List.Pairwise.nil⟩
  have HS1 := Lib.hid hs1
  clear h hl hB hk0 hs1 hf hP
  rw [hn0]
  go_enter Try.func23, Try.ntmps23
  go_wp2_with fail
  go_loopw [3, 4] (fun ov iv wr => ∃ (B : Option Addr) (i c : Nat) (L : List Of), ov = .slice B i c ∧ iv = .int .i64 (i : Int) ∧ i ≤ n ∧ Hid (Below (n0 + 1) W1 wr ∧ n0 + 1 ≤ wr.heap.size) ∧ Hid (wr.ownsRow (n0 + 1) 3 1 (.slice B i c) i (il L)) ∧ Hid (L.Perm (s.take i) ∧ De L)) (fun _ iv _ => n - (intOf iv).toNat)
  case atStart => exact ⟨none, 0, 0, [], rfl, rfl, by omega, HBX, HO0, HL0⟩
  case round =>
    obtain ⟨B, i, c, L, rfl, rfl, hi, HBW, HOW, HLW⟩ := hrel
    have x2 := HKF.out _ HBW.out.1
    by_cases hlt : i < n
    · have dl : decide ((i : Int) < (n : Int)) = true := by simp; omega
      have dl' : decide (i < n) = true := by simp; omega
      obtain ⟨g, rfl, sc1, sc2⟩ := HSF.out _ HBW.out.1 i hlt
      obtain ⟨Wo, rfl⟩ : ∃ Wo, Wo = wr := ⟨_, rfl⟩
      obtain ⟨a, ha⟩ : ∃ a, (at_ s i).w = a := ⟨_, rfl⟩
      obtain ⟨b, hb⟩ : ∃ b, (at_ s i).d = b := ⟨_, rfl⟩
      rw [ha] at sc1
      rw [hb] at sc2
      have hil : i < s.length := by rw [HL.out]; exact hlt
      have hfi : Fit (at_ s i) := HF.out _ (at_mem hil)
      have hLn : L.length = i := by
        have := HLW.out.1.length_eq
        rw [List.length_take] at this
        omega
      have hbe : ∀ (t : Of), t ∈ L → t ∈ s ∧ t.p < i := fun t ht => by
        have h1 := HLW.out.1.mem_iff.1 ht
        obtain ⟨j, hj, rfl⟩ := List.mem_iff_getElem.1 h1
        rw [List.length_take] at hj
        rw [List.getElem_take, ← at_get (by omega)]
        exact ⟨at_mem (by omega), by rw [HPL.out j (by omega)]; omega⟩
      have HA := Lib.hid ha
      have HBB := Lib.hid hb
      have HFI := Lib.hid hfi
      have HLN := Lib.hid hLn
      have HBE := Lib.hid hbe
      have HQ0 : Hid (∃ q, Wo = Wo.drewN q) := Lib.hid ⟨0, rfl⟩
      clear ha hb hil hfi hLn hbe
      go_wp2_with fail
      go_loopw [5] (fun kv wr => ∃ kk : Nat, kv = .int .i64 (kk : Int) ∧ kk ≤ i ∧ Hid (∃ q, wr = Wo.drewN q) ∧ Hid (∀ j, j < kk → lt (at_ L j) (at_ s i) = false)) (fun kv _ => i - (intOf kv).toNat)
      case atStart => exact ⟨0, rfl, by omega, HQ0, Lib.hid fun j hj => by omega⟩
      case round =>
        obtain ⟨kk, rfl, hkk, HQ, HI⟩ := hrel
        obtain ⟨q, hq⟩ := HQ.out
        have HNX : Hid (∀ nq, ∃ q', wr.drewN nq = Wo.drewN q') := Lib.hid fun nq => ⟨q + nq, by rw [hq, World.drewN_drewN]⟩
        have y2 : wr.cell? ⟨n0, 2, none⟩ = some (.slice (some ⟨g, 0, none⟩) n cap) := by rw [hq]; exact x2
        have s1 : wr.cell? ⟨g, i * 2, none⟩ = some (.int .u64 (a : Int)) := by rw [hq]; exact sc1
        have s2 : wr.cell? ⟨g, i * 2 + 1, none⟩ = some (.int .u64 (b : Int)) := by rw [hq]; exact sc2
        have HBX1 : Hid (∀ nq, Below (n0 + 1) W1 (wr.drewN nq) ∧ n0 + 1 ≤ (wr.drewN nq).heap.size ∧ (wr.drewN nq).ownsRow (n0 + 1) 3 1 (.slice B i c) i (il L)) := Lib.hid fun nq => by
          rw [hq, World.drewN_drewN]
          exact ⟨draws HBW.out.1 _, HBW.out.2, row_same HOW.out fun _ _ => rfl⟩
        by_cases hkl : kk < i
        · have t1 : decide ((kk : Int) < (i : Int)) = true := by simp; omega
          have t1' : decide (kk < i) = true := by simp; omega
          obtain ⟨gl, rfl, hgl, _, hcl⟩ := il_row HOW.out HLN.out (by omega)
          obtain ⟨t, ht⟩ : ∃ t, at_ L kk = t := ⟨_, rfl⟩
          have htm : t ∈ L := ht ▸ at_mem (by rw [HLN.out]; exact hkl)
          obtain ⟨hts, htp⟩ := HBE.out t htm
          have htat := (HPL.out.mem hts).2
          have hft := HF.out t hts
          obtain ⟨p, y, e⟩ := t
          simp only at htp htat
          have l1 : wr.cell? ⟨gl, kk, none⟩ = some (.int .i64 (p : Int)) := by
            rw [hq]
            have := hcl kk hkl
            rw [ht] at this
            exact this
          obtain ⟨g', hg', c1, c2⟩ := HSF.out _ HBW.out.1 p (by omega)
          obtain rfl : g = g' := by injection hg' with hg'; injection hg'
          rw [htat] at c1 c2
          have d1 : wr.cell? ⟨g, p * 2, none⟩ = some (.int .u64 (y : Int)) := by rw [hq]; exact c1
          have d2 : wr.cell? ⟨g, p * 2 + 1, none⟩ = some (.int .u64 (e : Int)) := by rw [hq]; exact c2
          have t2 : decide ((p : Int) < (n : Int)) = true := by simp; omega
          have hpn : p < n := by omega
          have hAb := fun W => refAbove_any a b y e W (by rw [← HA.out]; exact HFI.out.1) (by rw [← HBB.out]; exact HFI.out.2) hft.1 hft.2
          obtain ⟨r, hr⟩ : ∃ r, abv a b y e = r := ⟨_, rfl⟩
          rw [hr] at hAb
          have hlt2 : lt (⟨p, y, e⟩ : Of) (at_ s i) = r := by
            rw [← hr]
            have hpi : (at_ s i).p = i := HPL.out i (by rw [HL.out]; exact hlt)
            unfold lt abv
            rw [HA.out, HBB.out, hpi]
            congr 1
            simp only [eq_iff_iff]
            constructor
            · rintro (h | ⟨_, h⟩)
              · exact h
              · omega
            · exact fun h => .inl h
          have HAB := Lib.hid hAb
          have HLT := Lib.hid (ht ▸ hlt2)
          clear hAb hr hlt2 ht htm hts htat hft hcl c1 c2 hq
          cases r with
          | false =>
            go_wp2_with fail
            go_quiet ((go_at_call 33; exact quietX (HAB.out _)))
            clear l1 d1 d2 y2 s1 s2
            go_wp2_with fail
            go_roundw
            case rel => exact ⟨kk + 1, by simp, by omega, Lib.hid (HNX.out _), Lib.hid fun j hj => by
              by_cases hje : j = kk
              · rw [hje]; exact HLT.out
              · exact HI.out j (by omega)⟩
            case measure => simp [intOf]; omega
          | true =>
            go_wp2_with fail
            go_quiet ((go_at_call 33; exact quietX (HAB.out _)))
            clear l1 d1 d2 y2 s1 s2
            have HSTOP : Hid (kk < L.length → lt (at_ L kk) (at_ s i) = true) := Lib.hid fun _ => HLT.out
            clear t1 t1' t2
            have HBX := Lib.hid (HBX1.out nq)
            clear HBX1
            obtain ⟨w5, hw5⟩ : ∃ w5, wr.drewN nq = w5 := ⟨_, rfl⟩
            rw [hw5] at HBX ⊢
            clear hw5
            have hcnt : kk = cD (at_ s i) L := cD_of (by rw [HLN.out]; omega) HI.out (HSTOP.out)
            have hcb := cut_base HBX.out.2.2
            obtain ⟨A2, hcut, hri2, hA2⟩ := cut_from (some ⟨gl, 0, none⟩ : Option Addr) i c kk (by omega) w5 L HLN.out (fun h0 => by
              obtain ⟨g', e', _, _, hc'⟩ := il_row HBX.out.2.2 HLN.out h0
              exact ⟨g', e', hc'⟩) hcb.1 hcb.2
            have HRI2 : Hid (∀ W, Below w5.heap.size w5 W → Ri W A2 (i - kk) (L.drop kk)) := Lib.hid fun W hW => by
              obtain ⟨A3, q1, q2, _⟩ := cut_from (some ⟨gl, 0, none⟩ : Option Addr) i c kk (by omega) W L HLN.out (fun h0 => by
                obtain ⟨g', e', _, hg2, hc'⟩ := il_row HBX.out.2.2 HLN.out h0
                exact ⟨g', e', fun j hj => (hW.cell (p := ⟨g', j, none⟩) hg2).trans (hc' j hj)⟩) hcb.1 hcb.2
              have e := (hcut W).symm.trans (q1 W)
              injection e with e _
              injection e with e _ _
              rw [e]
              exact q2
            have HRI1 : Hid (Ri w5 (some ⟨gl, 0, none⟩ : Option Addr) kk (L.take kk)) := Lib.hid (Ri.take (by omega) HLN.out fun h0 => by
              obtain ⟨g', e', _, _, hc'⟩ := il_row HBX.out.2.2 HLN.out h0
              exact ⟨g', e', hc'⟩)
            have HAI : Hid ((some ⟨gl, 0, none⟩ : Option Addr) = none → c = 0 ∧ kk = 0) := Lib.hid fun hB => ⟨hcb.2 hB, by have := hcb.2 hB; have := hcb.1; omega⟩
            have HA2 := Lib.hid hA2
            have HCNT := Lib.hid hcnt
            obtain ⟨N5, hN5⟩ : ∃ N5, w5.heap.size = N5 := ⟨_, rfl⟩
            have HN5 := Lib.hid hN5
            have HPI : Hid ((at_ s i).p = i) := Lib.hid (HPL.out i (by rw [HL.out]; exact hlt))
            have HB5 : Hid (Below N5 w5 w5) := Lib.hid (Below.refl _ _)
            have dk : decide (kk ≤ c) = true := by simp; omega
            have dk2 : decide ((kk : Int) ≤ (c : Int)) = true := by simp; omega
            have hkc : kk ≤ c := by omega
            clear hcnt hcb hA2 hri2
            go_wp2_with (first
              | (at_builtin; refine app_ints rfl _ _ rfl N5 none (some ⟨gl, 0, none⟩ : Option Addr) 0 0 kk c kk (Nat.zero_add _) [] (L.take kk) rfl (World.ownsRow_nil _ _ _ _) rfl HRI1.out HAI.out (by omega) (by omega) ?_; intro A1 cap1 w6 hown6 hgr6 hl6; have hb6 := grow_below HB5.out (by omega) hgr6 (fun g hg => by simp [Value.ownBlock] at hg); have HB6 := Lib.hid hb6; have HO6 := Lib.hid hown6; obtain ⟨n6, hn6⟩ : ∃ n6, w6.heap.size = n6 := ⟨_, rfl⟩; clear hb6 hown6 hgr6 hl6)
              | (at_builtin; refine app_ints rfl _ _ rfl N5 A1 (some ⟨n6, 0, none⟩) kk cap1 1 1 (kk + 1) rfl ([] ++ L.take kk) [at_ s i] rfl (HO6.out.alloc _) rfl (ri_one w6 n6 hn6 _ i HPI.out) (fun h => by cases h) (by omega) (by rw [World.size_alloc]; have := HB6.out.2; omega) ?_; intro A7 cap7 w7 hown7 hgr7 hl7; have hb7 := grow_below (HB6.out.1.alloc HB6.out.2 _) (by rw [World.size_alloc]; have := HB6.out.2; omega) hgr7 (fun g hg => (HO6.out.lt g hg).1); have HB7 := Lib.hid hb7; have HO7 := Lib.hid hown7; clear hb7 hown7 hgr7 hl7 hn6)
              | (at_builtin; refine app_ints rfl _ _ rfl N5 A7 A2 (kk + 1) cap7 (i - kk) (c - kk) (i + 1) (by omega) (([] ++ L.take kk) ++ [at_ s i]) (L.drop kk) rfl HO7.out rfl (HRI2.out _ (HN5.out ▸ HB7.out.1)) HA2.out (by omega) HB7.out.2 ?_; intro A8 cap8 w8 hown8 hgr8 hl8; have hb8 := grow_below HB7.out.1 HB7.out.2 hgr8 (fun g hg => (HO7.out.lt g hg).1); have HB8 := Lib.hid hb8; have HO8 := Lib.hid hown8; clear hb8 hown8 hgr8 hl8))
            have hN1 : n0 + 1 ≤ N5 := by have := HBX.out.2.1; have := HN5.out; omega
            have hBo : Below (n0 + 1) W1 w8 := HBX.out.1.trans (HB8.out.1.mono hN1)
            have hOw : w8.ownsRow (n0 + 1) 3 1 (.slice A8 (i + 1) cap8) (i + 1) (il (insD (at_ s i) L)) := by
              have h8 := HO8.out
              rw [show (([] ++ L.take kk) ++ [at_ s i]) ++ L.drop kk = insD (at_ s i) L by unfold insD; rw [← HCNT.out]; simp] at h8
              exact ⟨h8.1, by
                  rcases h8.2 with ⟨e1, e2⟩ | ⟨g1, c1, cur1, e1, e2, e3⟩
                  · exact .inl ⟨e1, e2⟩
                  · exact .inr ⟨g1, c1, cur1, e1, by omega, e3⟩⟩
            have hLw : (insD (at_ s i) L).Perm (s.take (i + 1)) ∧ De (insD (at_ s i) L) := ⟨take_more (by rw [HL.out]; exact hlt) HLW.out.1, insD_de HLW.out.2 fun t ht => by have := (HBE.out t ht).2; have := HPI.out; omega⟩
            have HBo := Lib.hid (show Below (n0 + 1) W1 w8 ∧ n0 + 1 ≤ w8.heap.size from ⟨hBo, by have := HB8.out.2; omega⟩)
            have HOw := Lib.hid hOw
            have HLw := Lib.hid hLw
            clear hN1 hBo hOw hLw hcut
            go_roundw
            case rel => exact ⟨A8, i + 1, cap8, insD (at_ s i) L, rfl, by simp, by omega, HBo, HOw, HLw⟩
            case measure => simp [intOf]; omega
        · have HKI : Hid (kk = i) := Lib.hid (by omega)
          have t1 : decide ((kk : Int) < (i : Int)) = false := by simp; omega
          have t1' : decide (kk < i) = false := by simp; omega
          have HSTOP : Hid (kk < L.length → lt (at_ L kk) (at_ s i) = true) := Lib.hid fun h0 => by have := HLN.out; have := HKI.out; omega
          clear hkl hq
          go_wp2_with fail
          go_quiet (fail)
          clear y2 s1 s2 t1 t1'
          have HBX := Lib.hid (HBX1.out nq)
          clear HBX1
          obtain ⟨w5, hw5⟩ : ∃ w5, wr.drewN nq = w5 := ⟨_, rfl⟩
          rw [hw5] at HBX ⊢
          clear hw5
          have hcnt : kk = cD (at_ s i) L := cD_of (by rw [HLN.out]; omega) HI.out (HSTOP.out)
          have hcb := cut_base HBX.out.2.2
          obtain ⟨A2, hcut, hri2, hA2⟩ := cut_from B i c kk (by omega) w5 L HLN.out (fun h0 => by
            obtain ⟨g', e', _, _, hc'⟩ := il_row HBX.out.2.2 HLN.out h0
            exact ⟨g', e', hc'⟩) hcb.1 hcb.2
          have HRI2 : Hid (∀ W, Below w5.heap.size w5 W → Ri W A2 (i - kk) (L.drop kk)) := Lib.hid fun W hW => by
            obtain ⟨A3, q1, q2, _⟩ := cut_from B i c kk (by omega) W L HLN.out (fun h0 => by
              obtain ⟨g', e', _, hg2, hc'⟩ := il_row HBX.out.2.2 HLN.out h0
              exact ⟨g', e', fun j hj => (hW.cell (p := ⟨g', j, none⟩) hg2).trans (hc' j hj)⟩) hcb.1 hcb.2
            have e := (hcut W).symm.trans (q1 W)
            injection e with e _
            injection e with e _ _
            rw [e]
            exact q2
          have HRI1 : Hid (Ri w5 B kk (L.take kk)) := Lib.hid (Ri.take (by omega) HLN.out fun h0 => by
            obtain ⟨g', e', _, _, hc'⟩ := il_row HBX.out.2.2 HLN.out h0
            exact ⟨g', e', hc'⟩)
          have HAI : Hid (B = none → c = 0 ∧ kk = 0) := Lib.hid fun hB => ⟨hcb.2 hB, by have := hcb.2 hB; have := hcb.1; omega⟩
          have HA2 := Lib.hid hA2
          have HCNT := Lib.hid hcnt
          obtain ⟨N5, hN5⟩ : ∃ N5, w5.heap.size = N5 := ⟨_, rfl⟩
          have HN5 := Lib.hid hN5
          have HPI : Hid ((at_ s i).p = i) := Lib.hid (HPL.out i (by rw [HL.out]; exact hlt))
          have HB5 : Hid (Below N5 w5 w5) := Lib.hid (Below.refl _ _)
          have dk : decide (kk ≤ c) = true := by simp; omega
          have dk2 : decide ((kk : Int) ≤ (c : Int)) = true := by simp; omega
          have hkc : kk ≤ c := by omega
          clear hcnt hcb hA2 hri2
          go_wp2_with (first
            | (at_builtin; refine app_ints rfl _ _ rfl N5 none B 0 0 kk c kk (Nat.zero_add _) [] (L.take kk) rfl (World.ownsRow_nil _ _ _ _) rfl HRI1.out HAI.out (by omega) (by omega) ?_; intro A1 cap1 w6 hown6 hgr6 hl6; have hb6 := grow_below HB5.out (by omega) hgr6 (fun g hg => by simp [Value.ownBlock] at hg); have HB6 := Lib.hid hb6; have HO6 := Lib.hid hown6; obtain ⟨n6, hn6⟩ : ∃ n6, w6.heap.size = n6 := ⟨_, rfl⟩; clear hb6 hown6 hgr6 hl6)
            | (at_builtin; refine app_ints rfl _ _ rfl N5 A1 (some ⟨n6, 0, none⟩) kk cap1 1 1 (kk + 1) rfl ([] ++ L.take kk) [at_ s i] rfl (HO6.out.alloc _) rfl (ri_one w6 n6 hn6 _ i HPI.out) (fun h => by cases h) (by omega) (by rw [World.size_alloc]; have := HB6.out.2; omega) ?_; intro A7 cap7 w7 hown7 hgr7 hl7; have hb7 := grow_below (HB6.out.1.alloc HB6.out.2 _) (by rw [World.size_alloc]; have := HB6.out.2; omega) hgr7 (fun g hg => (HO6.out.lt g hg).1); have HB7 := Lib.hid hb7; have HO7 := Lib.hid hown7; clear hb7 hown7 hgr7 hl7 hn6)
            | (at_builtin; refine app_ints rfl _ _ rfl N5 A7 A2 (kk + 1) cap7 (i - kk) (c - kk) (i + 1) (by omega) (([] ++ L.take kk) ++ [at_ s i]) (L.drop kk) rfl HO7.out rfl (HRI2.out _ (HN5.out ▸ HB7.out.1)) HA2.out (by omega) HB7.out.2 ?_; intro A8 cap8 w8 hown8 hgr8 hl8; have hb8 := grow_below HB7.out.1 HB7.out.2 hgr8 (fun g hg => (HO7.out.lt g hg).1); have HB8 := Lib.hid hb8; have HO8 := Lib.hid hown8; clear hb8 hown8 hgr8 hl8))
          have hN1 : n0 + 1 ≤ N5 := by have := HBX.out.2.1; have := HN5.out; omega
          have hBo : Below (n0 + 1) W1 w8 := HBX.out.1.trans (HB8.out.1.mono hN1)
          have hOw : w8.ownsRow (n0 + 1) 3 1 (.slice A8 (i + 1) cap8) (i + 1) (il (insD (at_ s i) L)) := by
            have h8 := HO8.out
            rw [show (([] ++ L.take kk) ++ [at_ s i]) ++ L.drop kk = insD (at_ s i) L by unfold insD; rw [← HCNT.out]; simp] at h8
            exact ⟨h8.1, by
                  rcases h8.2 with ⟨e1, e2⟩ | ⟨g1, c1, cur1, e1, e2, e3⟩
                  · exact .inl ⟨e1, e2⟩
                  · exact .inr ⟨g1, c1, cur1, e1, by omega, e3⟩⟩
          have hLw : (insD (at_ s i) L).Perm (s.take (i + 1)) ∧ De (insD (at_ s i) L) := ⟨take_more (by rw [HL.out]; exact hlt) HLW.out.1, insD_de HLW.out.2 fun t ht => by have := (HBE.out t ht).2; have := HPI.out; omega⟩
          have HBo := Lib.hid (show Below (n0 + 1) W1 w8 ∧ n0 + 1 ≤ w8.heap.size from ⟨hBo, by have := HB8.out.2; omega⟩)
          have HOw := Lib.hid hOw
          have HLw := Lib.hid hLw
          clear hN1 hBo hOw hLw hcut
          go_roundw
          case rel => exact ⟨A8, i + 1, cap8, insD (at_ s i) L, rfl, by simp, by omega, HBo, HOw, HLw⟩
          case measure => simp [intOf]; omega
    · obtain rfl : n = i := by omega
      have dl : decide ((n : Int) < (n : Int)) = false := by simp
      have dl' : decide (n < n) = false := by simp
      have hlen : L.length = n := by
        have := HLW.out.1.length_eq
        rw [List.length_take, HL.out] at this
        omega
      have hend : Below n0 w wr ∧ L.Perm s ∧ De L ∧ Od w wr B n L := ⟨HB.out.trans (HBW.out.1.mono (by omega)), by
        have := HLW.out.1
        rwa [List.take_of_length_le (by rw [HL.out]; omega)] at this, HLW.out.2, fun h0 => by
        obtain ⟨g', e', h1, h2, hc'⟩ := il_row HOW.out hlen h0
        exact ⟨g', e', by have := HN0.out; omega, h2, hc'⟩⟩
      have HE := Lib.hid hend
      clear hend hlen
      go_wp2_with fail
      go_ret
      exact ⟨B, c, L, rfl, HE⟩
end Go.Proofs.Ytmjbdjcpjaeemaa
