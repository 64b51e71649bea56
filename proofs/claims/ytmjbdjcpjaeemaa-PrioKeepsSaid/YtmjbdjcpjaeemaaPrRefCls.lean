/-
  The document's own Close of layer 11.
-/
import Derived.Test.YtmjbdjcpjaeemaaPrRefOrd
import Derived.Test.YtmjbdjcpjaeemaaPrRefClsM
import Derived.Test.YtmjbdjcpjaeemaaPrRefCts
namespace Go.Proofs.Ytmjbdjcpjaeemaa
open Go.RowKit Go.Proofs.PrioMath

theorem kd_row {W : World} {base n c : Nat} {C : Option Addr} {L : List Of} (h : W.ownsRow base 38 3 (.slice C n c) n (cl L)) (hl : L.length = n) : Kd W C n L := by
  refine ⟨hl, fun h0 => ?_⟩
  obtain ⟨g, cap', e, hg1, hg2⟩ := h.form h0
  injection e with e1 _ e2
  subst e1 e2
  refine ⟨g, rfl, hg2, fun j hj => ?_⟩
  have z : ∀ k, (⟨g, 0, none⟩ : Addr).add k = ⟨g, k, none⟩ := fun k => by unfold Addr.add; split <;> simp_all
  obtain ⟨c1, c2, c3⟩ := cl_at (l := L) (i := j) (by omega)
  have r1 := h.cells (g := g) rfl _ _ c1
  have r2 := h.cells (g := g) rfl _ _ c2
  have r3 := h.cells (g := g) rfl _ _ c3
  rw [z] at r1 r2 r3
  exact ⟨r1, r2, r3⟩
theorem cell_lt {W : World} {q : Addr} {v : Value} (h : W.cell? q = some v) : q.block < W.heap.size := by
  by_cases hl : q.block < W.heap.size
  · exact hl
  · unfold World.cell? at h
    simp [Array.getElem?_eq_none (Nat.le_of_not_lt hl)] at h
theorem rk_one (w : World) (n : Nat) (hn : w.heap.size = n) (p a b : Nat) : Rk (w.alloc (.cells #[.int .i64 (p : Int), .int .u64 (a : Int), .int .u64 (b : Int)] 38)) (some ⟨n, 0, none⟩) 1 [⟨p, a, b⟩] := by
  subst hn
  refine ⟨rfl, fun _ => ⟨_, 0, rfl, fun j hj => ?_⟩⟩
  obtain rfl : j = 0 := by omega
  have hb := blk_new w #[.int .i64 (p : Int), .int .u64 (a : Int), .int .u64 (b : Int)] 38
  exact ⟨hb.cell 0 rfl, hb.cell 1 rfl, hb.cell 2 rfl⟩

set_option linter.unusedSimpArgs false in
set_option maxRecDepth 100000 in
set_option maxHeartbeats 4000000 in
theorem refClose_any {A : Option Addr} {n cap k m : Nat} {s : List Of} {bs : List Nat} (w : World) (h : Dc w A n cap s bs) (hf : ∀ t ∈ s, Fit t ∧ t.d < dr m) (hP : Pl s) (hk : 1 ≤ k ∧ k ≤ 1000) (hm : m < 18446744073709551616) :
    Calls Try.prog 13 #[.agg #[.int .i64 (k : Int), .int .u64 (m : Int), .slice A n cap]] w fun e w' => ∃ B c, e = .returned (.tuple #[.agg #[.int .i64 (k : Int), .int .u64 (m : Int), .slice none 0 0], .slice B (closeL k m s).length c]) ∧ Hid (Below w.heap.size w w' ∧ Kd w' B (closeL k m s).length (closeL k m s) ∧ ∀ g, B = some ⟨g, 0, none⟩ → w.heap.size ≤ g) := by
  obtain ⟨n0, hn0⟩ : ∃ n0, w.heap.size = n0 := ⟨_, rfl⟩
  have hl := h.len
  have h5 := h.five
  have hB : Below n0 w ((w.alloc (.cells #[.int .i64 (k : Int), .int .u64 (m : Int), .slice A n cap] 42)).alloc (.cells #[.int .i64 0, .int .u64 0, .slice none 0 0] 42)) := by
    rw [← hn0]
    exact (box_below _).alloc (by simp) _
  have hk0 := blk_new w #[.int .i64 (k : Int), .int .u64 (m : Int), .slice A n cap] 42
  have hk1 := blk_new (w.alloc (.cells #[.int .i64 (k : Int), .int .u64 (m : Int), .slice A n cap] 42)) #[.int .i64 0, .int .u64 0, .slice none 0 0] 42
  simp only [World.size_alloc, hn0] at hk0 hk1
  have hk0' := hk0.later (box_below (.cells #[.int .i64 0, .int .u64 0, .slice none 0 0] 42))
  obtain ⟨W2, hW2⟩ : ∃ W2, ((w.alloc (.cells #[.int .i64 (k : Int), .int .u64 (m : Int), .slice A n cap] 42)).alloc (.cells #[.int .i64 0, .int .u64 0, .slice none 0 0] 42)) = W2 := ⟨_, rfl⟩
  have hs2 : W2.heap.size = n0 + 2 := by rw [← hW2]; simp [hn0]
  rw [hW2] at hB hk0' hk1
  have hD2 := h.later (hn0 ▸ hB)
  have HK0 := Lib.hid hk0'
  have HK1 := Lib.hid hk1
  have HB := Lib.hid hB
  have HN0 := Lib.hid hn0
  have HL := Lib.hid hl
  have HD := Lib.hid hD2
  have HF := Lib.hid hf
  have HPL := Lib.hid hP
  have HS2 := Lib.hid hs2
  have HORD := Lib.hid (refOrder_any (k := k) (m := m) W2 hD2 (fun t ht => (hf t ht).1) hP)
  have y0 := hk0'.cell 0 rfl
  have y1 := hk0'.cell 1 rfl
  have y2 := hk0'.cell 2 rfl
  clear h hl hB hk0 hk0' hk1 hs2 hf hP hD2
  rw [hn0]
  go_enter Try.func13, Try.ntmps13
  go_wp2_with fail
  refine HORD.out.mono ?_
  rintro e W3 ⟨B, c, L, rfl, HO⟩
  obtain ⟨N3, hN3⟩ : ∃ N3, W3.heap.size = N3 := ⟨_, rfl⟩
  have hb23 : Below (n0 + 2) W2 W3 := HS2.out ▸ HO.out.1
  have hN32 : n0 + 2 ≤ N3 := by have := hb23.size; have := HS2.out; omega
  have HLP := Lib.hid (show L.Perm s ∧ De L from ⟨HO.out.2.1, HO.out.2.2.1⟩)
  have HLN : Hid (L.length = n) := Lib.hid (by have := HLP.out.1.length_eq; have := HL.out; omega)
  have HW3 : Hid (Below n0 w W3) := Lib.hid (HB.out.trans (hb23.mono (by omega)))
  have HKF : Hid (∀ W, Below N3 W3 W → W.cell? ⟨n0, 0, none⟩ = some (.int .i64 (k : Int)) ∧ W.cell? ⟨n0, 1, none⟩ = some (.int .u64 (m : Int)) ∧ W.cell? ⟨n0, 2, none⟩ = some (.slice A n cap) ∧ Blk W (n0 + 1) #[.int .i64 0, .int .u64 0, .slice none 0 0] 42) := Lib.hid fun W hW => by
    have q := (HK0.out.same (hb23.block _ (by omega))).same (hW.block n0 (by omega))
    exact ⟨q.cell 0 rfl, q.cell 1 rfl, q.cell 2 rfl, (HK1.out.same (hb23.block _ (by omega))).same (hW.block (n0 + 1) (by omega))⟩
  have HSF : Hid (∀ W, Below N3 W3 W → ∀ j, j < n → ∃ g, A = some ⟨g, 0, none⟩ ∧ W.cell? ⟨g, j * 2, none⟩ = some (.int .u64 ((at_ s j).w : Int)) ∧ W.cell? ⟨g, j * 2 + 1, none⟩ = some (.int .u64 ((at_ s j).d : Int))) := Lib.hid fun W hW j hj => by
    obtain ⟨g, e, hg, _, hc⟩ := (HD.out.later HO.out.1).cells (by omega)
    rw [hN3] at hg
    exact ⟨g, e, (hW.cell (p := ⟨g, j * 2, none⟩) hg).trans (hc j hj).1, (hW.cell (p := ⟨g, j * 2 + 1, none⟩) hg).trans (hc j hj).2⟩
  have HLF : Hid (∀ W, Below N3 W3 W → ∀ j, j < n → ∃ g, B = some ⟨g, 0, none⟩ ∧ W.cell? ⟨g, j, none⟩ = some (.int .i64 ((at_ L j).p : Int))) := Lib.hid fun W hW j hj => by
    obtain ⟨g, e, _, hg, hc⟩ := HO.out.2.2.2 (by omega)
    rw [hN3] at hg
    exact ⟨g, e, (hW.cell (p := ⟨g, j, none⟩) hg).trans (hc j hj)⟩
  have HB0 : Hid (Below N3 W3 W3 ∧ N3 ≤ W3.heap.size) := Lib.hid ⟨Below.refl _ _, by omega⟩
  have HR0 : Hid (W3.ownsRow N3 38 3 (.slice none 0 0) 0 (cl (outD k m s 0)) ∧ (outD k m s 0).length = 0) := Lib.hid ⟨by rw [outD_zero]; exact World.ownsRow_nil _ _ _ _, by rw [outD_zero]; rfl⟩
  clear hb23 y0 y1 y2
  obtain ⟨z0, z1, z2, _⟩ := HKF.out _ HB0.out.1
  go_wp2_with fail
  go_loopw [4, 6] (fun ov iv wr => ∃ (C : Option Addr) (i q c2 : Nat), ov = .slice C q c2 ∧ iv = .int .i64 (i : Int) ∧ i ≤ n ∧ q ≤ i ∧ Hid (Below N3 W3 wr ∧ N3 ≤ wr.heap.size) ∧ Hid (wr.ownsRow N3 38 3 (.slice C q c2) q (cl (outD k m s i)) ∧ (outD k m s i).length = q)) (fun _ iv _ => n - (intOf iv).toNat)
  case atStart => exact ⟨none, 0, 0, 0, rfl, rfl, by omega, by omega, HB0, HR0⟩
  case round =>
    obtain ⟨C, i, q, c2, rfl, rfl, hi, hqi, HBW, HOW⟩ := hrel
    clear z0 z1 z2
    obtain ⟨z0, z1, z2, _⟩ := HKF.out _ HBW.out.1
    by_cases hlt : i < n
    · have dl : decide ((i : Int) < (n : Int)) = true := by simp; omega
      have dl' : decide (i < n) = true := by simp; omega
      obtain ⟨Wo, rfl⟩ : ∃ Wo, Wo = wr := ⟨_, rfl⟩
      have hil : i < s.length := by rw [HL.out]; exact hlt
      obtain ⟨J, hJ, hJe⟩ := mem_at (HLP.out.1.mem_iff.2 (at_mem hil))
      have hrk : rank s (at_ s i) = J := by rw [← hJe]; exact de_rank HLP.out.1 HLP.out.2 hJ
      have hJn : J < n := by rw [HLN.out] at hJ; exact hJ
      have hne : ∀ kk, kk < J → (at_ L kk).p ≠ i := fun kk hkk he => by
        have hm1 : at_ L kk ∈ s := HLP.out.1.mem_iff.1 (at_mem (by omega))
        have h1 := (HPL.out.mem hm1).2
        rw [he] at h1
        have h2 := de_rank HLP.out.1 HLP.out.2 (show kk < L.length by omega)
        rw [← h1] at h2
        omega
      have hpJ : (at_ L J).p = i := by rw [hJe]; exact HPL.out i hil
      have HRK := Lib.hid hrk
      have HNE := Lib.hid hne
      have HPJ := Lib.hid hpJ
      clear hil hJ hJe hrk hne hpJ
      go_wp2_with fail
      go_loopw [7] (fun kv wr => ∃ kk : Nat, kv = .int .i64 (kk : Int) ∧ kk ≤ J ∧ Wo = wr) (fun kv _ => J - (intOf kv).toNat)
      case atStart => exact ⟨0, rfl, by omega, rfl⟩
      case round =>
        obtain ⟨kk, rfl, hkk, rfl⟩ := hrel
        obtain ⟨gl, rfl, l1⟩ := HLF.out _ HBW.out.1 kk (by omega)
        obtain ⟨p, hp⟩ : ∃ p, (at_ L kk).p = p := ⟨_, rfl⟩
        rw [hp] at l1
        by_cases hkJ : kk < J
        · have hpi := HNE.out kk hkJ
          rw [hp] at hpi
          have t1 : ((p : Int) == (i : Int)) = false := by simp; omega
          have t1' : decide (p = i) = false := by simp; omega
          have hkn : kk < n := by omega
          clear hp
          go_wp2_with fail
          go_roundw
          case rel => exact ⟨kk + 1, by simp, by omega, by first | rfl | trivial⟩
          case measure => simp [intOf]; omega
        · obtain rfl : J = kk := by omega
          obtain rfl : i = p := by rw [← hp]; exact HPJ.out.symm
          have t1 : ((i : Int) == (i : Int)) = true := by simp
          clear hp hkJ hkk
          by_cases hkk : k ≤ J
          · have t2 : decide ((k : Int) ≤ (J : Int)) = true := by simp; omega
            have t2' : decide (k ≤ J) = true := by simp; omega
            have hst : outD k m s (i + 1) = outD k m s i := by
              rw [outD_step k m (by rw [HL.out]; exact hlt), if_neg (by rw [HRK.out]; omega)]
            have HOW2 := Lib.hid (show Wo.ownsRow N3 38 3 (.slice C q c2) q (cl (outD k m s (i + 1))) ∧ (outD k m s (i + 1)).length = q from by rw [hst]; exact HOW.out)
            clear hst
            go_wp2_with fail
            go_roundw
            case rel => exact ⟨C, i + 1, q, c2, rfl, by simp, by omega, by omega, HBW, HOW2⟩
            case measure => simp [intOf]; omega
          · have t2 : decide ((k : Int) ≤ (J : Int)) = false := by simp; omega
            have t2' : decide (k ≤ J) = false := by simp; omega
            obtain ⟨g, rfl, s1, s2⟩ := HSF.out _ HBW.out.1 i hlt
            obtain ⟨a, ha⟩ : ∃ a, (at_ s i).w = a := ⟨_, rfl⟩
            rw [ha] at s1
            obtain ⟨N4, hN4⟩ : ∃ N4, Wo.heap.size = N4 := ⟨_, rfl⟩
            obtain ⟨W4, hW4⟩ : ∃ W4, Wo.alloc (.cells #[.int .i64 (i : Int), .int .u64 (a : Int), .int .u64 1] 38) = W4 := ⟨_, rfl⟩
            have hb4 : Below N4 Wo W4 := by rw [← hW4, ← hN4]; exact box_below _
            have hs4 : W4.heap.size = N4 + 1 := by rw [← hW4, ← hN4]; simp
            have hk4 : Blk W4 N4 #[.int .i64 (i : Int), .int .u64 (a : Int), .int .u64 1] 38 := by rw [← hW4, ← hN4]; exact blk_new _ _ _
            have hN34 : N3 ≤ N4 := by have := HBW.out.2; omega
            have hB4 : Below N3 W3 W4 := HBW.out.1.trans (hb4.mono hN34)
            have hO4 : W4.ownsRow N3 38 3 (.slice C q c2) q (cl (outD k m s i)) := row_same HOW.out.1 fun g hg => hb4.block g (by have := (HOW.out.1.lt g hg).2; omega)
            have x1 := hk4.cell 0 rfl
            have x2 := hk4.cell 1 rfl
            have x3 := hk4.cell 2 rfl
            obtain ⟨v0, v1, v2, _⟩ := HKF.out _ hB4
            obtain ⟨_, hgg, v3, _⟩ := HSF.out _ hB4 i hlt
            obtain rfl : g = _ := by injection hgg with hgg; injection hgg
            rw [ha] at v3
            have HB4 := Lib.hid hB4
            have HK4 := Lib.hid hk4
            have HO4 := Lib.hid hO4
            have HS4 := Lib.hid hs4
            have HA := Lib.hid ha
            clear hb4 hs4 hk4 hB4 hO4 ha hgg
            have HBV4 : Hid (Below N3 W3 W4 ∧ N3 ≤ W4.heap.size) := Lib.hid ⟨HB4.out, by have := HS4.out; omega⟩
            have HBV4 : Hid (Below N3 W3 W4 ∧ N3 ≤ W4.heap.size) := Lib.hid ⟨HB4.out, by have := HS4.out; omega⟩
            have HBV4 : Hid (Below N3 W3 W4 ∧ N3 ≤ W4.heap.size) := Lib.hid ⟨HB4.out, by have := HS4.out; omega⟩
            have HBV4 : Hid (Below N3 W3 W4 ∧ N3 ≤ W4.heap.size) := Lib.hid ⟨HB4.out, by have := HS4.out; omega⟩
            have HBV4 : Hid (Below N3 W3 W4 ∧ N3 ≤ W4.heap.size) := Lib.hid ⟨HB4.out, by have := HS4.out; omega⟩
            have HBV4 : Hid (Below N3 W3 W4 ∧ N3 ≤ W4.heap.size) := Lib.hid ⟨HB4.out, by have := HS4.out; omega⟩
            by_cases hkn : k < n
            · have t3 : decide ((k : Int) < (n : Int)) = true := by simp; omega
              have t3' : decide (k < n) = true := by simp; omega
              have hkL : k < L.length := by rw [HLN.out]; exact hkn
              obtain ⟨o, ho⟩ : ∃ o, at_ L k = o := ⟨_, rfl⟩
              have hos : o ∈ s := HLP.out.1.mem_iff.1 (ho ▸ at_mem hkL)
              obtain ⟨hop, hoe⟩ := HPL.out.mem hos
              obtain ⟨hof, hod⟩ := HF.out o hos
              have hnx : nx k s = o := by rw [← ho]; exact nx_at HLP.out.1 HLP.out.2 hkL
              have hil : i < s.length := by rw [HL.out]; exact hlt
              have haf : a < 18446744073709551616 := by rw [← HA.out]; exact (HF.out _ (at_mem hil)).1.1
              have hCT := fun W => refCounts_any a m o W haf hm hof hod
              obtain ⟨X, hX⟩ : ∃ X, (cnts a o m).1 = X := ⟨_, rfl⟩
              obtain ⟨Y, hY⟩ : ∃ Y, (cnts a o m).2 = Y := ⟨_, rfl⟩
              rw [hX, hY] at hCT
              have HST : Hid (outD k m s (i + 1) = outD k m s i ++ [⟨i, X, Y⟩]) := Lib.hid (by
                rw [outD_step k m hil, if_pos (by rw [HRK.out]; omega), hnx, HPL.out i hil, HA.out, hX, hY])
              obtain ⟨_, hgl, l2⟩ := HLF.out _ HB4.out k hkn
              obtain rfl : gl = _ := by injection hgl with hgl; injection hgl
              obtain ⟨p, y, e⟩ := o
              rw [ho] at l2
              simp only at l2 hop hoe hCT
              rw [HL.out] at hop
              obtain ⟨_, hgg, d1, d2⟩ := HSF.out _ HB4.out p hop
              obtain rfl : g = _ := by injection hgg with hgg; injection hgg
              rw [hoe] at d1 d2
              simp only at d1 d2
              have t5 : decide ((p : Int) < (n : Int)) = true := by simp; omega
              have t6 : decide ((k : Int) < (n : Int)) = true := by simp; omega
              have HCT := Lib.hid hCT
              have HN4 := Lib.hid hN4
              clear hCT hX hY ho hos hoe hof hod hnx hil haf hgl hgg
              have hS4 : W4.cell? ⟨n0, 0, none⟩ = some (.int .i64 (k : Int)) ∧ W4.cell? ⟨n0, 1, none⟩ = some (.int .u64 (m : Int)) ∧ W4.cell? ⟨n0, 2, none⟩ = some (.slice (some ⟨g, 0, none⟩) n cap) ∧ W4.cell? ⟨g, i * 2, none⟩ = some (.int .u64 (a : Int)) ∧ W4.cell? ⟨gl, k, none⟩ = some (.int .i64 (p : Int)) ∧ W4.cell? ⟨g, p * 2, none⟩ = some (.int .u64 (y : Int)) ∧ W4.cell? ⟨g, p * 2 + 1, none⟩ = some (.int .u64 (e : Int)) := ⟨v0, v1, v2, v3, l2, d1, d2⟩
              have HSK : Hid (∀ W, Below W4.heap.size W4 W → W.cell? ⟨n0, 0, none⟩ = some (.int .i64 (k : Int)) ∧ W.cell? ⟨n0, 1, none⟩ = some (.int .u64 (m : Int)) ∧ W.cell? ⟨n0, 2, none⟩ = some (.slice (some ⟨g, 0, none⟩) n cap) ∧ W.cell? ⟨g, i * 2, none⟩ = some (.int .u64 (a : Int)) ∧ W.cell? ⟨gl, k, none⟩ = some (.int .i64 (p : Int)) ∧ W.cell? ⟨g, p * 2, none⟩ = some (.int .u64 (y : Int)) ∧ W.cell? ⟨g, p * 2 + 1, none⟩ = some (.int .u64 (e : Int))) := Lib.hid fun W hW => by
                have hc : ∀ (q : Addr) (v : Value), W4.cell? q = some v → q.block < W4.heap.size → W.cell? q = some v := fun q v h1 h2 => (hW.cell (p := q) h2).trans h1
                have hlt' : ∀ (q : Addr) (v : Value), W4.cell? q = some v → q.block < W4.heap.size := fun q v h1 => cell_lt h1
                exact ⟨hc _ _ hS4.1 (hlt' _ _ hS4.1), hc _ _ hS4.2.1 (hlt' _ _ hS4.2.1), hc _ _ hS4.2.2.1 (hlt' _ _ hS4.2.2.1), hc _ _ hS4.2.2.2.1 (hlt' _ _ hS4.2.2.2.1), hc _ _ hS4.2.2.2.2.1 (hlt' _ _ hS4.2.2.2.2.1), hc _ _ hS4.2.2.2.2.2.1 (hlt' _ _ hS4.2.2.2.2.2.1), hc _ _ hS4.2.2.2.2.2.2 (hlt' _ _ hS4.2.2.2.2.2.2)⟩
              go_wp2_with fail
              clear z0 z1 z2 s1 s2 l1
              refine wp_region_held_drew (S := fun W => W.cell? ⟨n0, 0, none⟩ = some (.int .i64 (k : Int)) ∧ W.cell? ⟨n0, 1, none⟩ = some (.int .u64 (m : Int)) ∧ W.cell? ⟨n0, 2, none⟩ = some (.slice (some ⟨g, 0, none⟩) n cap) ∧ W.cell? ⟨g, i * 2, none⟩ = some (.int .u64 (a : Int)) ∧ W.cell? ⟨gl, k, none⟩ = some (.int .i64 (p : Int)) ∧ W.cell? ⟨g, p * 2, none⟩ = some (.int .u64 (y : Int)) ∧ W.cell? ⟨g, p * 2 + 1, none⟩ = some (.int .u64 (e : Int))) (by kernel_rfl) ?_ (fun hHeld => ?_)
              · exact hS4
              refine wpAnyH_take (i := 0) (v := ?_) rfl (by kernel_rfl) (by kernel_rfl) (by kernel_rfl) (fun _ _ _ h => h) (Or.inl ⟨by rfl, ?_⟩) (by assumption) ?_
              rotate_left
              · intro wq hSw; (try dsimp only at hSw); go_simp; (try with_reducible rfl)
              simp only [Act.put, List.getElem_toArray, List.getElem_cons_succ, List.getElem_cons_zero, List.setIfInBounds_toArray, List.set_cons_zero, List.set_cons_succ]
              refine wpAnyH_take (i := 1) (v := ?_) rfl (by kernel_rfl) (by kernel_rfl) (by kernel_rfl) (fun _ _ _ h => h) (Or.inl ⟨by rfl, ?_⟩) (by assumption) ?_
              rotate_left
              · intro wq hSw; (try dsimp only at hSw); obtain ⟨u0, u1, u2, u3, u4, u5, u6⟩ := hSw; go_simp; (try with_reducible rfl)
              simp only [Act.put, List.getElem_toArray, List.getElem_cons_succ, List.getElem_cons_zero, List.setIfInBounds_toArray, List.set_cons_zero, List.set_cons_succ]
              refine wpAnyH_take (i := 2) (v := ?_) rfl (by kernel_rfl) (by kernel_rfl) (by kernel_rfl) (fun _ _ _ h => h) (Or.inl ⟨by rfl, ?_⟩) (by assumption) ?_
              rotate_left
              · intro wq hSw; (try dsimp only at hSw); go_simp; (try with_reducible rfl)
              simp only [Act.put, List.getElem_toArray, List.getElem_cons_succ, List.getElem_cons_zero, List.setIfInBounds_toArray, List.set_cons_zero, List.set_cons_succ]
              refine wpAnyH_take (i := 3) (v := ?_) rfl (by kernel_rfl) (by kernel_rfl) (by kernel_rfl) (fun _ _ _ h => h) (Or.inl ⟨by rfl, ?_⟩) (by assumption) ?_
              rotate_left
              · intro wq hSw; (try dsimp only at hSw); go_simp; (try with_reducible rfl)
              simp only [Act.put, List.getElem_toArray, List.getElem_cons_succ, List.getElem_cons_zero, List.setIfInBounds_toArray, List.set_cons_zero, List.set_cons_succ]
              refine wpAnyH_take (i := 4) (v := ?_) rfl (by kernel_rfl) (by kernel_rfl) (by kernel_rfl) (fun _ _ _ h => h) (Or.inl ⟨by rfl, ?_⟩) (by assumption) ?_
              rotate_left
              · intro wq hSw; (try dsimp only at hSw); go_simp; (try with_reducible rfl)
              simp only [Act.put, List.getElem_toArray, List.getElem_cons_succ, List.getElem_cons_zero, List.setIfInBounds_toArray, List.set_cons_zero, List.set_cons_succ]
              refine wpAnyH_take (i := 5) (v := ?_) rfl (by kernel_rfl) (by kernel_rfl) (by kernel_rfl) (fun _ _ _ h => h) (Or.inl ⟨by rfl, ?_⟩) (by assumption) ?_
              rotate_left
              · intro wq hSw; (try dsimp only at hSw); obtain ⟨u0, u1, u2, u3, u4, u5, u6⟩ := hSw; go_simp; (try with_reducible rfl)
              simp only [Act.put, List.getElem_toArray, List.getElem_cons_succ, List.getElem_cons_zero, List.setIfInBounds_toArray, List.set_cons_zero, List.set_cons_succ]
              refine wpAnyH_take (i := 6) (v := ?_) rfl (by kernel_rfl) (by kernel_rfl) (by kernel_rfl) (fun _ _ _ h => h) (Or.inl ⟨by rfl, ?_⟩) (by assumption) ?_
              rotate_left
              · intro wq hSw; (try dsimp only at hSw); go_simp; (try with_reducible rfl)
              simp only [Act.put, List.getElem_toArray, List.getElem_cons_succ, List.getElem_cons_zero, List.setIfInBounds_toArray, List.set_cons_zero, List.set_cons_succ]
              refine wpAnyH_take (i := 7) (v := ?_) rfl (by kernel_rfl) (by kernel_rfl) (by kernel_rfl) (fun _ _ _ h => h) (Or.inl ⟨by rfl, ?_⟩) (by assumption) ?_
              rotate_left
              · intro wq hSw; (try dsimp only at hSw); obtain ⟨u0, u1, u2, u3, u4, u5, u6⟩ := hSw; go_simp; (try with_reducible rfl)
              simp only [Act.put, List.getElem_toArray, List.getElem_cons_succ, List.getElem_cons_zero, List.setIfInBounds_toArray, List.set_cons_zero, List.set_cons_succ]
              refine wpAnyH_take (i := 8) (v := ?_) rfl (by kernel_rfl) (by kernel_rfl) (by kernel_rfl) (fun _ _ _ h => h) (Or.inl ⟨by rfl, ?_⟩) (by assumption) ?_
              rotate_left
              · intro wq hSw; (try dsimp only at hSw); go_simp; (try with_reducible rfl)
              simp only [Act.put, List.getElem_toArray, List.getElem_cons_succ, List.getElem_cons_zero, List.setIfInBounds_toArray, List.set_cons_zero, List.set_cons_succ]
              refine wpAnyH_take (i := 9) (v := ?_) rfl (by kernel_rfl) (by kernel_rfl) (by kernel_rfl) (fun _ _ _ h => h) (Or.inl ⟨by rfl, ?_⟩) (by assumption) ?_
              rotate_left
              · intro wq hSw; (try dsimp only at hSw); go_simp; (try with_reducible rfl)
              simp only [Act.put, List.getElem_toArray, List.getElem_cons_succ, List.getElem_cons_zero, List.setIfInBounds_toArray, List.set_cons_zero, List.set_cons_succ]
              refine wpAnyH_take (i := 10) (v := ?_) rfl (by kernel_rfl) (by kernel_rfl) (by kernel_rfl) (fun _ _ _ h => h) (Or.inl ⟨by rfl, ?_⟩) (by assumption) ?_
              rotate_left
              · intro wq hSw; (try dsimp only at hSw); obtain ⟨u0, u1, u2, u3, u4, u5, u6⟩ := hSw; go_simp; (try with_reducible rfl)
              simp only [Act.put, List.getElem_toArray, List.getElem_cons_succ, List.getElem_cons_zero, List.setIfInBounds_toArray, List.set_cons_zero, List.set_cons_succ]
              refine wpAnyH_take (i := 11) (v := ?_) rfl (by kernel_rfl) (by kernel_rfl) (by kernel_rfl) (fun _ _ _ h => h) (Or.inl ⟨by rfl, ?_⟩) (by assumption) ?_
              rotate_left
              · intro wq hSw; (try dsimp only at hSw); go_simp; (try with_reducible rfl)
              simp only [Act.put, List.getElem_toArray, List.getElem_cons_succ, List.getElem_cons_zero, List.setIfInBounds_toArray, List.set_cons_zero, List.set_cons_succ]
              refine wpAnyH_take (i := 12) (v := ?_) rfl (by kernel_rfl) (by kernel_rfl) (by kernel_rfl) (fun _ _ _ h => h) (Or.inl ⟨by rfl, ?_⟩) (by assumption) ?_
              rotate_left
              · intro wq hSw; (try dsimp only at hSw); obtain ⟨u0, u1, u2, u3, u4, u5, u6⟩ := hSw; go_simp; (try with_reducible rfl)
              simp only [Act.put, List.getElem_toArray, List.getElem_cons_succ, List.getElem_cons_zero, List.setIfInBounds_toArray, List.set_cons_zero, List.set_cons_succ]
              refine wpAnyH_take (i := 13) (v := ?_) rfl (by kernel_rfl) (by kernel_rfl) (by kernel_rfl) (fun _ _ _ h => h) (Or.inl ⟨by rfl, ?_⟩) (by assumption) ?_
              rotate_left
              · intro wq hSw; (try dsimp only at hSw); go_simp; (try with_reducible rfl)
              simp only [Act.put, List.getElem_toArray, List.getElem_cons_succ, List.getElem_cons_zero, List.setIfInBounds_toArray, List.set_cons_zero, List.set_cons_succ]
              refine wpAnyH_take (i := 14) (v := ?_) rfl (by kernel_rfl) (by kernel_rfl) (by kernel_rfl) (fun _ _ _ h => h) (Or.inl ⟨by rfl, ?_⟩) (by assumption) ?_
              rotate_left
              · intro wq hSw; (try dsimp only at hSw); obtain ⟨u0, u1, u2, u3, u4, u5, u6⟩ := hSw; go_simp; (try with_reducible rfl)
              simp only [Act.put, List.getElem_toArray, List.getElem_cons_succ, List.getElem_cons_zero, List.setIfInBounds_toArray, List.set_cons_zero, List.set_cons_succ]
              refine wpAnyH_take (i := 15) (v := ?_) rfl (by kernel_rfl) (by kernel_rfl) (by kernel_rfl) (fun _ _ _ h => h) (Or.inl ⟨by rfl, ?_⟩) (by assumption) ?_
              rotate_left
              · intro wq hSw; (try dsimp only at hSw); go_simp; (try with_reducible rfl)
              simp only [Act.put, List.getElem_toArray, List.getElem_cons_succ, List.getElem_cons_zero, List.setIfInBounds_toArray, List.set_cons_zero, List.set_cons_succ]
              refine wpAnyH_take (i := 16) (v := ?_) rfl (by kernel_rfl) (by kernel_rfl) (by kernel_rfl) (fun _ _ _ h => h) (Or.inl ⟨by rfl, ?_⟩) (by assumption) ?_
              rotate_left
              · intro wq hSw; (try dsimp only at hSw); obtain ⟨u0, u1, u2, u3, u4, u5, u6⟩ := hSw; go_simp; (try with_reducible rfl)
              simp only [Act.put, List.getElem_toArray, List.getElem_cons_succ, List.getElem_cons_zero, List.setIfInBounds_toArray, List.set_cons_zero, List.set_cons_succ]
              refine wpAnyH_ready (rs := [17]) (by kernel_rfl) (by simp) ?_
              refine AllReadyH.cons rfl (fun K hK => ?_) AllReadyH.nil
              go_simp
              ((with_reducible refine (HCT.out _).mono ?_); rintro e5 w5 ⟨rfl, hb5⟩)
              have hb5 : Below W4.heap.size W4 w5 := ⟨hb5.os, hb5.tape, hb5.output, hb5.size, hb5.block⟩
              have hS5 := HSK.out _ hb5
              have HB5 := Lib.hid hb5
              clear hb5
              (try go_wp2_with fail)
              refine hK.out _ _ ?_ (fun hHeld => ?_)
              · exact hS5
              clear hK K
              try simp only [Act.put, List.getElem_toArray, List.getElem_cons_succ, List.getElem_cons_zero, List.setIfInBounds_toArray, List.set_cons_zero, List.set_cons_succ]
              refine wpAnyH_take (i := 18) (v := ?_) rfl (by kernel_rfl) (by kernel_rfl) (by kernel_rfl) (fun _ _ _ h => h) (Or.inl ⟨by rfl, ?_⟩) (by assumption) ?_
              rotate_left
              · intro wq hSw; (try dsimp only at hSw); go_simp; (try with_reducible rfl)
              simp only [Act.put, List.getElem_toArray, List.getElem_cons_succ, List.getElem_cons_zero, List.setIfInBounds_toArray, List.set_cons_zero, List.set_cons_succ]
              refine wpAnyH_take (i := 19) (v := ?_) rfl (by kernel_rfl) (by kernel_rfl) (by kernel_rfl) (fun _ _ _ h => h) (Or.inl ⟨by rfl, ?_⟩) (by assumption) ?_
              rotate_left
              · intro wq hSw; (try dsimp only at hSw); go_simp; (try with_reducible rfl)
              simp only [Act.put, List.getElem_toArray, List.getElem_cons_succ, List.getElem_cons_zero, List.setIfInBounds_toArray, List.set_cons_zero, List.set_cons_succ]
              refine wpAnyH_take (i := 20) (v := ?_) rfl (by kernel_rfl) (by kernel_rfl) (by kernel_rfl) (fun _ _ _ h => h) (Or.inl ⟨by rfl, ?_⟩) (by assumption) ?_
              rotate_left
              · intro wq hSw; (try dsimp only at hSw); go_simp; (try with_reducible rfl)
              simp only [Act.put, List.getElem_toArray, List.getElem_cons_succ, List.getElem_cons_zero, List.setIfInBounds_toArray, List.set_cons_zero, List.set_cons_succ]
              refine wpAnyH_take (i := 21) (v := ?_) rfl (by kernel_rfl) (by kernel_rfl) (by kernel_rfl) (fun _ _ _ h => h) (Or.inl ⟨by rfl, ?_⟩) (by assumption) ?_
              rotate_left
              · intro wq hSw; (try dsimp only at hSw); go_simp; (try with_reducible rfl)
              simp only [Act.put, List.getElem_toArray, List.getElem_cons_succ, List.getElem_cons_zero, List.setIfInBounds_toArray, List.set_cons_zero, List.set_cons_succ]
              refine wpAnyH_take (i := 22) (v := ?_) rfl (by kernel_rfl) (by kernel_rfl) (by kernel_rfl) (fun _ _ _ h => h) (Or.inl ⟨by rfl, ?_⟩) (by assumption) ?_
              rotate_left
              · intro wq hSw; (try dsimp only at hSw); go_simp; (try with_reducible rfl)
              simp only [Act.put, List.getElem_toArray, List.getElem_cons_succ, List.getElem_cons_zero, List.setIfInBounds_toArray, List.set_cons_zero, List.set_cons_succ]
              refine wpAnyH_done (by kernel_rfl) ?_ _
              clear hHeld
              clear hS5 v0 v1 v2 v3 l2 d1 d2 x1 x2 x3 hS4
              have hb5 : Below (N4 + 1) W4 w5 := HS4.out ▸ HB5.out
              have hk5 : Blk w5 N4 #[.int .i64 (i : Int), .int .u64 (a : Int), .int .u64 1] 38 := HK4.out.same (hb5.block _ (by omega))
              have r0 := hk5.cell 0 rfl
              have r1 := hk5.cell 1 rfl
              have r2 := hk5.cell 2 rfl
              have f1 := hk5.free 1
              have f2 := hk5.free 2
              obtain ⟨V, hV⟩ : ∃ V, (w5.setCell ⟨N4, 1, none⟩ (.int .u64 (X : Int))).setCell ⟨N4, 2, none⟩ (.int .u64 (Y : Int)) = V := ⟨_, rfl⟩
              have hkV : Blk V N4 #[.int .i64 (i : Int), .int .u64 (X : Int), .int .u64 (Y : Int)] 38 := by
                rw [← hV]
                exact (hk5.set 1 (.int .u64 (X : Int))).set 2 (.int .u64 (Y : Int))
              have hbV : Below N3 W3 V := by
                rw [← hV]
                have q := HB4.out.trans (hb5.mono (by omega))
                exact (q.setCell (by simp; omega) _).setCell (by simp; omega) _
              have hOV : V.ownsRow N3 38 3 (.slice C q c2) q (cl (outD k m s i)) := row_same HO4.out fun g1 hg1 => by
                have hlt4 := (HOW.out.1.lt g1 hg1).2
                rw [HN4.out] at hlt4
                rw [← hV, Below.heap_setCell _ _ _ _ (by simp; omega), Below.heap_setCell _ _ _ _ (by simp; omega)]
                exact hb5.block g1 (by omega)
              have hsV : N3 ≤ V.heap.size := by have := hbV.size; have := HBW.out; omega
              have x1 := hkV.cell 0 rfl
              have x2 := hkV.cell 1 rfl
              have x3 := hkV.cell 2 rfl
              have HBV := Lib.hid (show Below N3 W3 V ∧ N3 ≤ V.heap.size from ⟨hbV, hsV⟩)
              have HOV := Lib.hid hOV
              clear hb5 hk5 hkV hbV hOV hsV
              obtain ⟨N5, hN5⟩ : ∃ N5, V.heap.size = N5 := ⟨_, rfl⟩
              have hN35 : N3 ≤ N5 := by have := HBV.out.2; omega
              go_wp2_with (first
                | (at_builtin; refine app_kept rfl _ _ rfl N3 C (some ⟨N5, 0, none⟩) q c2 1 1 (q + 1) rfl (outD k m s i) [⟨i, X, Y⟩] rfl (HOV.out.alloc _) rfl (rk_one V N5 hN5 i X Y) (fun h => by cases h) (by omega) (by rw [World.size_alloc]; omega) ?_; intro A8 cap8 w8 hown8 hgr8 hl8; have hb8 := grow_below (HBV.out.1.alloc (by omega) _) (by rw [World.size_alloc]; omega) hgr8 (fun g hg => (HOV.out.lt g hg).1); have HB8 := Lib.hid hb8; have HO8 := Lib.hid hown8; clear hb8 hown8 hgr8 hl8))
              have hOw : w8.ownsRow N3 38 3 (.slice A8 (q + 1) cap8) (q + 1) (cl (outD k m s (i + 1))) ∧ (outD k m s (i + 1)).length = q + 1 := by
                rw [HST.out]
                exact ⟨HO8.out, by rw [List.length_append, HOW.out.2]; rfl⟩
              have HOw := Lib.hid hOw
              clear hOw hN5 hN35
              go_roundw
              case rel => exact ⟨A8, i + 1, q + 1, cap8, rfl, by simp, by omega, by omega, HB8, HOw⟩
              case measure => simp [intOf]; omega
            · have t3 : decide ((k : Int) < (n : Int)) = false := by simp; omega
              have t3' : decide (k < n) = false := by simp; omega
              have HST : Hid (outD k m s (i + 1) = outD k m s i ++ [⟨i, a, 1⟩]) := Lib.hid (by
                have hil : i < s.length := by rw [HL.out]; exact hlt
                rw [outD_step k m hil, if_pos (by rw [HRK.out]; omega), nx_few HPL.out (by rw [HL.out]; omega), cnts_none, HPL.out i hil, HA.out])
              obtain ⟨N5, hN5⟩ : ∃ N5, W4.heap.size = N5 := ⟨_, rfl⟩
              have hN35 : N3 ≤ N5 := by have := HBV4.out.2; omega
              go_wp2_with (first
                | (at_builtin; refine app_kept rfl _ _ rfl N3 C (some ⟨N5, 0, none⟩) q c2 1 1 (q + 1) rfl (outD k m s i) [⟨i, a, 1⟩] rfl (HO4.out.alloc _) rfl (rk_one W4 N5 hN5 i a 1) (fun h => by cases h) (by omega) (by rw [World.size_alloc]; omega) ?_; intro A8 cap8 w8 hown8 hgr8 hl8; have hb8 := grow_below (HBV4.out.1.alloc (by omega) _) (by rw [World.size_alloc]; omega) hgr8 (fun g hg => (HO4.out.lt g hg).1); have HB8 := Lib.hid hb8; have HO8 := Lib.hid hown8; clear hb8 hown8 hgr8 hl8))
              have hOw : w8.ownsRow N3 38 3 (.slice A8 (q + 1) cap8) (q + 1) (cl (outD k m s (i + 1))) ∧ (outD k m s (i + 1)).length = q + 1 := by
                rw [HST.out]
                exact ⟨HO8.out, by rw [List.length_append, HOW.out.2]; rfl⟩
              have HOw := Lib.hid hOw
              clear hOw hN5 hN35
              go_roundw
              case rel => exact ⟨A8, i + 1, q + 1, cap8, rfl, by simp, by omega, by omega, HB8, HOw⟩
              case measure => simp [intOf]; omega
    · obtain rfl : n = i := by omega
      have dl : decide ((n : Int) < (n : Int)) = false := by simp
      have dl' : decide (n < n) = false := by simp
      have hall : outD k m s n = closeL k m s := outD_all k m s (by rw [HL.out]; omega)
      obtain ⟨_, _, _, hbk⟩ := HKF.out _ HBW.out.1
      have r0 := hbk.cell 0 rfl
      have r1 := hbk.cell 1 rfl
      have r2 := hbk.cell 2 rfl
      have f0 := hbk.free 0
      have f1 := hbk.free 1
      have f2 := hbk.free 2
      obtain ⟨W9, hW9⟩ : ∃ W9, ((wr.setCell ⟨n0 + 1, 0, none⟩ (.int .i64 (k : Int))).setCell ⟨n0 + 1, 1, none⟩ (.int .u64 (m : Int))).setCell ⟨n0 + 1, 2, none⟩ (.slice none 0 0) = W9 := ⟨_, rfl⟩
      have hb9 : Below n0 w W9 := by
        rw [← hW9]
        exact (((HW3.out.trans (HBW.out.1.mono (by omega))).setCell (by simp) _).setCell (by simp) _).setCell (by simp) _
      have hk9 : Blk W9 (n0 + 1) #[.int .i64 (k : Int), .int .u64 (m : Int), .slice none 0 0] 42 := by
        rw [← hW9]
        exact ((hbk.set 0 (.int .i64 (k : Int))).set 1 (.int .u64 (m : Int))).set 2 (.slice none 0 0)
      have hO9 : W9.ownsRow N3 38 3 (.slice C q c2) q (cl (outD k m s n)) := row_same HOW.out.1 fun g hg => by
        have := (HOW.out.1.lt g hg).1
        rw [← hW9, Below.heap_setCell _ _ _ _ (by simp; omega), Below.heap_setCell _ _ _ _ (by simp; omega), Below.heap_setCell _ _ _ _ (by simp; omega)]
      have hlq := HOW.out.2
      rw [hall] at hO9 hlq
      have HB9 := Lib.hid hb9
      have HK9 := Lib.hid hk9
      have HKD := Lib.hid (kd_row hO9 hlq)
      have HLQ := Lib.hid hlq
      have HG : Hid (∀ g, C = some ⟨g, 0, none⟩ → n0 ≤ g) := Lib.hid fun g hg => by have h := (hO9.lt g (by rw [hg]; rfl)).1; omega
      clear hb9 hk9 hO9 hlq hall hbk
      go_wp2_with fail
      have q0 := HK9.out.cell 0 rfl
      have q1 := HK9.out.cell 1 rfl
      have q2 := HK9.out.cell 2 rfl
      refine bodyPost_ret (v := .tuple #[.agg #[.int .i64 (k : Int), .int .u64 (m : Int), .slice none 0 0], .slice C q c2]) (by simp [results, Try.results13, go_sem, q0, q1, q2]) rfl ⟨C, c2, by rw [HLQ.out], Lib.hid ⟨HB9.out, by rw [HLQ.out]; exact HKD.out, HG.out⟩⟩
end Go.Proofs.Ytmjbdjcpjaeemaa
