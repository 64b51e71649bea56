/-
  The document's Decide.
-/
import Derived.Laws.Tables
import Derived.Test.YthpcnnkdpgjiiaaTlRef5
import Derived.Test.YthpcnnkdpgjiiaaTlKnown
namespace Go.Proofs.Ythpcnnkdpgjiiaa
open Go.RowKit Go.Maps Go.Proofs.HeapMath Go.Proofs.TailMath

variable {P : Nat → Prop}

/-- The cells of a decision, as the document keeps it. -/
def kdL (k : Kn) : List Value := [.int .u64 (k.hi : Int), .int .u64 (k.lo : Int), .bool (k.ay == 4)]
def kdC (l : List Kn) : List Value := l.flatMap kdL
theorem kdC_length (l : List Kn) : (kdC l).length = l.length * 3 := by
  induction l with
  | nil => rfl
  | cons k l ih => simp [kdC] at ih ⊢; rw [ih]; simp [kdL]; omega
theorem kdC_at {l : List Kn} : ∀ {i : Nat} (h : i < l.length), (kdC l)[i * 3]? = some (.int .u64 (l[i].hi : Int)) ∧ (kdC l)[i * 3 + 1]? = some (.int .u64 (l[i].lo : Int)) ∧ (kdC l)[i * 3 + 2]? = some (.bool (l[i].ay == 4)) := by
  induction l with
  | nil => intro i h; simp at h
  | cons k l ih =>
    intro i h
    have e : kdC (k :: l) = .int .u64 (k.hi : Int) :: .int .u64 (k.lo : Int) :: .bool (k.ay == 4) :: kdC l := rfl
    match i, h with
    | 0, _ => exact ⟨rfl, rfl, rfl⟩
    | i + 1, h =>
      have := ih (i := i) (by simpa using h)
      rw [e, show (i + 1) * 3 = i * 3 + 1 + 1 + 1 by omega]
      simpa using this
theorem kdL_one (k : Kn) : ∀ u ∈ kdL k, u.oneCell' = true := fun u hu => by
  simp [kdL] at hu
  rcases hu with h | h | h <;> subst h <;> rfl
theorem kns_own {W : World} {base n cap : Nat} {A : Option Addr} {l : List Kn} (h : W.ownsRow base 120 3 (.slice A n cap) n (kdC l)) (hn : l.length = n) : Kns W A l := fun h0 => by
  obtain ⟨g, cap', e, _, hg⟩ := h.form (by omega)
  injection e with e1 _ e2
  subst e1 e2
  refine ⟨g, 0, rfl, hg, fun i hi => ?_⟩
  obtain ⟨a1, a2, a3⟩ := kdC_at hi
  have hc := fun j hj => h.cellAt j hj
  refine ⟨?_, ?_, ?_⟩
  · rw [Nat.zero_add, hc _ (by omega)]; exact a1
  · rw [Nat.zero_add, hc _ (by omega)]; exact a2
  · rw [Nat.zero_add, hc _ (by omega)]; exact a3
theorem info_kd : (Try.prog.info? 120).map (fun i => (i.zero, i.size, i.bytes)) = some (some (.agg #[.int .u64 0, .int .u64 0, .bool false]), 3, 24) := by kernel_rfl
theorem oth_take {hi lo : Nat} {K : List Kn} {i : Nat} (h : i < K.length) : oth hi lo (K.take (i + 1)) = oth hi lo (K.take i) ++ if K[i].hi = hi ∧ K[i].lo = lo then [] else [K[i]] := by
  unfold oth
  rw [List.take_succ_eq_append_getElem h, List.filter_append]
  congr 1
  by_cases e : K[i].hi = hi ∧ K[i].lo = lo
  · rw [if_pos e]; simp [e.1, e.2]
  · rw [if_neg e]
    simp
    by_cases h1 : K[i].hi = hi
    · exact .inr fun h2 => e ⟨h1, h2⟩
    · exact .inl h1
/-- What the document's Decide knows on its way. -/
structure DcI (n0 : Nat) (w W : World) (b : St) (r : Rf) (hi lo i : Nat) (A : Option Addr) (k cap : Nat) : Prop where
  below : Below n0 w W
  blk : Blk W n0 (rfC b r) 50
  blk2 : Blk W (n0 + 1) (rfC (new 0 0 0) rf0) 50
  own : W.ownsRow (n0 + 2) 120 3 (.slice A k cap) k (kdC (oth hi lo (b.K.take i)))
  len : (oth hi lo (b.K.take i)).length = k
theorem DcI.drewN {n0 : Nat} {w W : World} {b : St} {r : Rf} {hi lo i : Nat} {A : Option Addr} {k cap : Nat} (h : DcI n0 w W b r hi lo i A k cap) (q : Nat) : DcI n0 w (W.drewN q) b r hi lo i A k cap := ⟨⟨h.below.os, h.below.tape, h.below.output, h.below.size, h.below.block⟩, h.blk, h.blk2, row_same h.own fun _ _ => rfl, h.len⟩
theorem DcI.skip {n0 : Nat} {w W : World} {b : St} {r : Rf} {hi lo i : Nat} {A : Option Addr} {k cap : Nat} (h : DcI n0 w W b r hi lo i A k cap) (hi2 : i < b.K.length) (e : b.K[i].hi = hi ∧ b.K[i].lo = lo) : DcI n0 w W b r hi lo (i + 1) A k cap := by
  have e2 := oth_take (hi := hi) (lo := lo) hi2
  rw [if_pos e, List.append_nil] at e2
  exact ⟨h.below, h.blk, h.blk2, by rw [e2]; exact h.own, by rw [e2]; exact h.len⟩
/-- One more behind them. -/
theorem DcI.grown {n0 : Nat} {w W W2 : World} {b : St} {r : Rf} {hi lo i : Nat} {A : Option Addr} {k cap g c2 : Nat} {o : Obj} {x : Kn} (h : DcI n0 w W b r hi lo i A k cap) (ho : W2.ownsRow (n0 + 2) 120 3 (.slice (some ⟨g, 0, none⟩) (k + 1) c2) (k + 1) (kdC (oth hi lo (b.K.take i)) ++ kdL x)) (hg : (W.alloc o).grownBy W2 (Value.slice A k cap).ownBlock) :
    Below n0 w W2 ∧ Blk W2 n0 (rfC b r) 50 ∧ Blk W2 (n0 + 1) (rfC (new 0 0 0) rf0) 50 ∧ W2.ownsRow (n0 + 2) 120 3 (.slice (some ⟨g, 0, none⟩) (k + 1) c2) (k + 1) (kdC (oth hi lo (b.K.take i) ++ [x])) := by
  have hl2 := h.blk2.lt
  have hal : Below W.heap.size W (W.alloc o) := box_below _
  have hne : ∀ j, j < n0 + 2 → some j ≠ (Value.slice A k cap).ownBlock := fun j hj e => by
    have := (h.own.lt j e.symm).1
    omega
  refine ⟨(h.below.alloc (by omega) _).grown hg (by simp; omega) (fun j hj => by have := (h.own.lt j hj).1; omega), ?_, ?_, ?_⟩
  · exact h.blk.same ((hg.block n0 (by simp; omega) (hne n0 (by omega))).trans (hal.block n0 (by omega)))
  · exact h.blk2.same ((hg.block (n0 + 1) (by simp; omega) (hne (n0 + 1) (by omega))).trans (hal.block (n0 + 1) hl2))
  · have e : kdC (oth hi lo (b.K.take i) ++ [x]) = kdC (oth hi lo (b.K.take i)) ++ kdL x := by simp [kdC]
    rw [e]; exact ho
theorem cut_first (g k c : Nat) (h1 : 2 ≤ k) (h2 : k ≤ c) (W : World) : (Instr.slice 48 (.slice (some ⟨g, 0, none⟩) k c) (some (.int .i64 1)) none none).run Try.prog W = .ok (.slice (some ⟨g, 3, none⟩) (k - 1) (c - 1)) W := by
  have := run_slice_l (P := Try.prog) W 48 (some ⟨g, 0, none⟩) k c (by kernel_rfl) .i64 (1 : Int) (by omega) (by omega)
  rw [this]
  have hz : (sizeOf (Try.prog.elem 48)).run Try.prog W = .ok 3 W := by kernel_rfl
  rw [hz]
  simp only [sliced, Result.andThen, Option.map_some]
  have e1 : (1 : Int).toNat = 1 := rfl
  rw [e1, if_neg (by omega)]
  rfl
theorem kns_cut {W : World} {base n cap g : Nat} {x : Kn} {l : List Kn} (h : W.ownsRow base 120 3 (.slice (some ⟨g, 0, none⟩) n cap) n (kdC (x :: l))) (hn : (x :: l).length = n) : Kns W (some ⟨g, 3, none⟩) l := fun h0 => by
  have hg := (h.lt g rfl).2
  refine ⟨g, 3, rfl, hg, fun i hi => ?_⟩
  have hi2 : i + 1 < (x :: l).length := by simpa using hi
  obtain ⟨a1, a2, a3⟩ := kdC_at hi2
  have hc := fun j hj => h.cellAt j hj
  refine ⟨?_, ?_, ?_⟩
  · rw [show 3 + i * 3 = (i + 1) * 3 by omega, hc _ (by omega)]; exact a1
  · rw [show 3 + i * 3 + 1 = (i + 1) * 3 + 1 by omega, hc _ (by omega)]; exact a2
  · rw [show 3 + i * 3 + 2 = (i + 1) * 3 + 2 by omega, hc _ (by omega)]; exact a3
/-- The last steps: the buffer's own block, and the one that is told. -/
theorem dc_end {n0 : Nat} {w w2 : World} {b b' : St} {r : Rf} {v : Value} {n : Nat} {xs : List Value} {A3 : Option Addr} {k3 c3 : Nat} (hn0 : w.heap.size = n0) (hR : RfIn P w b r) (hb : Below n0 w w2) (h1 : Blk w2 n0 (rfC b r) 50) (h2 : Blk w2 (n0 + 1) (rfC (new 0 0 0) rf0) 50) (h3 : w2.ownsRow (n0 + 2) 120 3 v n xs)
    (hC : (rfC b r).setIfInBounds 6 (.slice A3 k3 c3) = rfC b' { r with B := A3, m := k3, capB := c3 }) (hL : b'.L = b.L) (hK : ∀ W, W.ownsRow (n0 + 2) 120 3 v n xs → Kns W A3 b'.K) (hk : b'.K.length = k3) (hc : k3 ≤ c3) (hP : ∀ g, A3.map (·.block) = some g → P g) :
    Blk (w2.setCell ⟨n0, 6, none⟩ (.slice A3 k3 c3)) n0 (rfC b' { r with B := A3, m := k3, capB := c3 }) 50 ∧ Blk (w2.setCell ⟨n0, 6, none⟩ (.slice A3 k3 c3)) (n0 + 1) (rfC (new 0 0 0) rf0) 50 ∧ ∀ C, C = rfC b' { r with B := A3, m := k3, capB := c3 } → Blk ((w2.setCell ⟨n0, 6, none⟩ (.slice A3 k3 c3)).setRow (n0 + 1) C) (n0 + 1) C 50 ∧ RfIn P ((w2.setCell ⟨n0, 6, none⟩ (.slice A3 k3 c3)).setRow (n0 + 1) C) b' { r with B := A3, m := k3, capB := c3 } ∧ Below n0 w ((w2.setCell ⟨n0, 6, none⟩ (.slice A3 k3 c3)).setRow (n0 + 1) C) := by
  have k1 := hC ▸ h1.set 6 (.slice A3 k3 c3)
  have k2 := h2.same (W' := w2.setCell ⟨n0, 6, none⟩ (.slice A3 k3 c3)) (Below.heap_setCell _ _ _ _ (by simp))
  refine ⟨k1, k2, fun C hCC => ?_⟩
  have k3' : Blk ((w2.setCell ⟨n0, 6, none⟩ (.slice A3 k3 c3)).setRow (n0 + 1) C) (n0 + 1) C 50 := setRow_heap _ _ _ _ _ _ k2
  have hbb : Below n0 w ((w2.setCell ⟨n0, 6, none⟩ (.slice A3 k3 c3)).setRow (n0 + 1) C) := Go.below_setRow (hb.setCell (by simp) _) (by omega) C
  have ho : ((w2.setCell ⟨n0, 6, none⟩ (.slice A3 k3 c3)).setRow (n0 + 1) C).ownsRow (n0 + 2) 120 3 v n xs := row_same h3 fun g hg => by
    have := (h3.lt g hg).1
    exact (setRow_other _ _ _ _ (by omega)).trans (Below.heap_setCell _ _ _ _ (by show g ≠ n0; omega))
  refine ⟨k3', ⟨?_, hK _ ho, by rw [hL]; exact hR.n, hk, hR.cap, hc, fun _ => hP⟩, hbb⟩
  obtain ⟨l, e1, e2, e3⟩ := hR.L
  exact ⟨l, by rw [hL]; exact e1, e2.later (hn0 ▸ hbb), e3⟩
theorem ay_keep (keep : Bool) : (ayOf keep == 4) = keep := by cases keep <;> rfl
theorem rfC_one (b : St) (r : Rf) : (rfC b r).all (·.oneCell') = true := by simp [rfC, Value.oneCell']

set_option linter.unusedSimpArgs false in
set_option maxRecDepth 100000 in
set_option maxHeartbeats 4000000 in
theorem refDecide_any (hi lo : Nat) (keep : Bool) (w : World) (b : St) (r : Rf) (h : RfIn P w b r) (hm2 : r.m ≤ 5000) (hmo : 1 ≤ b.most) (hP : ∀ k, w.heap.size ≤ k → P k) :
    Calls Try.prog 35 #[rfV b r, .int .u64 (hi : Int), .int .u64 (lo : Int), .bool keep] w fun e w' => ∃ r', e = .returned (rfV (decided b hi lo (ayOf keep)) r') ∧ Hid (RfIn P w' (decided b hi lo (ayOf keep)) r') ∧ Hid (Below w.heap.size w w') := by
  obtain ⟨A, n, cap, B, m, capB⟩ := r
  have hml := h.m
  simp only at hm2 hml
  have HAT := Lib.hid (show ∀ i, i < m → ∃ g o kh kl ka : Nat, B = some ⟨g, o, none⟩ ∧ (∃ hl : i < b.K.length, b.K[i] = ⟨kh, kl, ka⟩) ∧ ∀ W, Below w.heap.size w W → W.cell? ⟨g, o + i * 3, none⟩ = some (.int .u64 (kh : Int)) ∧ W.cell? ⟨g, o + i * 3 + 1, none⟩ = some (.int .u64 (kl : Int)) ∧ W.cell? ⟨g, o + i * 3 + 2, none⟩ = some (.bool (ka == 4)) from fun i hi => by
    have hl : i < b.K.length := by omega
    obtain ⟨g, o, e, hg, hc⟩ := h.K (by omega)
    obtain ⟨a1, a2, a3⟩ := hc i hl
    exact ⟨g, o, _, _, _, e, ⟨hl, rfl⟩, fun W hW => ⟨(hW.cell (p := ⟨g, o + i * 3, none⟩) hg).trans a1, (hW.cell (p := ⟨g, o + i * 3 + 1, none⟩) hg).trans a2, (hW.cell (p := ⟨g, o + i * 3 + 2, none⟩) hg).trans a3⟩⟩)
  have HR := Lib.hid h
  have HP := Lib.hid hP
  clear hP
  have HML := Lib.hid hml
  obtain ⟨n0, hn0⟩ : ∃ x, w.heap.size = x := ⟨_, rfl⟩
  have HI0 := Lib.hid (show DcI n0 w ((w.alloc (.cells #[.int .i64 (b.sp : Int), .int .i64 (b.wait : Int), .int .i64 (b.most : Int), .int .i64 (b.time : Int), .int .i64 (b.came : Int), .slice A n cap, .slice B m capB] 50)).alloc (.cells #[.int .i64 0, .int .i64 0, .int .i64 0, .int .i64 0, .int .i64 0, .slice none 0 0, .slice none 0 0] 50)) b ⟨A, n, cap, B, m, capB⟩ hi lo 0 none 0 0 from by
    subst hn0
    have b1 := blk_new (w.alloc (.cells #[.int .i64 (b.sp : Int), .int .i64 (b.wait : Int), .int .i64 (b.most : Int), .int .i64 (b.time : Int), .int .i64 (b.came : Int), .slice A n cap, .slice B m capB] 50)) #[.int .i64 0, .int .i64 0, .int .i64 0, .int .i64 0, .int .i64 0, .slice none 0 0, .slice none 0 0] 50
    rw [World.size_alloc] at b1
    exact ⟨(box_below _).alloc (by simp) _, (blk_new w _ _).same (Below.heap_alloc _ _ _ (by simp)), b1, ⟨rfl, .inl ⟨rfl, rfl⟩⟩, rfl⟩)
  have HN0 := Lib.hid hn0
  obtain ⟨i0, hi0, hz0, hz1, hz2⟩ := info_parts info_kd
  have HI := Lib.hid (And.intro hi0 (And.intro hz0 (And.intro hz1 hz2)))
  unfold rfV
  clear h hml hi0 hz0 hz1 hz2
  go_enter Try.func35, Try.ntmps35
  go_wp2_with fail
  clear hn0
  generalize (w.alloc (.cells #[.int .i64 (b.sp : Int), .int .i64 (b.wait : Int), .int .i64 (b.most : Int), .int .i64 (b.time : Int), .int .i64 (b.came : Int), .slice A n cap, .slice B m capB] 50)).alloc (.cells #[.int .i64 0, .int .i64 0, .int .i64 0, .int .i64 0, .int .i64 0, .slice none 0 0, .slice none 0 0] 50) = Wo at HI0 ⊢
  go_loopw [10, 9] (fun iv lv wr => ∃ (i k : Nat) (A' : Option Addr) (c' : Nat), iv = .int .i64 (i : Int) ∧ lv = .slice A' k c' ∧ i ≤ m ∧ k ≤ i ∧ Hid (DcI n0 w wr b ⟨A, n, cap, B, m, capB⟩ hi lo i A' k c')) (fun iv _ _ => m - (intOf iv).toNat)
  case atStart => exact ⟨0, 0, none, 0, rfl, rfl, by omega, by omega, HI0⟩
  case round =>
    obtain ⟨i, k, A', c', rfl, rfl, him, hki, HD⟩ := hrel
    have c6 : wr.cell? ⟨n0, 6, none⟩ = some (.slice B m capB) := HD.out.blk.cell 6 rfl
    by_cases hin : i < m
    · have t1 : decide ((i : Int) < (m : Int)) = true := by simp; omega
      obtain ⟨g, o, kh, kl, ka, rfl, hkk, hc⟩ := HAT.out i hin
      obtain ⟨p0, p1, p2⟩ := hc wr (HN0.out ▸ HD.out.below)
      have HKK := Lib.hid hkk
      have HC := Lib.hid hc
      clear hkk hc
      by_cases e1 : kh = hi
      · by_cases e2 : kl = lo
        · have HMA := Lib.hid (show kh = hi ∧ kl = lo from ⟨e1, e2⟩)
          have t2 : ((kh : Int) != (hi : Int)) = false := by rw [e1]; simp
          have t3 : ((kl : Int) != (lo : Int)) = false := by rw [e2]; simp
          clear e1 e2
          have HNX := Lib.hid (show DcI n0 w wr b ⟨A, n, cap, some ⟨g, o, none⟩, m, capB⟩ hi lo (i + 1) A' k c' from by
            obtain ⟨hl, e⟩ := HKK.out
            exact HD.out.skip hl (by rw [e]; exact HMA.out))
          clear HD
          go_wp2_with fail
          go_roundw
          case rel => exact ⟨i + 1, k, _, c', by simp, rfl, by omega, by omega, HNX⟩
          case measure => simp [intOf]; omega
        · have HNE := Lib.hid (show ¬ (kh = hi ∧ kl = lo) from fun h => e2 h.2)
          have t2 : ((kh : Int) != (hi : Int)) = false := by rw [e1]; simp
          have t3 : ((kl : Int) != (lo : Int)) = true := by simp; omega
          clear e1 e2
          have HD2 := HD
          clear HD
          obtain ⟨n1, hn1⟩ : ∃ n1, wr.heap.size = n1 := ⟨_, rfl⟩
          have hbx := blk_new wr #[.int .u64 (kh : Int), .int .u64 (kl : Int), .bool (ka == 4)] 120
          rw [hn1] at hbx
          have HBX := Lib.hid hbx
          have HOW := Lib.hid (HD2.out.own.alloc (.cells #[.int .u64 (kh : Int), .int .u64 (kl : Int), .bool (ka == 4)] 120))
          have HSZ := Lib.hid (show n0 + 2 ≤ (wr.alloc (.cells #[.int .u64 (kh : Int), .int .u64 (kl : Int), .bool (ka == 4)] 120)).heap.size from by have := HD2.out.blk2.lt; simp; omega)
          have hk5 : k ≤ 5000 := by omega
          clear hbx
          go_wp2_with (first
            | (refine app_one Try.underlying48 HI.out.1 HI.out.2.1 HI.out.2.2.1 HI.out.2.2.2 rfl (by decide) rfl _ _ rfl (n0 + 2) A' k c' _ (kdL ⟨kh, kl, ka⟩) n1 1 rfl HOW.out rfl rfl (fun j u hj => ?_) (kdL_one _) (by omega) (by omega) HSZ.out ?_)
            | fail)
          · refine HBX.out.cell j ?_
            rw [← hj]
            match j with
            | 0 => rfl
            | 1 => rfl
            | 2 => rfl
            | j + 3 => simp [kdL]
          · intro g2 c2 w2 ho2 hg2 _
            obtain ⟨y1, y2, y3, y4⟩ := HD2.out.grown (x := ⟨kh, kl, ka⟩) ho2 hg2
            have HNX := Lib.hid (show DcI n0 w w2 b ⟨A, n, cap, some ⟨g, o, none⟩, m, capB⟩ hi lo (i + 1) (some ⟨g2, 0, none⟩) (k + 1) c2 from by
              obtain ⟨hl, e⟩ := HKK.out
              have e2 := oth_take (hi := hi) (lo := lo) hl
              rw [e, if_neg HNE.out] at e2
              exact ⟨y1, y2, y3, by rw [e2]; exact y4, by rw [e2]; simp [HD2.out.len]⟩)
            clear y1 y2 y3 y4 ho2 hg2 c6 p0 p1 p2
            go_wp2_with fail
            go_roundw
            case rel => exact ⟨i + 1, k + 1, _, c2, by simp, by simp, by omega, by omega, HNX⟩
            case measure => simp [intOf]; omega
      · have HNE := Lib.hid (show ¬ (kh = hi ∧ kl = lo) from fun h => e1 h.1)
        have t2 : ((kh : Int) != (hi : Int)) = true := by simp; omega
        clear e1
        have HD2 := HD
        clear HD
        obtain ⟨n1, hn1⟩ : ∃ n1, wr.heap.size = n1 := ⟨_, rfl⟩
        have hbx := blk_new wr #[.int .u64 (kh : Int), .int .u64 (kl : Int), .bool (ka == 4)] 120
        rw [hn1] at hbx
        have HBX := Lib.hid hbx
        have HOW := Lib.hid (HD2.out.own.alloc (.cells #[.int .u64 (kh : Int), .int .u64 (kl : Int), .bool (ka == 4)] 120))
        have HSZ := Lib.hid (show n0 + 2 ≤ (wr.alloc (.cells #[.int .u64 (kh : Int), .int .u64 (kl : Int), .bool (ka == 4)] 120)).heap.size from by have := HD2.out.blk2.lt; simp; omega)
        have hk5 : k ≤ 5000 := by omega
        clear hbx
        go_wp2_with (first
          | (refine app_one Try.underlying48 HI.out.1 HI.out.2.1 HI.out.2.2.1 HI.out.2.2.2 rfl (by decide) rfl _ _ rfl (n0 + 2) A' k c' _ (kdL ⟨kh, kl, ka⟩) n1 1 rfl HOW.out rfl rfl (fun j u hj => ?_) (kdL_one _) (by omega) (by omega) HSZ.out ?_)
          | fail)
        · refine HBX.out.cell j ?_
          rw [← hj]
          match j with
          | 0 => rfl
          | 1 => rfl
          | 2 => rfl
          | j + 3 => simp [kdL]
        · intro g2 c2 w2 ho2 hg2 _
          obtain ⟨y1, y2, y3, y4⟩ := HD2.out.grown (x := ⟨kh, kl, ka⟩) ho2 hg2
          have HNX := Lib.hid (show DcI n0 w w2 b ⟨A, n, cap, some ⟨g, o, none⟩, m, capB⟩ hi lo (i + 1) (some ⟨g2, 0, none⟩) (k + 1) c2 from by
            obtain ⟨hl, e⟩ := HKK.out
            have e2 := oth_take (hi := hi) (lo := lo) hl
            rw [e, if_neg HNE.out] at e2
            exact ⟨y1, y2, y3, by rw [e2]; exact y4, by rw [e2]; simp [HD2.out.len]⟩)
          clear y1 y2 y3 y4 ho2 hg2 c6 p0 p1 p2
          go_wp2_with fail
          go_roundw
          case rel => exact ⟨i + 1, k + 1, _, c2, by simp, by simp, by omega, by omega, HNX⟩
          case measure => simp [intOf]; omega
    · obtain rfl : m = i := by omega
      have t1 : decide ((m : Int) < (m : Int)) = false := by simp
      have HALL := Lib.hid (show b.K.take m = b.K from List.take_of_length_le (by rw [HML.out]; exact Nat.le_refl _))
      obtain ⟨n1, hn1⟩ : ∃ n1, wr.heap.size = n1 := ⟨_, rfl⟩
      have hbx := blk_new wr #[.int .u64 (hi : Int), .int .u64 (lo : Int), .bool keep] 120
      rw [hn1] at hbx
      have HBX := Lib.hid hbx
      have HOW := Lib.hid (HD.out.own.alloc (.cells #[.int .u64 (hi : Int), .int .u64 (lo : Int), .bool keep] 120))
      have HSZ := Lib.hid (show n0 + 2 ≤ (wr.alloc (.cells #[.int .u64 (hi : Int), .int .u64 (lo : Int), .bool keep] 120)).heap.size from by have := HD.out.blk2.lt; simp; omega)
      have hk5 : k ≤ 5000 := by omega
      clear hbx
      go_wp2_with (first
        | (refine app_one Try.underlying48 HI.out.1 HI.out.2.1 HI.out.2.2.1 HI.out.2.2.2 rfl (by decide) rfl _ _ rfl (n0 + 2) A' k c' _ (kdL ⟨hi, lo, ayOf keep⟩) n1 1 rfl HOW.out rfl rfl (fun j u hj => ?_) (kdL_one _) (by omega) (by omega) HSZ.out ?_)
        | fail)
      · refine HBX.out.cell j ?_
        rw [← hj]
        match j with
        | 0 => rfl
        | 1 => rfl
        | 2 => simp [kdL, ay_keep]
        | j + 3 => simp [kdL]
      · intro g2 c2 w2 ho2 hg2 _
        obtain ⟨y1, y2, y3, y4⟩ := HD.out.grown (x := ⟨hi, lo, ayOf keep⟩) ho2 hg2
        have hkc := (y4.form (by omega)).choose_spec
        have hlen : (oth hi lo b.K ++ [(⟨hi, lo, ayOf keep⟩ : Kn)]).length = k + 1 := by
          have := HD.out.len
          rw [HALL.out] at this
          simp [this]
        have hcap : k + 1 ≤ c2 := by
          rcases y4.2 with ⟨h1, _⟩ | ⟨_, _, _, h1, _, _, h2, _⟩
          · cases h1
          · injection h1 with _ _ h1; omega
        rw [HALL.out] at y4
        have c2' : w2.cell? ⟨n0, 2, none⟩ = some (.int .i64 (b.most : Int)) := y2.cell 2 rfl
        have f6 : w2.frozen? ⟨n0, 6, none⟩ = false := y2.free 6
        have c6' : w2.cell? ⟨n0, 6, none⟩ = some (.slice B m capB) := y2.cell 6 rfl
        have HY := Lib.hid (And.intro y1 (And.intro y2 (And.intro y3 (And.intro y4 hlen))))
        obtain ⟨mo, hmo2⟩ : ∃ mo, b.most = mo := ⟨_, rfl⟩
        rw [hmo2] at c2' hmo
        have HMO := Lib.hid hmo2
        clear y1 y2 y3 y4 ho2 hg2 hkc hlen c6 hmo2
        by_cases hcut : mo < k + 1
        · have t4 : decide ((mo : Int) < (k : Int) + 1) = true := by simp; omega
          have t4b : decide ((mo : Int) < ((k + 1 : Nat) : Int)) = true := by simp; omega
          have hsl := cut_first g2 (k + 1) c2 (by omega) hcap
          rw [Nat.add_sub_cancel] at hsl
          have HE := Lib.hid (dc_end (b' := decided b hi lo (ayOf keep)) (A3 := some ⟨g2, 3, none⟩) (k3 := k) (c3 := c2 - 1) HN0.out HR.out HY.out.1 HY.out.2.1 HY.out.2.2.1 HY.out.2.2.2.1 rfl rfl (fun W hW => by
              have e : (decided b hi lo (ayOf keep)).K = (oth hi lo b.K ++ [(⟨hi, lo, ayOf keep⟩ : Kn)]).tail := by
                show dec b.most hi lo (ayOf keep) b.K = _
                unfold dec cut
                rw [if_pos (by rw [HY.out.2.2.2.2, HMO.out]; exact hcut)]
              rw [e]
              have hl := HY.out.2.2.2.2
              match hx : oth hi lo b.K ++ [(⟨hi, lo, ayOf keep⟩ : Kn)] with
              | [] => simp at hx
              | x :: l =>
                rw [hx] at hW hl
                exact kns_cut hW hl) (by
              show (dec b.most hi lo (ayOf keep) b.K).length = k
              unfold dec cut
              rw [if_pos (by rw [HY.out.2.2.2.2, HMO.out]; exact hcut), List.length_tail, HY.out.2.2.2.2, Nat.add_sub_cancel]) (by omega) (fun g' hg' => by
              have h1 := (HY.out.2.2.2.1.lt g2 rfl).1
              simp at hg'
              subst hg'
              exact HP.out _ (by have := HN0.out; omega)))
          clear hcut HY
          obtain ⟨HE1, HE2, HE3⟩ := HE.out
          have HE3' := Lib.hid (HE3 _ rfl)
          have HEA := Lib.hid (And.intro HE1 HE2)
          clear HE HE1 HE2 HE3
          go_wp2_with (first
            | (refine wpList_load_row rfl 50 (.tmp 4) rfl n0 rfl 50 (rfC (decided b hi lo (ayOf keep)) ⟨A, n, cap, some ⟨g2, 3, none⟩, k, c2 - 1⟩) (0, 0) _ HEA.out.1 Try.underlying50 rfl (by kernel_rfl) ?_)
            | (refine wpList_store_row rfl 50 (.tmp 8) _ rfl (n0 + 1) (rfC (decided b hi lo (ayOf keep)) ⟨A, n, cap, some ⟨g2, 3, none⟩, k, c2 - 1⟩) rfl rfl 50 (rfC (new 0 0 0) rf0) HEA.out.2 (by kernel_rfl) rfl (rfC_one _ _) ?_)
            | fail)
          exact bodyPost_ret (results_cell_row rfl _ _ (n0 + 1) 50 (rfC (decided b hi lo (ayOf keep)) ⟨A, n, cap, some ⟨g2, 3, none⟩, k, c2 - 1⟩) _ _ rfl HE3'.out.1 Try.underlying50 rfl (by kernel_rfl)) rfl ⟨⟨A, n, cap, some ⟨g2, 3, none⟩, k, c2 - 1⟩, rfl, Lib.hid HE3'.out.2.1, Lib.hid (HN0.out ▸ HE3'.out.2.2)⟩
        · have t4 : decide ((mo : Int) < (k : Int) + 1) = false := by simp; omega
          have t4b : decide ((mo : Int) < ((k + 1 : Nat) : Int)) = false := by simp; omega
          have HE := Lib.hid (dc_end (b' := decided b hi lo (ayOf keep)) (A3 := some ⟨g2, 0, none⟩) (k3 := k + 1) (c3 := c2) HN0.out HR.out HY.out.1 HY.out.2.1 HY.out.2.2.1 HY.out.2.2.2.1 rfl rfl (fun W hW => by
              have e : (decided b hi lo (ayOf keep)).K = oth hi lo b.K ++ [(⟨hi, lo, ayOf keep⟩ : Kn)] := by
                show dec b.most hi lo (ayOf keep) b.K = _
                unfold dec cut
                rw [if_neg (by rw [HY.out.2.2.2.2, HMO.out]; exact hcut)]
              rw [e]
              exact kns_own hW HY.out.2.2.2.2) (by
              show (dec b.most hi lo (ayOf keep) b.K).length = k + 1
              unfold dec cut
              rw [if_neg (by rw [HY.out.2.2.2.2, HMO.out]; exact hcut), HY.out.2.2.2.2]) hcap (fun g' hg' => by
              have h1 := (HY.out.2.2.2.1.lt g2 rfl).1
              simp at hg'
              subst hg'
              exact HP.out _ (by have := HN0.out; omega)))
          clear hcut HY
          obtain ⟨HE1, HE2, HE3⟩ := HE.out
          have HE3' := Lib.hid (HE3 _ rfl)
          have HEA := Lib.hid (And.intro HE1 HE2)
          clear HE HE1 HE2 HE3
          go_wp2_with (first
            | (refine wpList_load_row rfl 50 (.tmp 4) rfl n0 rfl 50 (rfC (decided b hi lo (ayOf keep)) ⟨A, n, cap, some ⟨g2, 0, none⟩, k + 1, c2⟩) (0, 0) _ HEA.out.1 Try.underlying50 rfl (by kernel_rfl) ?_)
            | (refine wpList_store_row rfl 50 (.tmp 8) _ rfl (n0 + 1) (rfC (decided b hi lo (ayOf keep)) ⟨A, n, cap, some ⟨g2, 0, none⟩, k + 1, c2⟩) rfl rfl 50 (rfC (new 0 0 0) rf0) HEA.out.2 (by kernel_rfl) rfl (rfC_one _ _) ?_)
            | fail)
          exact bodyPost_ret (results_cell_row rfl _ _ (n0 + 1) 50 (rfC (decided b hi lo (ayOf keep)) ⟨A, n, cap, some ⟨g2, 0, none⟩, k + 1, c2⟩) _ _ rfl HE3'.out.1 Try.underlying50 rfl (by kernel_rfl)) rfl ⟨⟨A, n, cap, some ⟨g2, 0, none⟩, k + 1, c2⟩, rfl, Lib.hid HE3'.out.2.1, Lib.hid (HN0.out ▸ HE3'.out.2.2)⟩
end Go.Proofs.Ythpcnnkdpgjiiaa
