/-
  The document's own Push of timers: another row, in order, in memory of its own.
-/
import Derived.Test.YtlbopajnnbnolaaHpRef2
namespace Go.Proofs.Ytlbopajnnbnolaa
open Go.RowKit Go.Maps Go.Proofs.HeapMath

/-- What Push tells, and what is there then. -/
def pushE (most : Nat) (t : Tm) (s : List Tm) : Nat := if isin t.2 s = true then 1 else if most ≤ s.length then 70 else 0
def pushS (most : Nat) (t : Tm) (s : List Tm) : List Tm := if isin t.2 s = true then s else if most ≤ s.length then s else ins t s
def DocE (w : World) (most : Nat) (bs : List Nat) (s' : List Tm) (last : Value) (e : Ending) (w' : World) : Prop :=
  ∃ A n cap, e = .returned (.tuple #[.agg #[.slice A n cap, .int .i64 (most : Int)], last]) ∧ Hid (Below w.heap.size w w' ∧ Dc w' A n cap s' bs)
theorem row_dc {W : World} {base n cap : Nat} {A : Option Addr} {s : List Tm} {bs : List Nat} (h : W.ownsRow base 31 2 (.slice A n cap) n (cl s)) (hs : s.length = n) (h5 : n ≤ 5000) (hbs : ∀ k ∈ bs, k < base) : Dc W A n cap s bs := by
  have hcap : n ≤ cap ∧ cap ≤ 9223372036854775807 := by
    rcases h.2 with ⟨e, _⟩ | ⟨g, c, cur, e, _, _, h2, h3, _⟩
    · injection e with _ e1 e2; omega
    · injection e with _ e1 e2
      unfold maxLen at h3
      omega
  have hnil : A = none → cap = 0 := fun hA => by
    rcases h.2 with ⟨e, _⟩ | ⟨g, c, cur, e, _, _, h2, h3, _⟩
    · injection e with _ e1 e2
    · injection e with e1; rw [hA] at e1; cases e1
  refine ⟨hs, hcap, h5, hnil, fun h0 => ?_⟩
  obtain ⟨g, cap', e, hg1, hg2⟩ := h.form h0
  have hb := h.lt g (by rw [e]; rfl)
  injection e with e1 _ e2
  subst e1 e2
  refine ⟨g, rfl, hg2, fun hm => by have := hbs g hm; omega, fun j hj => ?_⟩
  have z : ∀ k, (⟨g, 0, none⟩ : Addr).add k = ⟨g, k, none⟩ := fun k => by unfold Addr.add; split <;> simp_all
  have r1 := h.cells (g := g) rfl _ _ (cl_at (l := s) (i := j) (by omega)).1
  have r2 := h.cells (g := g) rfl _ _ (cl_at (l := s) (i := j) (by omega)).2
  rw [z] at r1 r2
  exact ⟨r1, r2⟩
theorem Dc.wide {W : World} {A : Option Addr} {n cap : Nat} {s : List Tm} {bs : List Nat} (h : Dc W A n cap s bs) {W' : World} (hb : Below W.heap.size W W') : ∀ i, i ≤ n → Rd W' A i (s.take i) ∧ ∃ A2, (∀ W'', (Instr.slice 38 (.slice A n cap) (some (.int .i64 (i : Int))) none none).run Try.prog W'' = .ok (.slice A2 (n - i) (cap - i)) W'') ∧ (A2 = none → cap - i = 0 ∧ n - i = 0) ∧ ∀ W3, Below W.heap.size W W3 → Rd W3 A2 (n - i) (s.drop i) := fun i hi => by
  have hA := h.nil_
  have hc : ∀ W3, Below W.heap.size W W3 → 0 < n → ∃ g, A = some ⟨g, 0, none⟩ ∧ ∀ j, j < n → W3.cell? ⟨g, j * 2, none⟩ = some (.int .i64 (at_ s j).1) ∧ W3.cell? ⟨g, j * 2 + 1, none⟩ = some (.int .i64 (at_ s j).2) := fun W3 h3 h0 => by
    obtain ⟨g, e, hg, _, hcell⟩ := h.cells h0
    exact ⟨g, e, fun j hj => ⟨(h3.cell (p := ⟨g, j * 2, none⟩) hg).trans (hcell j hj).1, (h3.cell (p := ⟨g, j * 2 + 1, none⟩) hg).trans (hcell j hj).2⟩⟩
  refine ⟨Rd.take hi h.len (hc W' hb), ?_⟩
  obtain ⟨A2, q1, _, q3⟩ := cut_from A n cap i hi W s h.len (hc W (Below.refl _ _)) h.cap_.1 hA
  refine ⟨A2, q1, q3, fun W3 h3 => ?_⟩
  obtain ⟨A3, r1, r2, _⟩ := cut_from A n cap i hi W3 s h.len (hc W3 h3) h.cap_.1 hA
  have e := (q1 W3).symm.trans (r1 W3)
  injection e with e _
  injection e with e _ _
  rw [e]
  exact r2

theorem grown_below {B : Nat} {W3 w w' : World} {v : Value} (h : Below B W3 w) (hs : B ≤ w.heap.size) (hg : w.grownBy w' v.ownBlock) (hv : ∀ g, v.ownBlock = some g → B ≤ g) : Below B W3 w' ∧ B ≤ w'.heap.size :=
  ⟨h.trans ⟨hg.os, hg.tape, hg.output, hg.size, fun k hk => hg.block k (by omega) (fun e => by have := hv k e.symm; omega)⟩, Nat.le_trans hs hg.size⟩
theorem rd_one (w : World) (n : Nat) (hn : w.heap.size = n) (a b : Int) : Rd (w.alloc (.cells #[.int .i64 a, .int .i64 b] 31)) (some ⟨n, 0, none⟩) 1 [(a, b)] := by
  subst hn
  refine ⟨rfl, fun _ => ⟨_, 0, rfl, fun j hj => ?_⟩⟩
  obtain rfl : j = 0 := by omega
  have hb := blk_new w #[.int .i64 a, .int .i64 b] 31
  exact ⟨hb.cell 0 rfl, hb.cell 1 rfl⟩
theorem push_doc {w W3 w8 : World} {n0 n i most cap8 : Nat} {A8 : Option Addr} {s : List Tm} {bs : List Nat} {ta tb : Int} {u v : Value} (hn0 : w.heap.size = n0) (hB : Below n0 w W3) (h8 : Below (n0 + 3) W3 w8 ∧ n0 + 3 ≤ w8.heap.size)
    (ho : w8.ownsRow (n0 + 3) 31 2 (.slice A8 (n + 1) cap8) (n + 1) (cl ((([] ++ s.take i) ++ [(ta, tb)]) ++ s.drop i))) (hl : s.length = n) (hc : i = cnt (ta, tb) s) (hp : pushS most (ta, tb) s = ins (ta, tb) s) (h5 : n + 1 ≤ 5000) (hbs : ∀ k ∈ bs, k < w.heap.size) :
    Below w.heap.size w ((w8.setCell ⟨n0 + 2, 0, none⟩ u).setCell ⟨n0 + 2, 1, none⟩ v) ∧ Dc ((w8.setCell ⟨n0 + 2, 0, none⟩ u).setCell ⟨n0 + 2, 1, none⟩ v) A8 (n + 1) cap8 (pushS most (ta, tb) s) bs := by
  refine ⟨hn0 ▸ ((hB.trans (h8.1.mono (by omega))).setCell (by simp; omega) _).setCell (by simp; omega) _, ?_⟩
  have e : (([] ++ s.take i) ++ [(ta, tb)]) ++ s.drop i = ins (ta, tb) s := by unfold ins; rw [← hc]; simp
  rw [e] at ho
  rw [hp]
  refine row_dc (row_same ho fun g hg => ?_) (by rw [ins_length, hl]) h5 (fun k hk => by have := hbs k hk; omega)
  have := (ho.lt g hg).1
  rw [Below.heap_setCell _ _ _ _ (by simp; omega), Below.heap_setCell _ _ _ _ (by simp; omega)]
set_option linter.unusedSimpArgs false in
set_option maxRecDepth 100000 in
set_option maxHeartbeats 4000000 in
theorem refPush_any {A : Option Addr} {n cap most : Nat} {s : List Tm} {bs : List Nat} (t : Tm) (w : World) (h : Dc w A n cap s bs) (hn : Nn s) (hbs : ∀ k ∈ bs, k < w.heap.size) (hm : most ≤ 4999) :
    Calls Try.prog 15 #[.agg #[.slice A n cap, .int .i64 (most : Int)], .agg #[.int .i64 t.1, .int .i64 t.2]] w (DocE w most bs (pushS most t s) (.int .i64 (pushE most t s : Int))) := by
  obtain ⟨n0, hn0⟩ : ∃ n0, w.heap.size = n0 := ⟨_, rfl⟩
  have hl := h.len
  have h5 := h.five
  have hB : Below n0 w (((w.alloc (.cells #[.slice A n cap, .int .i64 (most : Int)] 40)).alloc (.cells #[.int .i64 t.1, .int .i64 t.2] 31)).alloc (.cells #[.slice none 0 0, .int .i64 0] 40)) := by
    rw [← hn0]
    exact ((box_below _).alloc (by simp) _).alloc (by simp; omega) _
  have hk0 := blk_new w #[.slice A n cap, .int .i64 (most : Int)] 40
  have hk1 := blk_new (w.alloc (.cells #[.slice A n cap, .int .i64 (most : Int)] 40)) #[.int .i64 t.1, .int .i64 t.2] 31
  have hk2 := blk_new ((w.alloc (.cells #[.slice A n cap, .int .i64 (most : Int)] 40)).alloc (.cells #[.int .i64 t.1, .int .i64 t.2] 31)) #[.slice none 0 0, .int .i64 0] 40
  simp only [World.size_alloc, hn0] at hk0 hk1 hk2
  have hk0' := (hk0.later (box_below (.cells #[.int .i64 t.1, .int .i64 t.2] 31))).later (box_below (.cells #[.slice none 0 0, .int .i64 0] 40))
  have hk1' := hk1.later (box_below (.cells #[.slice none 0 0, .int .i64 0] 40))
  obtain ⟨W3, hW3⟩ : ∃ W3, ((w.alloc (.cells #[.slice A n cap, .int .i64 (most : Int)] 40)).alloc (.cells #[.int .i64 t.1, .int .i64 t.2] 31)).alloc (.cells #[.slice none 0 0, .int .i64 0] 40) = W3 := ⟨_, rfl⟩
  have hs3 : W3.heap.size = n0 + 3 := by rw [← hW3]; simp [hn0]
  rw [hW3] at hB hk0' hk1' hk2
  have hPl := refPlace_any (most := most) t.2 W3 (h.later (hn0 ▸ hB)) hn
  obtain ⟨⟨ta, tb⟩, ht⟩ : ∃ x, t = x := ⟨t, rfl⟩
  have HT := Lib.hid ht
  subst ht
  simp only at hPl hk1' hW3 ⊢
  have hend1 : ∀ Wx, Below (n0 + 3) W3 Wx → pushE most (ta, tb) s = 1 ∨ pushE most (ta, tb) s = 70 → Below n0 w ((Wx.setCell ⟨n0 + 2, 0, none⟩ (.slice A n cap)).setCell ⟨n0 + 2, 1, none⟩ (.int .i64 (most : Int))) ∧ Dc ((Wx.setCell ⟨n0 + 2, 0, none⟩ (.slice A n cap)).setCell ⟨n0 + 2, 1, none⟩ (.int .i64 (most : Int))) A n cap (pushS most (ta, tb) s) bs := fun Wx hx he => by
    have hb : Below n0 w ((Wx.setCell ⟨n0 + 2, 0, none⟩ (.slice A n cap)).setCell ⟨n0 + 2, 1, none⟩ (.int .i64 (most : Int))) := ((hB.trans (hx.mono (by omega))).setCell (by simp) _).setCell (by simp) _
    have hs : pushS most (ta, tb) s = s := by
      unfold pushE pushS at *
      split
      · rfl
      · rename_i h1
        rw [if_neg h1] at he
        split
        · rfl
        · rename_i h2
          rw [if_neg h2] at he
          omega
    rw [hs]
    exact ⟨hb, h.later (hn0 ▸ hb)⟩
  obtain ⟨hncap, hcap63⟩ := h.cap_
  have HE1 := Lib.hid hend1
  have HB := Lib.hid hB
  have HK2 := Lib.hid hk2
  have HS3 := Lib.hid hs3
  have HD := Lib.hid h
  have HPL := Lib.hid hPl
  have k0 := hk0'.cell 0 rfl
  have k1 := hk0'.cell 1 rfl
  have m0 := hk1'.cell 0 rfl
  have m1 := hk1'.cell 1 rfl
  have HK0 := Lib.hid hk0'
  have HK1 := Lib.hid hk1'
  have HN0 := Lib.hid hn0
  have HN := Lib.hid hn
  have HBS := Lib.hid hbs
  have HL := Lib.hid hl
  clear hend1 hB hk2 hs3 h hPl hk0' hk1' hk0 hk1 hn hbs hl
  go_enter Try.func15, Try.ntmps15
  go_wp2_with fail
  refine HPL.out.mono ?_
  rintro e w4 ⟨p, rfl, HP⟩
  clear hW3 k0 k1 m0 m1
  have hb4 : Below (n0 + 3) W3 w4 := HS3.out ▸ HP.out.1
  have hb4b := hb4
  have k0 := (HK0.out.same (hb4.block _ (by omega))).cell 0 rfl
  have k1 := (HK0.out.same (hb4.block _ (by omega))).cell 1 rfl
  have hk2 := HK2.out.same (hb4.block _ (by omega))
  have r0 := hk2.cell 0 rfl
  have r1 := hk2.cell 1 rfl
  have f0 := hk2.free 0
  have f1 := hk2.free 1
  have q0 := Lib.hid (((hk2.set 0 (.slice A n cap)).set 1 (.int .i64 (most : Int))).cell 0 rfl)
  have q1 := Lib.hid (((hk2.set 0 (.slice A n cap)).set 1 (.int .i64 (most : Int))).cell 1 rfl)
  have HB4 := Lib.hid hb4
  have HK24 := Lib.hid hk2
  by_cases hi : isin tb s = true
  · obtain ⟨i, _, _, rfl⟩ := HP.out.2.2 hi
    have he : pushE most (ta, tb) s = 1 := if_pos hi
    have hx := HE1.out w4 hb4 (.inl he)
    have HX := Lib.hid hx
    have HEE := Lib.hid he
    clear hb4 hb4b hk2 he hx hi HP
    go_wp2_with fail
    have z0 := q0.out
    have z1 := q1.out
    refine bodyPost_ret (v := .tuple #[.agg #[.slice A n cap, .int .i64 (most : Int)], .int .i64 1]) (by simp [results, Try.results15, go_sem, z0, z1]) rfl ⟨A, n, cap, by rw [HEE.out]; rfl, Lib.hid (by rw [HN0.out]; exact HX.out)⟩
  · have hi2 : isin tb s = false := by simpa using hi
    obtain rfl : p = -1 := HP.out.2.1 hi2
    by_cases hf : most ≤ n
    · have df : decide (most ≤ n) = true := by simp; omega
      have he : pushE most (ta, tb) s = 70 := by
        unfold pushE
        rw [if_neg hi, if_pos (by rw [HL.out]; exact hf)]
      have hx := HE1.out w4 hb4 (.inr he)
      have HX := Lib.hid hx
      have HEE := Lib.hid he
      clear hb4 hb4b hk2 he hx hi hi2 HP hf
      go_wp2_with fail
      have z0 := q0.out
      have z1 := q1.out
      refine bodyPost_ret (v := .tuple #[.agg #[.slice A n cap, .int .i64 (most : Int)], .int .i64 70]) (by simp [results, Try.results15, go_sem, z0, z1]) rfl ⟨A, n, cap, by rw [HEE.out]; rfl, Lib.hid (by rw [HN0.out]; exact HX.out)⟩
    · have df : decide (most ≤ n) = false := by simp; omega
      have he : pushE most (ta, tb) s = 0 ∧ pushS most (ta, tb) s = ins (ta, tb) s := by
        unfold pushE pushS
        rw [if_neg hi, if_neg (by rw [HL.out]; exact hf), if_neg hi, if_neg (by rw [HL.out]; exact hf)]
        exact ⟨rfl, rfl⟩
      have HEE := Lib.hid he
      have hnm : n < most := by omega
      clear hb4 hb4b hk2 he hi hi2 HP hf HE1 q0 q1 r0 r1 f0 f1
      go_wp2_with fail
      have H0 : Hid (Below (n0 + 3) W3 w4 ∧ n0 + 3 ≤ w4.heap.size ∧ ∀ j, j < 0 → lt (at_ s j) (ta, tb) = true) := Lib.hid ⟨HB4.out, by have := HB4.out.size; have := HS3.out; omega, fun j hj => by omega⟩
      clear HK24 HB4 k0 k1
      go_loopw [7] (fun iv wr => ∃ i : Nat, i ≤ n ∧ iv = .int .i64 (i : Int) ∧ Hid (Below (n0 + 3) W3 wr ∧ n0 + 3 ≤ wr.heap.size ∧ ∀ j, j < i → lt (at_ s j) (ta, tb) = true)) (fun iv _ => n - (intOf iv).toNat)
      case atStart => exact ⟨0, by omega, rfl, H0⟩
      case round =>
        clear H0
        obtain ⟨i, hi, rfl, HR⟩ := hrel
        have HI := Lib.hid HR.out.2.2
        have HBX0 : Hid (Below (n0 + 3) W3 wr.drew ∧ n0 + 3 ≤ wr.drew.heap.size) := Lib.hid ⟨HR.out.1.drew, HR.out.2.1⟩
        have KF : ∀ W, Below (n0 + 3) W3 W → W.cell? ⟨n0, 0, none⟩ = some (.slice A n cap) ∧ W.cell? ⟨n0 + 1, 0, none⟩ = some (.int .i64 ta) ∧ W.cell? ⟨n0 + 1, 1, none⟩ = some (.int .i64 tb) := fun W hW => ⟨(HK0.out.same (hW.block _ (by omega))).cell 0 rfl, (HK1.out.same (hW.block _ (by omega))).cell 0 rfl, (HK1.out.same (hW.block _ (by omega))).cell 1 rfl⟩
        have HKF0 := Lib.hid KF
        clear KF
        by_cases hlt : i < n
        · have dl : decide (i < n) = true := by simp; omega
          obtain ⟨g, rfl, hg, hgb, hc⟩ := HD.out.cells (by omega)
          obtain ⟨c0, c1⟩ := hc i hlt
          obtain ⟨⟨xa, xb⟩, hx⟩ : ∃ x, at_ s i = x := ⟨_, rfl⟩
          rw [hx] at c0 c1
          simp only at c0 c1
          have HC : Hid (∀ W, Below (n0 + 3) W3 W → W.cell? ⟨g, i * 2, none⟩ = some (.int .i64 xa) ∧ W.cell? ⟨g, i * 2 + 1, none⟩ = some (.int .i64 xb)) := Lib.hid fun W hW => by
            have hb : Below n0 w W := HB.out.trans (hW.mono (by omega))
            exact ⟨(hb.cell (p := ⟨g, i * 2, none⟩) (HN0.out ▸ hg)).trans c0, (hb.cell (p := ⟨g, i * 2 + 1, none⟩) (HN0.out ▸ hg)).trans c1⟩
          have hLs := fun W => refLess_any (xa, xb) (ta, tb) W
          obtain ⟨b, hb⟩ : ∃ b, lt (xa, xb) (ta, tb) = b := ⟨_, rfl⟩
          rw [hb] at hLs
          simp only at hLs
          have HLS := Lib.hid hLs
          have HX := Lib.hid (show lt (at_ s i) (ta, tb) = b by rw [hx]; exact hb)
          clear hc c0 c1 hx hb hLs hg hgb HR
          go_wp2_with fail
          refine wp_region_held_drew (S := fun W => Below (n0 + 3) W3 W ∧ n0 + 3 ≤ W.heap.size) (by kernel_rfl) ?_ (fun hHeld => ?_)
          · exact HBX0.out
          refine wpAnyH_take (i := 0) (v := ?_) rfl (by kernel_rfl) (by kernel_rfl) (by kernel_rfl) (fun _ _ _ h => h) (Or.inl ⟨by rfl, ?_⟩) (by assumption) ?_
          rotate_left
          · intro wq hSw; (try dsimp only at hSw); go_simp; (try with_reducible rfl)
          simp only [Act.put, List.getElem_toArray, List.getElem_cons_succ, List.getElem_cons_zero, List.setIfInBounds_toArray, List.set_cons_zero, List.set_cons_succ]
          refine wpAnyH_take (i := 1) (v := ?_) rfl (by kernel_rfl) (by kernel_rfl) (by kernel_rfl) (fun _ _ _ h => h) (Or.inl ⟨by rfl, ?_⟩) (by assumption) ?_
          rotate_left
          · intro wq hSw; (try dsimp only at hSw); go_simp; (try with_reducible rfl)
          simp only [Act.put, List.getElem_toArray, List.getElem_cons_succ, List.getElem_cons_zero, List.setIfInBounds_toArray, List.set_cons_zero, List.set_cons_succ]
          refine wpAnyH_take (i := 2) (v := ?_) rfl (by kernel_rfl) (by kernel_rfl) (by kernel_rfl) (fun _ _ _ h => h) (Or.inl ⟨by rfl, ?_⟩) (by assumption) ?_
          rotate_left
          · intro wq hSw; (try dsimp only at hSw); obtain ⟨u0, u1, u2⟩ := HKF0.out _ hSw.1; go_simp; (try with_reducible rfl)
          simp only [Act.put, List.getElem_toArray, List.getElem_cons_succ, List.getElem_cons_zero, List.setIfInBounds_toArray, List.set_cons_zero, List.set_cons_succ]
          refine wpAnyH_take (i := 3) (v := ?_) rfl (by kernel_rfl) (by kernel_rfl) (by kernel_rfl) (fun _ _ _ h => h) (Or.inl ⟨by rfl, ?_⟩) (by assumption) ?_
          rotate_left
          · intro wq hSw; (try dsimp only at hSw); go_simp; (try with_reducible rfl)
          simp only [Act.put, List.getElem_toArray, List.getElem_cons_succ, List.getElem_cons_zero, List.setIfInBounds_toArray, List.set_cons_zero, List.set_cons_succ]
          refine wpAnyH_take (i := 4) (v := ?_) rfl (by kernel_rfl) (by kernel_rfl) (by kernel_rfl) (fun _ _ _ h => h) (Or.inl ⟨by rfl, ?_⟩) (by assumption) ?_
          rotate_left
          · intro wq hSw; (try dsimp only at hSw); go_simp; (try with_reducible rfl)
          simp only [Act.put, List.getElem_toArray, List.getElem_cons_succ, List.getElem_cons_zero, List.setIfInBounds_toArray, List.set_cons_zero, List.set_cons_succ]
          refine wpAnyH_take (i := 5) (v := ?_) rfl (by kernel_rfl) (by kernel_rfl) (by kernel_rfl) (fun _ _ _ h => h) (Or.inl ⟨by rfl, ?_⟩) (by assumption) ?_
          rotate_left
          · intro wq hSw; (try dsimp only at hSw); go_simp; (try with_reducible rfl)
          simp only [Act.put, List.getElem_toArray, List.getElem_cons_succ, List.getElem_cons_zero, List.setIfInBounds_toArray, List.set_cons_zero, List.set_cons_succ]
          refine wpAnyH_take (i := 6) (v := ?_) rfl (by kernel_rfl) (by kernel_rfl) (by kernel_rfl) (fun _ _ _ h => h) (Or.inl ⟨by rfl, ?_⟩) (by assumption) ?_
          rotate_left
          · intro wq hSw; (try dsimp only at hSw); go_simp; (try with_reducible rfl)
          simp only [Act.put, List.getElem_toArray, List.getElem_cons_succ, List.getElem_cons_zero, List.setIfInBounds_toArray, List.set_cons_zero, List.set_cons_succ]
          refine wpAnyH_take (i := 7) (v := ?_) rfl (by kernel_rfl) (by kernel_rfl) (by kernel_rfl) (fun _ _ _ h => h) (Or.inl ⟨by rfl, ?_⟩) (by assumption) ?_
          rotate_left
          · intro wq hSw; (try dsimp only at hSw); obtain ⟨u0, u1, u2⟩ := HKF0.out _ hSw.1; go_simp; (try with_reducible rfl)
          simp only [Act.put, List.getElem_toArray, List.getElem_cons_succ, List.getElem_cons_zero, List.setIfInBounds_toArray, List.set_cons_zero, List.set_cons_succ]
          refine wpAnyH_take (i := 8) (v := ?_) rfl (by kernel_rfl) (by kernel_rfl) (by kernel_rfl) (fun _ _ _ h => h) (Or.inl ⟨by rfl, ?_⟩) (by assumption) ?_
          rotate_left
          · intro wq hSw; (try dsimp only at hSw); go_simp; (try with_reducible rfl)
          simp only [Act.put, List.getElem_toArray, List.getElem_cons_succ, List.getElem_cons_zero, List.setIfInBounds_toArray, List.set_cons_zero, List.set_cons_succ]
          refine wpAnyH_take (i := 9) (v := ?_) rfl (by kernel_rfl) (by kernel_rfl) (by kernel_rfl) (fun _ _ _ h => h) (Or.inl ⟨by rfl, ?_⟩) (by assumption) ?_
          rotate_left
          · intro wq hSw; (try dsimp only at hSw); go_simp; (try with_reducible rfl)
          simp only [Act.put, List.getElem_toArray, List.getElem_cons_succ, List.getElem_cons_zero, List.setIfInBounds_toArray, List.set_cons_zero, List.set_cons_succ]
          refine wpAnyH_take (i := 10) (v := ?_) rfl (by kernel_rfl) (by kernel_rfl) (by kernel_rfl) (fun _ _ _ h => h) (Or.inl ⟨by rfl, ?_⟩) (by assumption) ?_
          rotate_left
          · intro wq hSw; (try dsimp only at hSw); obtain ⟨u0, u1⟩ := HC.out _ hSw.1; go_simp; (try with_reducible rfl)
          simp only [Act.put, List.getElem_toArray, List.getElem_cons_succ, List.getElem_cons_zero, List.setIfInBounds_toArray, List.set_cons_zero, List.set_cons_succ]
          refine wpAnyH_take (i := 11) (v := ?_) rfl (by kernel_rfl) (by kernel_rfl) (by kernel_rfl) (fun _ _ _ h => h) (Or.inl ⟨by rfl, ?_⟩) (by assumption) ?_
          rotate_left
          · intro wq hSw; (try dsimp only at hSw); obtain ⟨u0, u1, u2⟩ := HKF0.out _ hSw.1; go_simp; (try with_reducible rfl)
          simp only [Act.put, List.getElem_toArray, List.getElem_cons_succ, List.getElem_cons_zero, List.setIfInBounds_toArray, List.set_cons_zero, List.set_cons_succ]
          refine wpAnyH_ready (rs := [12]) (by kernel_rfl) (by simp) ?_
          refine AllReadyH.cons rfl (fun K hK => ?_) AllReadyH.nil
          go_simp
          refine (HLS.out _).mono ?_
          rintro e w5 ⟨rfl, hbl⟩
          have hb5 : Below (n0 + 3) W3 w5 ∧ n0 + 3 ≤ w5.heap.size := ⟨HBX0.out.1.trans (hbl.mono HBX0.out.2), Nat.le_trans HBX0.out.2 hbl.size⟩
          (try go_wp2_with fail)
          refine hK.out _ _ ?_ (fun hHeld => ?_)
          · exact hb5
          clear hK K
          try simp only [Act.put, List.getElem_toArray, List.getElem_cons_succ, List.getElem_cons_zero, List.setIfInBounds_toArray, List.set_cons_zero, List.set_cons_succ]
          refine wpAnyH_take (i := 13) (v := ?_) rfl (by kernel_rfl) (by kernel_rfl) (by kernel_rfl) (fun _ _ _ h => h) (Or.inl ⟨by rfl, ?_⟩) (by assumption) ?_
          rotate_left
          · intro wq hSw; (try dsimp only at hSw); go_simp; (try with_reducible rfl)
          simp only [Act.put, List.getElem_toArray, List.getElem_cons_succ, List.getElem_cons_zero, List.setIfInBounds_toArray, List.set_cons_zero, List.set_cons_succ]
          refine wpAnyH_done (by kernel_rfl) ?_ _
          clear hHeld
          have HBX := Lib.hid hb5
          clear hb5 hbl HBX0
          cases b with
          | true =>
            go_wp2_with fail
            go_roundw
            case rel => exact ⟨i + 1, by omega, by go_num, Lib.hid ⟨HBX.out.1, HBX.out.2, fun j hj => by
              by_cases q : j = i
              · rw [q]; exact HX.out
              · exact HI.out j (by omega)⟩⟩
            case measure => simp [intOf]; omega
          | false =>
            have HSTOP : Hid (i < n → lt (at_ s i) (ta, tb) = false) := Lib.hid fun _ => HX.out
            have hcnt : i = cnt (ta, tb) s := cnt_of (by rw [HL.out]; omega) HI.out (by rw [HL.out]; exact HSTOP.out)
            obtain ⟨hrd1, A2, hcut, hA2, hrd2⟩ := HD.out.wide (HN0.out ▸ HB.out.trans (HBX.out.1.mono (by omega))) i (by omega)
            have hAi : (some ⟨g, 0, none⟩ : Option Addr) = none → cap = 0 ∧ i = 0 := fun h => ⟨HD.out.nil_ h, by have := HD.out.nil_ h; have := HD.out.cap_.1; omega⟩
            have HRD1 := Lib.hid hrd1
            have HRD2 := Lib.hid (show ∀ W, Below (n0 + 3) W3 W → Rd W A2 (n - i) (s.drop i) from fun W hW => hrd2 W (HN0.out ▸ HB.out.trans (hW.mono (by omega))))
            have HAI := Lib.hid hAi
            have HA2 := Lib.hid hA2
            have HCNT := Lib.hid hcnt
            have HKF : Hid (∀ W, Below (n0 + 3) W3 W → W.cell? ⟨n0, 0, none⟩ = some (.slice (some ⟨g, 0, none⟩) n cap) ∧ W.cell? ⟨n0, 1, none⟩ = some (.int .i64 (most : Int)) ∧ W.cell? ⟨n0 + 1, 0, none⟩ = some (.int .i64 ta) ∧ W.cell? ⟨n0 + 1, 1, none⟩ = some (.int .i64 tb)) := Lib.hid fun W hW => ⟨(HK0.out.same (hW.block _ (by omega))).cell 0 rfl, (HK0.out.same (hW.block _ (by omega))).cell 1 rfl, (HK1.out.same (hW.block _ (by omega))).cell 0 rfl, (HK1.out.same (hW.block _ (by omega))).cell 1 rfl⟩
            obtain ⟨x0, _, _, _⟩ := HKF.out _ HBX.out.1
            clear hrd1 hrd2 hAi hA2 hcnt
            go_wp2_with (first
              | (at_builtin; refine app_tms rfl (.tmp 37) (.tmp 41) rfl (n0 + 3) none (some ⟨g, 0, none⟩) 0 0 i cap i (Nat.zero_add _) [] (s.take i) rfl (World.ownsRow_nil _ _ _ _) rfl HRD1.out HAI.out (by omega) HBX.out.2 ?_; intro A1 cap1 w6 hown6 hgr6 hl6; have hb6 := grown_below HBX.out.1 HBX.out.2 hgr6 (fun g hg => by simp [Value.ownBlock] at hg); have HB6 := Lib.hid hb6; have HO6 := Lib.hid hown6; obtain ⟨n6, hn6⟩ : ∃ n6, w6.heap.size = n6 := ⟨_, rfl⟩; obtain ⟨y0, y1, y2, y3⟩ := HKF.out _ hb6.1; clear hb6 hown6 hgr6 hl6)
              | (at_builtin; refine app_tms rfl (.tmp 43) (.tmp 45) rfl (n0 + 3) A1 (some ⟨n6, 0, none⟩) i cap1 1 1 (i + 1) rfl ([] ++ s.take i) [(ta, tb)] rfl (HO6.out.alloc _) rfl (rd_one w6 n6 hn6 ta tb) (fun h => by cases h) (by omega) (by rw [World.size_alloc]; have := HB6.out.2; omega) ?_; intro A7 cap7 w7 hown7 hgr7 hl7; have hb7 := grown_below (HB6.out.1.alloc HB6.out.2 _) (by rw [World.size_alloc]; have := HB6.out.2; omega) hgr7 (fun g hg => (HO6.out.lt g hg).1); have HB7 := Lib.hid hb7; have HO7 := Lib.hid hown7; obtain ⟨z0, z1, _, _⟩ := HKF.out _ hb7.1; clear hb7 hown7 hgr7 hl7 hn6 y0 y1 y2 y3)
              | (at_builtin; refine app_tms rfl (.tmp 47) (.tmp 51) rfl (n0 + 3) A7 A2 (i + 1) cap7 (n - i) (cap - i) (n + 1) (by omega) (([] ++ s.take i) ++ [(ta, tb)]) (s.drop i) rfl HO7.out rfl (HRD2.out _ HB7.out.1) HA2.out (by omega) HB7.out.2 ?_; intro A8 cap8 w8 hown8 hgr8 hl8; have hb8 := grown_below HB7.out.1 HB7.out.2 hgr8 (fun g hg => (HO7.out.lt g hg).1); have HB8 := Lib.hid hb8; have HO8 := Lib.hid hown8; obtain ⟨_, p1, _, _⟩ := HKF.out _ hb8.1; have hk8 := HK2.out.same (hb8.1.block _ (by omega)); have r0 := hk8.cell 0 rfl; have r1 := hk8.cell 1 rfl; have f0 := hk8.free 0; have f1 := hk8.free 1; have HK8 := Lib.hid hk8; clear hb8 hown8 hgr8 hl8 z0 z1 hk8))
            have q0 := ((HK8.out.set 0 (.slice A8 (n + 1) cap8)).set 1 (.int .i64 (most : Int))).cell 0 rfl
            have q1 := ((HK8.out.set 0 (.slice A8 (n + 1) cap8)).set 1 (.int .i64 (most : Int))).cell 1 rfl
            refine bodyPost_ret (v := .tuple #[.agg #[.slice A8 (n + 1) cap8, .int .i64 (most : Int)], .int .i64 0]) (by simp [results, Try.results15, go_sem, q0, q1]) rfl ⟨A8, n + 1, cap8, by rw [HEE.out.1]; rfl, Lib.hid ?_⟩
            exact push_doc HN0.out HB.out HB8.out HO8.out HL.out HCNT.out HEE.out.2 (by omega) HBS.out
        · have HIN := Lib.hid (show i = n by omega)
          have dl : decide (i < n) = false := by simp; omega
          obtain ⟨u0, _, _⟩ := HKF0.out _ HR.out.1
          have HBX1 : Hid (∀ nq, Below (n0 + 3) W3 (wr.drewN nq) ∧ n0 + 3 ≤ (wr.drewN nq).heap.size) := Lib.hid fun nq => ⟨Below.drewN' HR.out.1 nq, HR.out.2.1⟩
          clear HR HBX0 hlt
          go_wp2_with fail
          go_quiet (fail)
          have HBX := Lib.hid (HBX1.out nq)
          clear HBX1 u0
          generalize wr.drewN nq = wx at HBX ⊢
          have HSTOP : Hid (i < n → lt (at_ s i) (ta, tb) = false) := Lib.hid fun h => by have := HIN.out; omega
          have hcnt : i = cnt (ta, tb) s := cnt_of (by rw [HL.out]; omega) HI.out (by rw [HL.out]; exact HSTOP.out)
          obtain ⟨hrd1, A2, hcut, hA2, hrd2⟩ := HD.out.wide (HN0.out ▸ HB.out.trans (HBX.out.1.mono (by omega))) i (by omega)
          have hAi : A = none → cap = 0 ∧ i = 0 := fun h => ⟨HD.out.nil_ h, by have := HD.out.nil_ h; have := HD.out.cap_.1; omega⟩
          have HRD1 := Lib.hid hrd1
          have HRD2 := Lib.hid (show ∀ W, Below (n0 + 3) W3 W → Rd W A2 (n - i) (s.drop i) from fun W hW => hrd2 W (HN0.out ▸ HB.out.trans (hW.mono (by omega))))
          have HAI := Lib.hid hAi
          have HA2 := Lib.hid hA2
          have HCNT := Lib.hid hcnt
          have HKF : Hid (∀ W, Below (n0 + 3) W3 W → W.cell? ⟨n0, 0, none⟩ = some (.slice A n cap) ∧ W.cell? ⟨n0, 1, none⟩ = some (.int .i64 (most : Int)) ∧ W.cell? ⟨n0 + 1, 0, none⟩ = some (.int .i64 ta) ∧ W.cell? ⟨n0 + 1, 1, none⟩ = some (.int .i64 tb)) := Lib.hid fun W hW => ⟨(HK0.out.same (hW.block _ (by omega))).cell 0 rfl, (HK0.out.same (hW.block _ (by omega))).cell 1 rfl, (HK1.out.same (hW.block _ (by omega))).cell 0 rfl, (HK1.out.same (hW.block _ (by omega))).cell 1 rfl⟩
          obtain ⟨x0, _, _, _⟩ := HKF.out _ HBX.out.1
          clear hrd1 hrd2 hAi hA2 hcnt
          go_wp2_with (first
            | (at_builtin; refine app_tms rfl (.tmp 37) (.tmp 41) rfl (n0 + 3) none A 0 0 i cap i (Nat.zero_add _) [] (s.take i) rfl (World.ownsRow_nil _ _ _ _) rfl HRD1.out HAI.out (by omega) HBX.out.2 ?_; intro A1 cap1 w6 hown6 hgr6 hl6; have hb6 := grown_below HBX.out.1 HBX.out.2 hgr6 (fun g hg => by simp [Value.ownBlock] at hg); have HB6 := Lib.hid hb6; have HO6 := Lib.hid hown6; obtain ⟨n6, hn6⟩ : ∃ n6, w6.heap.size = n6 := ⟨_, rfl⟩; obtain ⟨y0, y1, y2, y3⟩ := HKF.out _ hb6.1; clear hb6 hown6 hgr6 hl6)
            | (at_builtin; refine app_tms rfl (.tmp 43) (.tmp 45) rfl (n0 + 3) A1 (some ⟨n6, 0, none⟩) i cap1 1 1 (i + 1) rfl ([] ++ s.take i) [(ta, tb)] rfl (HO6.out.alloc _) rfl (rd_one w6 n6 hn6 ta tb) (fun h => by cases h) (by omega) (by rw [World.size_alloc]; have := HB6.out.2; omega) ?_; intro A7 cap7 w7 hown7 hgr7 hl7; have hb7 := grown_below (HB6.out.1.alloc HB6.out.2 _) (by rw [World.size_alloc]; have := HB6.out.2; omega) hgr7 (fun g hg => (HO6.out.lt g hg).1); have HB7 := Lib.hid hb7; have HO7 := Lib.hid hown7; obtain ⟨z0, z1, _, _⟩ := HKF.out _ hb7.1; clear hb7 hown7 hgr7 hl7 hn6 y0 y1 y2 y3)
            | (at_builtin; refine app_tms rfl (.tmp 47) (.tmp 51) rfl (n0 + 3) A7 A2 (i + 1) cap7 (n - i) (cap - i) (n + 1) (by omega) (([] ++ s.take i) ++ [(ta, tb)]) (s.drop i) rfl HO7.out rfl (HRD2.out _ HB7.out.1) HA2.out (by omega) HB7.out.2 ?_; intro A8 cap8 w8 hown8 hgr8 hl8; have hb8 := grown_below HB7.out.1 HB7.out.2 hgr8 (fun g hg => (HO7.out.lt g hg).1); have HB8 := Lib.hid hb8; have HO8 := Lib.hid hown8; obtain ⟨_, p1, _, _⟩ := HKF.out _ hb8.1; have hk8 := HK2.out.same (hb8.1.block _ (by omega)); have r0 := hk8.cell 0 rfl; have r1 := hk8.cell 1 rfl; have f0 := hk8.free 0; have f1 := hk8.free 1; have HK8 := Lib.hid hk8; clear hb8 hown8 hgr8 hl8 z0 z1 hk8))
          have q0 := ((HK8.out.set 0 (.slice A8 (n + 1) cap8)).set 1 (.int .i64 (most : Int))).cell 0 rfl
          have q1 := ((HK8.out.set 0 (.slice A8 (n + 1) cap8)).set 1 (.int .i64 (most : Int))).cell 1 rfl
          refine bodyPost_ret (v := .tuple #[.agg #[.slice A8 (n + 1) cap8, .int .i64 (most : Int)], .int .i64 0]) (by simp [results, Try.results15, go_sem, q0, q1]) rfl ⟨A8, n + 1, cap8, by rw [HEE.out.1]; rfl, Lib.hid ?_⟩
          exact push_doc HN0.out HB.out HB8.out HO8.out HL.out HCNT.out HEE.out.2 (by omega) HBS.out
end Go.Proofs.Ytlbopajnnbnolaa
