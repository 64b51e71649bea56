/-
  What put does.
-/
import Derived.Test.YthpcnnkdpgjiiaaTlPut
namespace Go.Proofs.Ythpcnnkdpgjiiaa
open Go.RowKit Go.Maps Go.Proofs.HeapMath Go.Proofs.TailMath

theorem zero_ptr (w : World) : (zeroValue 114).run Try.prog w = .ok (.pointer none) w := by kernel_rfl
theorem nums_yes {W : World} {N : Nat} {L : List Gr} (h : Am W 83 (plainElem Try.prog 3) N (nE L)) {g : Gr} (hg : g ∈ L) (h1 : u64 g.hi) (h2 : u64 g.lo) :
    (Instr.lookup 74 (.map (some N)) (.agg #[.int .u64 (g.hi : Int), .int .u64 (g.lo : Int)]) true).run Try.prog W = .ok (.tuple #[.int .i64 (g.no : Int), .bool true]) W :=
  (h.look (rd_int Try.underlying3) law_tr Try.underlying74 zero_int (plainElem_int (a := 0) Try.underlying3 (by decide)) (key_tr h1 h2) 0).1 _ (List.mem_map.2 ⟨g, hg, rfl⟩)
theorem nums_no {W : World} {N : Nat} {L : List Gr} (h : Am W 83 (plainElem Try.prog 3) N (nE L)) {hi lo : Nat} (hu : ∀ g ∈ L, u64 g.hi ∧ u64 g.lo) (h1 : u64 hi) (h2 : u64 lo) (hn : isNew hi lo L = true) :
    (Instr.lookup 74 (.map (some N)) (.agg #[.int .u64 (hi : Int), .int .u64 (lo : Int)]) true).run Try.prog W = .ok (.tuple #[.int .i64 0, .bool false]) W :=
  (h.look (rd_int Try.underlying3) law_tr Try.underlying74 zero_int (plainElem_int (a := 0) Try.underlying3 (by decide)) (key_tr h1 h2) 0).2 (nE_no hu h1 h2 hn)
theorem grp_yes {W : World} {M : Nat} {G : List Ge} (h : Am W 3 ptrElem M (gE G)) {x : Ge} (hx : x ∈ G) (h1 : x.g.no ≤ 1000000000) :
    (Instr.lookup 75 (.map (some M)) (.int .i64 (x.g.no : Int)) false).run Try.prog W = .ok (.pointer (some ⟨x.p, 0, none⟩)) W :=
  h.look1 rd_ptr law_int Try.underlying75 zero_ptr (zd := .lit (.int .i64 (-1))) (zp := []) rfl (key_int (by omega) (by omega)) 0 _ (List.mem_map.2 ⟨x, hx, rfl⟩)

set_option linter.unusedSimpArgs false in
set_option maxRecDepth 100000 in
set_option maxHeartbeats 2000000 in
theorem put_any {bs : List Nat} {S : Nat} {b : St} (s : Sp) (w : World) (h : Tb w bs S b) (h1 : u64 s.hi) (h2 : u64 s.lo) (hroom : tot b.L < b.sp) (hcame : b.came ≤ 1000000000) :
    Calls Try.prog 28 #[.pointer (some ⟨S, 3, none⟩), spV s, .int .i64 ((b.time + b.wait : Nat) : Int)] w fun e w' => e = .returned (.tuple #[]) ∧ TbTo w bs S (offered b s) w' := by
  have hbl := h.lt
  obtain ⟨T, N, M, H, v, hbs, G, hbf, hiv, hbs0⟩ := h
  obtain ⟨n0, hn0⟩ : ∃ n0, w.heap.size = n0 := ⟨_, rfl⟩
  obtain ⟨due, hdue⟩ : ∃ d, b.time + b.wait = d := ⟨_, rfl⟩
  have hb1 := blk_new w (spA s) 35
  have hB : Below w.heap.size w (w.alloc (.cells (spA s) 35)) := box_below _
  have hsz1 : (w.alloc (.cells (spA s) 35)).heap.size = n0 + 1 := by rw [World.size_alloc, hn0]
  obtain ⟨w1, hw1⟩ : ∃ w1, w.alloc (.cells (spA s) 35) = w1 := ⟨_, rfl⟩
  rw [hw1] at hb1 hB hsz1
  have hf1 := hbf.later hB
  have hto := traceOf_any s
  rw [hn0] at hb1 hB hbl
  have HW1 := Lib.hid (show Mut [] w w1 ∧ w1.heap.size = n0 + 1 ∧ Blk w1 n0 (spA s) 35 ∧ Bf w1 S T N M H v hbs G b (tms b.L) from ⟨⟨hB.os, hB.tape, hB.output, hB.size, fun k hk _ => hB.block k (hn0 ▸ hk)⟩, hsz1, hb1, hf1⟩)
  have HI := Lib.hid (show Iv b ∧ tot b.L < b.sp ∧ b.came ≤ 1000000000 ∧ u64 s.hi ∧ u64 s.lo ∧ bs = core S T N M v G ++ hbs ∧ (∀ k ∈ bs, k < n0) ∧ w.heap.size = n0 ∧ b.time + b.wait = due from ⟨hiv, hroom, hcame, h1, h2, hbs0, hbl, hn0, hdue⟩)
  have HT := Lib.hid hto
  obtain ⟨r, hr⟩ : ∃ r, isNew s.hi s.lo b.L = r := ⟨_, rfl⟩
  have HR := Lib.hid hr
  rw [hdue]
  -- what is found
  obtain ⟨no, hno⟩ : ∃ no : Int, ∀ W, Below (n0 + 1) w1 W → (Instr.lookup 74 (.map (some N)) (.agg #[.int .u64 (s.hi : Int), .int .u64 (s.lo : Int)]) true).run Try.prog W = .ok (.tuple #[.int .i64 no, .bool (!r)]) W ∧ (r = false → ∀ g ∈ b.L, g.hi = s.hi → g.lo = s.lo → no = (g.no : Int)) := by
    cases r with
    | true =>
      refine ⟨0, fun W hW => ⟨nums_no (hf1.later (hsz1 ▸ hW)).nums (fun g hg => ⟨(hiv.L.ok g hg).2.2.1, (hiv.L.ok g hg).2.2.2.1⟩) h1 h2 hr, fun e => by cases e⟩⟩
    | false =>
      obtain ⟨la, g, lc, hL, e1, e2⟩ := isNew_false hr
      have hm : g ∈ b.L := by rw [hL]; simp
      have hrun : ∀ W, Below (n0 + 1) w1 W → ∀ g' ∈ b.L, g'.hi = s.hi → g'.lo = s.lo → (Instr.lookup 74 (.map (some N)) (.agg #[.int .u64 (s.hi : Int), .int .u64 (s.lo : Int)]) true).run Try.prog W = .ok (.tuple #[.int .i64 (g'.no : Int), .bool true]) W := fun W hW g' hg' h3 h4 => by
        have := nums_yes (hf1.later (hsz1 ▸ hW)).nums hg' (by rw [h3]; exact h1) (by rw [h4]; exact h2)
        rw [h3, h4] at this
        exact this
      refine ⟨(g.no : Int), fun W hW => ⟨hrun W hW g hm e1 e2, fun _ g' hg' h3 h4 => ?_⟩⟩
      have ha := hrun W hW g hm e1 e2
      rw [hrun W hW g' hg' h3 h4] at ha
      injection ha with ha
      simp at ha
      omega
  have HNO := Lib.hid hno
  have hcel : ∀ W, Below (n0 + 1) w1 W → W.cell? ⟨S, 6, none⟩ = some (.map (some N)) ∧ Blk W n0 (spA s) 35 := fun W hW => ⟨(hf1.later (hsz1 ▸ hW)).blk.cell 6 rfl, hb1.later (hsz1 ▸ hW)⟩
  have HC := Lib.hid hcel
  have hBd : Below (n0 + 1) w1 w1.drew := Mut.below (Mut.refl [] _).drew (by rw [hsz1]; exact Nat.le_refl _) (by simp)
  clear hbl hbf hiv hbs0 hb1 hB hsz1 hf1 hto h1 h2 hroom hcame hr hno hcel hdue
  have hcells : ∀ W, Blk W n0 (spA s) 35 → W.cell? ⟨n0, 0, none⟩ = some (.int .u64 (s.hi : Int)) ∧ W.cell? ⟨n0, 1, none⟩ = some (.int .u64 (s.lo : Int)) ∧ W.cell? ⟨n0, 2, none⟩ = some (.int .u64 (s.id : Int)) ∧ W.cell? ⟨n0, 3, none⟩ = some (.int .u64 (s.parent : Int)) ∧ W.cell? ⟨n0, 4, none⟩ = some (.string s.name) ∧ W.cell? ⟨n0, 5, none⟩ = some (.int .i64 s.start) ∧ W.cell? ⟨n0, 6, none⟩ = some (.int .i64 s.stop) ∧ W.cell? ⟨n0, 7, none⟩ = some (.bool s.bad) ∧ W.cell? ⟨n0, 8, none⟩ = some (.slice none 0 0) ∧ W.cell? ⟨n0, 9, none⟩ = some (.int .u64 (s.rv : Int)) := fun W hW => ⟨hW.cell 0 rfl, hW.cell 1 rfl, hW.cell 2 rfl, hW.cell 3 rfl, hW.cell 4 rfl, hW.cell 5 rfl, hW.cell 6 rfl, hW.cell 7 rfl, hW.cell 8 rfl, hW.cell 9 rfl⟩
  have HCE := Lib.hid hcells
  clear hcells
  unfold spA at hw1
  unfold spV at *
  go_enter Try.func28, Try.ntmps28
  go_wp2_with fail
  refine wp_region_held_drew (S := fun W => Below (n0 + 1) w1 W) (by kernel_rfl) ?_ (fun hHeld => ?_)
  · exact hBd
  refine wpAnyH_take (i := 0) (v := ?_) rfl (by kernel_rfl) (by kernel_rfl) (by kernel_rfl) (fun _ _ _ h => h) (Or.inl ⟨by rfl, ?_⟩) (by assumption) ?_
  rotate_left
  · intro wq hSw; (try dsimp only at hSw); go_simp; (try with_reducible rfl)
  simp only [Act.put, List.getElem_toArray, List.getElem_cons_succ, List.getElem_cons_zero, List.setIfInBounds_toArray, List.set_cons_zero, List.set_cons_succ]
  refine wpAnyH_take (i := 1) (v := ?_) rfl (by kernel_rfl) (by kernel_rfl) (by kernel_rfl) (fun _ _ _ h => h) (Or.inl ⟨by rfl, ?_⟩) (by assumption) ?_
  rotate_left
  · intro wq hSw; (try dsimp only at hSw); go_simp; (try with_reducible rfl)
  simp only [Act.put, List.getElem_toArray, List.getElem_cons_succ, List.getElem_cons_zero, List.setIfInBounds_toArray, List.set_cons_zero, List.set_cons_succ]
  refine wpAnyH_take (i := 2) (v := ?_) rfl (by kernel_rfl) (by kernel_rfl) (by kernel_rfl) (fun _ _ _ h => h) (Or.inl ⟨by rfl, ?_⟩) (by assumption) ?_
  rotate_left
  · intro wq hSw; (try dsimp only at hSw); go_simp; (try with_reducible rfl)
  simp only [Act.put, List.getElem_toArray, List.getElem_cons_succ, List.getElem_cons_zero, List.setIfInBounds_toArray, List.set_cons_zero, List.set_cons_succ]
  refine wpAnyH_take (i := 3) (v := ?_) rfl (by kernel_rfl) (by kernel_rfl) (by kernel_rfl) (fun _ _ _ h => h) (Or.inl ⟨by rfl, ?_⟩) (by assumption) ?_
  rotate_left
  · intro wq hSw; (try dsimp only at hSw); have q0 := (HC.out _ hSw).1; go_simp; (try with_reducible rfl)
  simp only [Act.put, List.getElem_toArray, List.getElem_cons_succ, List.getElem_cons_zero, List.setIfInBounds_toArray, List.set_cons_zero, List.set_cons_succ]
  refine wpAnyH_take (i := 4) (v := ?_) rfl (by kernel_rfl) (by kernel_rfl) (by kernel_rfl) (fun _ _ _ h => h) (Or.inl ⟨by rfl, ?_⟩) (by assumption) ?_
  rotate_left
  · intro wq hSw; (try dsimp only at hSw); obtain ⟨q0, q1, q2, q3, q4, q5, q6, q7, q8, q9⟩ := HCE.out _ (HC.out _ hSw).2; go_simp; (try with_reducible rfl)
  simp only [Act.put, List.getElem_toArray, List.getElem_cons_succ, List.getElem_cons_zero, List.setIfInBounds_toArray, List.set_cons_zero, List.set_cons_succ]
  refine wpAnyH_ready (rs := [5]) (by kernel_rfl) (by simp) ?_
  refine AllReadyH.cons rfl (fun K hK => ?_) AllReadyH.nil
  go_simp
  refine (HT.out _).mono ?_
  rintro e w5 ⟨rfl, hb5'⟩
  have hb5 : Below (n0 + 1) w1 w5 := hHeld.trans (hb5'.mono (Nat.le_trans (by rw [HW1.out.2.1]; exact Nat.le_refl _) hHeld.size))
  (try go_wp2_with fail)
  refine hK.out _ _ ?_ (fun hHeld => ?_)
  · exact hb5
  clear hK K
  try simp only [Act.put, List.getElem_toArray, List.getElem_cons_succ, List.getElem_cons_zero, List.setIfInBounds_toArray, List.set_cons_zero, List.set_cons_succ]
  refine wpAnyH_take (i := 6) (v := ?_) rfl (by kernel_rfl) (by kernel_rfl) (by kernel_rfl) (fun _ _ _ h => h) (Or.inl ⟨by rfl, ?_⟩) (by assumption) ?_
  rotate_left
  · intro wq hSw; (try dsimp only at hSw); have q0 := (HNO.out _ hSw).1; go_simp; (try with_reducible rfl)
  simp only [Act.put, List.getElem_toArray, List.getElem_cons_succ, List.getElem_cons_zero, List.setIfInBounds_toArray, List.set_cons_zero, List.set_cons_succ]
  refine wpAnyH_take (i := 7) (v := ?_) rfl (by kernel_rfl) (by kernel_rfl) (by kernel_rfl) (fun _ _ _ h => h) (Or.inl ⟨by rfl, ?_⟩) (by assumption) ?_
  rotate_left
  · intro wq hSw; (try dsimp only at hSw); go_simp; (try with_reducible rfl)
  simp only [Act.put, List.getElem_toArray, List.getElem_cons_succ, List.getElem_cons_zero, List.setIfInBounds_toArray, List.set_cons_zero, List.set_cons_succ]
  refine wpAnyH_take (i := 8) (v := ?_) rfl (by kernel_rfl) (by kernel_rfl) (by kernel_rfl) (fun _ _ _ h => h) (Or.inl ⟨by rfl, ?_⟩) (by assumption) ?_
  rotate_left
  · intro wq hSw; (try dsimp only at hSw); go_simp; (try with_reducible rfl)
  simp only [Act.put, List.getElem_toArray, List.getElem_cons_succ, List.getElem_cons_zero, List.setIfInBounds_toArray, List.set_cons_zero, List.set_cons_succ]
  refine wpAnyH_take (i := 9) (v := ?_) rfl (by kernel_rfl) (by kernel_rfl) (by kernel_rfl) (fun _ _ _ h => h) (Or.inl ⟨by rfl, ?_⟩) (by assumption) ?_
  rotate_left
  · intro wq hSw; (try dsimp only at hSw); go_simp; (try with_reducible rfl)
  simp only [Act.put, List.getElem_toArray, List.getElem_cons_succ, List.getElem_cons_zero, List.setIfInBounds_toArray, List.set_cons_zero, List.set_cons_succ]
  refine wpAnyH_take (i := 10) (v := ?_) rfl (by kernel_rfl) (by kernel_rfl) (by kernel_rfl) (fun _ _ _ h => h) (Or.inl ⟨by rfl, ?_⟩) (by assumption) ?_
  rotate_left
  · intro wq hSw; (try dsimp only at hSw); go_simp; (try with_reducible rfl)
  simp only [Act.put, List.getElem_toArray, List.getElem_cons_succ, List.getElem_cons_zero, List.setIfInBounds_toArray, List.set_cons_zero, List.set_cons_succ]
  refine wpAnyH_take (i := 11) (v := ?_) rfl (by kernel_rfl) (by kernel_rfl) (by kernel_rfl) (fun _ _ _ h => h) (Or.inl ⟨by rfl, ?_⟩) (by assumption) ?_
  rotate_left
  · intro wq hSw; (try dsimp only at hSw); go_simp; (try with_reducible rfl)
  simp only [Act.put, List.getElem_toArray, List.getElem_cons_succ, List.getElem_cons_zero, List.setIfInBounds_toArray, List.set_cons_zero, List.set_cons_succ]
  refine wpAnyH_done (by kernel_rfl) ?_ _
  clear hHeld
  clear hw1
  go_upto_if 20 with fail
  go_cut [6] (fun s6 wx => ∃ hbs1 a c x b1, s6 = .int .i64 (x.g.no : Int) ∧ Hid (PuMid w bs n0 S T N M H v b s hbs1 a c x b1 wx))
  case first =>
    cases r with
    | false =>
      have hmid := pu_old (w := w) (bs := bs) (n0 := n0) (s := s) (HW1.out.2.2.2.later (HW1.out.2.1 ▸ hb5)) HI.out.1 HI.out.2.2.2.2.2.1 (HW1.out.1.trans (Mut.of_below (HW1.out.2.1 ▸ hb5))) HR.out HI.out.2.2.1 (HC.out _ hb5).2
      obtain ⟨a, c, x, hxm, hx1, hx2, hmid⟩ := hmid
      have hnox := (HNO.out _ hb5).2 rfl _ hxm hx1 hx2
      subst hnox
      have HMID := Lib.hid hmid
      clear hmid hxm hx1 hx2
      go_wp2_with fail
      go_meet
      exact ⟨hbs, a, c, x, b, rfl, HMID⟩
    | true =>
      obtain ⟨q0, q1, q2, q3, q4, q5, q6, q7, q8, q9⟩ := HCE.out _ (HC.out _ hb5).2
      have hbeg : ∀ W, Below (n0 + 1) w1 W → Calls Try.prog 39 #[.pointer (some ⟨S, 3, none⟩), .agg #[.int .u64 (s.hi : Int), .int .u64 (s.lo : Int)], .int .i64 (due : Int)] W fun e w' => e = .returned (.int .i64 (b.came : Int)) ∧ ∃ hbs1 a c x b1, x.g.no = b.came ∧ Hid (PuMid w bs n0 S T N M H v b s hbs1 a c x b1 w') := fun W hW => by
        have hp := begin_any s.hi s.lo W (HW1.out.2.2.2.later (HW1.out.2.1 ▸ hW)) HI.out.1 HI.out.2.2.2.1 HI.out.2.2.2.2.1 HR.out HI.out.2.1 HI.out.2.2.1
        rw [HI.out.2.2.2.2.2.2.2.2] at hp
        refine hp.mono fun e w' ⟨x1, x2⟩ => ⟨x1, ?_⟩
        obtain ⟨hbs1, a, c, x, b1, y1, y2⟩ := pu_new (w := w) HI.out.2.2.2.2.2.1 (by have := hW.size; rw [HW1.out.2.1] at this; omega) (HW1.out.1.trans (Mut.of_below (HW1.out.2.1 ▸ hW))) HR.out HI.out.2.2.1 x2 (HC.out _ hW).2 HI.out.2.2.2.2.2.2.1
        exact ⟨hbs1, a, c, x, b1, y1, Lib.hid y2⟩
      have HBEG := Lib.hid hbeg
      clear hbeg
      go_wp2_with fail
      refine (HT.out _).mono ?_
      rintro e w6 ⟨rfl, hb6⟩
      have hb6' : Below (n0 + 1) w1 w6 := hb5.trans (hb6.mono (Nat.le_trans (by rw [HW1.out.2.1]; exact Nat.le_refl _) hb5.size))
      have HC6 := Lib.hid (HBEG.out w6 hb6')
      clear hb6 hb6' q0 q1 q2 q3 q4 q5 q6 q7 q8 q9
      go_wp2_with fail
      refine HC6.out.mono ?_
      rintro e w7 ⟨rfl, hbs1, a, c, x, b1, hxn, HMID⟩
      have HXN := Lib.hid hxn
      clear hxn
      go_wp2_with fail
      go_meet
      exact ⟨hbs1, a, c, x, b1, by rw [HXN.out], HMID⟩
  case rest =>
    obtain ⟨hbs1, a, c, x, b1, rfl, HM⟩ := hcut
    clear hHeld hb5 hb5' hBd
    have hk8 := (HCE.out _ HM.out.box).2.2.2.2.2.2.2.2.1
    have hf8 := HM.out.box.free 8
    have hnin : ∀ k ∈ core S T N M v (a ++ x :: c) ++ hbs1, k ≠ n0 := fun k hk e => by rcases HM.out.in_ k hk with h | h; have := HI.out.2.2.2.2.2.2.1 k h; omega; omega
    have hm7 : Mut [n0] wc (wc.setCell ⟨n0, 8, none⟩ (.slice none 0 0)) := (Mut.refl [n0] wc).setCell (by simp) _
    have hbf7 := HM.out.bf.mut hm7 (fun k hk => by simpa using hnin k (by simp [hk])) (fun k hk => by simpa using hnin k (by simp [hk]))
    have hbx7 : Blk (wc.setCell ⟨n0, 8, none⟩ (.slice none 0 0)) n0 (spA s) 35 := HM.out.box.set 8 (.slice none 0 0)
    have HB7 := Lib.hid (show Bf (wc.setCell ⟨n0, 8, none⟩ (.slice none 0 0)) S T N M H v hbs1 (a ++ x :: c) b1 (tms b1.L) ∧ Blk (wc.setCell ⟨n0, 8, none⟩ (.slice none 0 0)) n0 (spA s) 35 ∧ Mut [n0] wc (wc.setCell ⟨n0, 8, none⟩ (.slice none 0 0)) from ⟨hbf7, hbx7, hm7⟩)
    have HNIN := Lib.hid hnin
    clear hm7 hbf7 hbx7 hnin
    go_wp2_with fail
    refine (cloneA_any _).mono ?_
    rintro e w' ⟨rfl, rfl⟩
    go_wp2_with fail
    refine (clipA_any _).mono ?_
    rintro e w' ⟨rfl, rfl⟩
    have hc7 : (wc.setCell ⟨n0, 8, none⟩ (.slice none 0 0)).cell? ⟨S, 7, none⟩ = some (.map (some M)) := HB7.out.1.blk.cell 7 rfl
    have hg7 := grp_yes HB7.out.1.grps (x := x) (by simp) HM.out.nos.1
    go_wp2_with fail
    clear hc7 hg7 hk8 hf8
    generalize wc.setCell ⟨n0, 8, none⟩ (.slice none 0 0) = w7 at HB7 ⊢
    have hgok := HB7.out.1.each x (by simp)
    obtain ⟨n7, hn7⟩ : ∃ n7, w7.heap.size = n7 := ⟨_, rfl⟩
    have hn7d : w7.drew.heap.size = n7 := hn7
    obtain ⟨n, hn⟩ : ∃ n, x.g.spans.length = n := ⟨_, rfl⟩
    have hn5 : n ≤ 5000 := hn ▸ HM.out.nos.2
    obtain ⟨A, hA⟩ : ∃ A, x.A = A := ⟨_, rfl⟩
    obtain ⟨cap, hcap⟩ : ∃ c, x.cap = c := ⟨_, rfl⟩
    have hxv : x.v = .slice A n cap := by unfold Ge.v; rw [hA, hn, hcap]
    have hblkP : Blk w7 x.p #[.int .u64 (x.g.hi : Int), .int .u64 (x.g.lo : Int), .slice A n cap] 41 := by rw [← hxv]; exact hgok.blk
    have hrowP : w7.ownsRow 0 35 10 (.slice A n cap) n (spC x.g.spans) := by rw [← hxv, ← hn]; exact hgok.row
    have hblt : ∀ g, (Value.slice A n cap).ownBlock = some g → g < n7 := fun g hg => hn7 ▸ (hrowP.lt g hg).2
    have hnd := HB7.out.1.nd
    rw [core_mid] at hnd
    obtain ⟨_, n2, n3⟩ := List.nodup_append.1 hnd
    have hown1 : ∀ g, (Value.slice A n cap).ownBlock = some g → g ≠ x.p ∧ g ≠ S ∧ g ≠ n0 := fun g hg => by rw [← hxv] at hg; refine ⟨fun e => ?_, fun e => ?_, fun e => ?_⟩; exact (List.nodup_cons.1 n2).1 (by rw [← e]; simp [hg]); exact n3 S (by simp) g (by simp [hg]) e.symm; exact HNIN.out g (by rw [core_mid]; simp [hg]) e
    have hpS : S ≠ x.p := n3 S (by simp) x.p (by simp)
    have hp0 : x.p ≠ n0 := HNIN.out x.p (by rw [core_mid]; simp)
    have hS0 : S ≠ n0 := HNIN.out S (by simp [core])
    have hplt : x.p < n7 := hn7 ▸ hblkP.lt
    have hSlt : S < n7 := hn7 ▸ HB7.out.1.blk.lt
    have h0lt : n0 < n7 := hn7 ▸ HB7.out.2.1.lt
    have HA := Lib.hid (show (∀ g, (Value.slice A n cap).ownBlock = some g → g < n7) ∧ (∀ g, (Value.slice A n cap).ownBlock = some g → g ≠ x.p ∧ g ≠ S ∧ g ≠ n0) ∧ S ≠ x.p ∧ x.p ≠ n0 ∧ S ≠ n0 ∧ x.v = .slice A n cap ∧ x.g.spans.length = n from ⟨hblt, hown1, hpS, hp0, hS0, hxv, hn⟩)
    have HP := Lib.hid (show Blk w7 x.p #[.int .u64 (x.g.hi : Int), .int .u64 (x.g.lo : Int), .slice A n cap] 41 ∧ w7.ownsRow 0 35 10 (.slice A n cap) n (spC x.g.spans) from ⟨hblkP, hrowP⟩)
    have z1 : w7.drew.cell? ⟨x.p, 2, none⟩ = some (.slice A n cap) := hblkP.cell 2 rfl
    have z2 : Blk w7.drew n0 (spA s) 35 := HB7.out.2.1
    have HCE7 := HCE.out w7.drew z2
    obtain ⟨i0, hi0, hz0, hz1, hz2⟩ := info_parts info_sp
    have hszA : (w7.alloc (.cells (spA s) 35)).drew.heap.size = n7 + 1 := by show (w7.alloc _).heap.size = _; rw [World.size_alloc, hn7]
    have HSZ := Lib.hid hszA
    clear hblkP hrowP hblt hnd n2 n3 hown1 hxv hA hcap hgok hszA HCE7 hpS hp0 hS0 hn
    refine RegionBut.region_but 10 (S := fun W => W.cell? ⟨x.p, 2, none⟩ = some (.slice A n cap) ∧ Blk W n0 (spA s) 35) (by kernel_rfl) ?_ (fun hHeld => ?_)
    · exact ⟨z1, z2⟩
    refine RegionBut.but_take (i := 0) (v := ?_) rfl (by kernel_rfl) (by kernel_rfl) (by kernel_rfl) (by kernel_rfl) (fun _ _ _ h => h) (Or.inl ⟨by rfl, ?_⟩) (by assumption) ?_
    rotate_left
    · intro wq hSw; (try dsimp only at hSw); go_simp; (try with_reducible rfl)
    simp only [Act.put, List.getElem_toArray, List.getElem_cons_succ, List.getElem_cons_zero, List.setIfInBounds_toArray, List.set_cons_zero, List.set_cons_succ]
    refine RegionBut.but_take (i := 1) (v := ?_) rfl (by kernel_rfl) (by kernel_rfl) (by kernel_rfl) (by kernel_rfl) (fun _ _ _ h => h) (Or.inl ⟨by rfl, ?_⟩) (by assumption) ?_
    rotate_left
    · intro wq hSw; (try dsimp only at hSw); go_simp; (try with_reducible rfl)
    simp only [Act.put, List.getElem_toArray, List.getElem_cons_succ, List.getElem_cons_zero, List.setIfInBounds_toArray, List.set_cons_zero, List.set_cons_succ]
    refine RegionBut.but_take (i := 2) (v := ?_) rfl (by kernel_rfl) (by kernel_rfl) (by kernel_rfl) (by kernel_rfl) (fun _ _ _ h => h) (Or.inl ⟨by rfl, ?_⟩) (by assumption) ?_
    rotate_left
    · intro wq hSw; (try dsimp only at hSw); go_simp; (try with_reducible rfl)
    simp only [Act.put, List.getElem_toArray, List.getElem_cons_succ, List.getElem_cons_zero, List.setIfInBounds_toArray, List.set_cons_zero, List.set_cons_succ]
    refine RegionBut.but_take (i := 3) (v := ?_) rfl (by kernel_rfl) (by kernel_rfl) (by kernel_rfl) (by kernel_rfl) (fun _ _ _ h => h) (Or.inl ⟨by rfl, ?_⟩) (by assumption) ?_
    rotate_left
    · intro wq hSw; (try dsimp only at hSw); go_simp; (try with_reducible rfl)
    simp only [Act.put, List.getElem_toArray, List.getElem_cons_succ, List.getElem_cons_zero, List.setIfInBounds_toArray, List.set_cons_zero, List.set_cons_succ]
    refine RegionBut.but_take (i := 4) (v := ?_) rfl (by kernel_rfl) (by kernel_rfl) (by kernel_rfl) (by kernel_rfl) (fun _ _ _ h => h) (Or.inl ⟨by rfl, ?_⟩) (by assumption) ?_
    rotate_left
    · intro wq hSw; (try dsimp only at hSw); have hq := hSw.1; go_simp; (try with_reducible rfl)
    simp only [Act.put, List.getElem_toArray, List.getElem_cons_succ, List.getElem_cons_zero, List.setIfInBounds_toArray, List.set_cons_zero, List.set_cons_succ]
    refine RegionBut.but_take (i := 5) (v := ?_) rfl (by kernel_rfl) (by kernel_rfl) (by kernel_rfl) (by kernel_rfl) (fun _ _ _ h => h) (Or.inl ⟨by rfl, ?_⟩) (by assumption) ?_
    rotate_left
    · intro wq hSw; (try dsimp only at hSw); obtain ⟨q0, q1, q2, q3, q4, q5, q6, q7, q8, q9⟩ := HCE.out _ hSw.2; go_simp; (try with_reducible rfl)
    simp only [Act.put, List.getElem_toArray, List.getElem_cons_succ, List.getElem_cons_zero, List.setIfInBounds_toArray, List.set_cons_zero, List.set_cons_succ]
    refine RegionBut.but_ready (rs := [6]) (by kernel_rfl) (by simp) ?_
    refine RegionBut.Nexts.cons rfl (fun K hK => ?_) RegionBut.Nexts.nil
    go_simp
    (try go_wp2_with fail)
    refine hK.out _ _ ?_ (fun hHeld => ?_)
    · exact ⟨(World.cell?_alloc_lt _ _ _ (by show x.p < w7.heap.size; omega)).trans z1, z2.later (box_below _)⟩
    clear hK K
    try simp only [Act.put, List.getElem_toArray, List.getElem_cons_succ, List.getElem_cons_zero, List.setIfInBounds_toArray, List.set_cons_zero, List.set_cons_succ]
    refine RegionBut.but_ready (rs := [7]) (by kernel_rfl) (by simp) ?_
    refine RegionBut.Nexts.cons rfl (fun K hK => ?_) RegionBut.Nexts.nil
    refine step_append_lies _ rfl (.tmp 41) (.tmp 43) 39 rfl 0 35 i0 zero10 10 104 Try.underlying39 hi0 hz0 hz1 hz2 rfl (by decide) (.slice A n cap) n (spC x.g.spans) rfl (World.ownsRow.alloc (w := w7.drew) (row_same HP.out.2 fun _ _ => rfl) _) ⟨n7, 0, none⟩ 1 1 (spL s) rfl rfl (by rw [← hn7]; exact World.news_of_block (blk_new w7.drew (spA s) 35)) (spL_one s) (by decide) (by unfold maxLen; omega) (by omega) (Nat.zero_le _) (n7 + 1) (by simp [hn7]) ?_
    intro g2 c2 w9 hown9 hgr9 hor9 hlt9
    have hsz9 : n7 + 1 ≤ w9.heap.size := by have := hgr9.size; simp [hn7] at this; exact this
    have hfar : ∀ k, k < n7 → (∀ g, (Value.slice A n cap).ownBlock = some g → g ≠ k) → w9.heap[k]? = w7.heap[k]? := fun k hk hne => (hgr9.block k (by simp; omega) (fun e => hne k e.symm rfl)).trans (Below.heap_alloc w7 _ _ (by rw [hn7]; exact hk))
    have y0 : Blk w9 x.p #[.int .u64 (x.g.hi : Int), .int .u64 (x.g.lo : Int), .slice A n cap] 41 := HP.out.1.same (hfar x.p hplt fun g hg => (HA.out.2.1 g hg).1)
    have y1 : w9.cell? ⟨x.p, 2, none⟩ = some (.slice A n cap) := y0.cell 2 rfl
    have y2 : Blk w9 n0 (spA s) 35 := HB7.out.2.1.same (hfar n0 h0lt fun g hg => (HA.out.2.1 g hg).2.2)
    have yS : Blk w9 S (bfC b1 T N M H v) 79 := HB7.out.1.blk.same (hfar S hSlt fun g hg => (HA.out.2.1 g hg).2.1)
    have hm9 : Mut (x.p :: S :: x.v.ownBlock.toList) w7 w9 := ⟨hgr9.os, hgr9.tape, hgr9.output, by omega, fun k hk hn => hfar k (hn7 ▸ hk) fun g hg e => hn (by rw [HA.out.2.2.2.2.2.1, hg]; simp [e])⟩
    have HY := Lib.hid (show Blk w9 x.p #[.int .u64 (x.g.hi : Int), .int .u64 (x.g.lo : Int), .slice A n cap] 41 ∧ Blk w9 S (bfC b1 T N M H v) 79 ∧ Mut (x.p :: S :: x.v.ownBlock.toList) w7 w9 ∧ w9.ownsRow 0 35 10 (.slice (some ⟨g2, 0, none⟩) (n + 1) c2) (n + 1) (spC x.g.spans ++ spL s) from ⟨y0, yS, hm9, hown9⟩)
    have HO := Lib.hid (show (Value.slice A n cap).ownBlock = some g2 ∨ g2 = n7 + 1 from hor9)
    clear y0 yS hm9 hown9 hgr9 hor9 hfar
    refine hK.out _ _ ?_ (fun hHeld => ?_)
    · exact ⟨y1, y2⟩
    clear hK K
    try simp only [Act.put, List.getElem_toArray, List.getElem_cons_succ, List.getElem_cons_zero, List.setIfInBounds_toArray, List.set_cons_zero, List.set_cons_succ]
    refine RegionBut.but_ready (rs := [8]) (by kernel_rfl) (by simp) ?_
    refine RegionBut.Nexts.cons rfl (fun K hK => ?_) RegionBut.Nexts.nil
    go_simp
    (try go_wp2_with fail)
    refine hK.out _ _ ?_ (fun hHeld => ?_)
    · exact hHeld
    clear hK K
    try simp only [Act.put, List.getElem_toArray, List.getElem_cons_succ, List.getElem_cons_zero, List.setIfInBounds_toArray, List.set_cons_zero, List.set_cons_succ]
    refine RegionBut.but_take (i := 9) (v := ?_) rfl (by kernel_rfl) (by kernel_rfl) (by kernel_rfl) (by kernel_rfl) (fun _ _ _ h => h) (Or.inl ⟨by rfl, ?_⟩) (by assumption) ?_
    rotate_left
    · intro wq hSw; (try dsimp only at hSw); go_simp; (try with_reducible rfl)
    simp only [Act.put, List.getElem_toArray, List.getElem_cons_succ, List.getElem_cons_zero, List.setIfInBounds_toArray, List.set_cons_zero, List.set_cons_succ]
    refine RegionBut.but_ready (rs := [10]) (by kernel_rfl) (by simp) ?_
    refine RegionBut.Nexts.last rfl (fun K hK => ?_)
    have f1 : w9.frozen? ⟨x.p, 2, none⟩ = false := HY.out.1.free 2
    go_simp
    (try go_wp2_with fail)
    refine hK.out _ _ trivial (fun _ => ?_)
    clear hK K
    try simp only [Act.put, List.getElem_toArray, List.getElem_cons_succ, List.getElem_cons_zero, List.setIfInBounds_toArray, List.set_cons_zero, List.set_cons_succ]
    refine RegionBut.but_done (by kernel_rfl) ?_ _
    clear hHeld
    clear z1 z2 y1 y2 hHeld
    have hgp : g2 ≠ x.p ∧ g2 ≠ S := by
      rcases HO.out with h | h
      · exact ⟨(HA.out.2.1 g2 h).1, (HA.out.2.1 g2 h).2.1⟩
      · omega
    have hP10 : Blk (w9.setCell ⟨x.p, 2, none⟩ (.slice (some ⟨g2, 0, none⟩) (n + 1) c2)) x.p #[.int .u64 (x.g.hi : Int), .int .u64 (x.g.lo : Int), .slice (some ⟨g2, 0, none⟩) (n + 1) c2] 41 := HY.out.1.set 2 _
    have hS10 : Blk (w9.setCell ⟨x.p, 2, none⟩ (.slice (some ⟨g2, 0, none⟩) (n + 1) c2)) S (bfC b1 T N M H v) 79 := HY.out.2.1.same (Below.heap_setCell _ _ _ _ HA.out.2.2.1)
    have hR10 : (w9.setCell ⟨x.p, 2, none⟩ (.slice (some ⟨g2, 0, none⟩) (n + 1) c2)).ownsRow 0 35 10 (.slice (some ⟨g2, 0, none⟩) (n + 1) c2) (n + 1) (spC x.g.spans ++ spL s) := row_same HY.out.2.2.2 fun g hg => by
      simp [Value.ownBlock] at hg
      exact Below.heap_setCell _ _ _ _ (hg ▸ hgp.1)
    have hm10 : Mut (x.p :: S :: x.v.ownBlock.toList) w7 (w9.setCell ⟨x.p, 2, none⟩ (.slice (some ⟨g2, 0, none⟩) (n + 1) c2)) := HY.out.2.2.1.setCell (by simp) _
    generalize w9.setCell ⟨x.p, 2, none⟩ (.slice (some ⟨g2, 0, none⟩) (n + 1) c2) = w10 at hP10 hS10 hR10 hm10 ⊢
    obtain ⟨tt, htt⟩ : ∃ t, tot b1.L = t := ⟨_, rfl⟩
    have htt5 : tt ≤ 5000 := by have := HI.out.2.1; have := HI.out.1.sp; have := HM.out.tot_; omega
    have c5 : w10.cell? ⟨S, 5, none⟩ = some (.int .i64 (tt : Int)) := htt ▸ hS10.cell 5 rfl
    have f5 := hS10.free 5
    have hoff := HM.out.off
    have htot2 : tot (offered b s).L = tt + 1 := by
      show tot (put _ _ s b.L) = tt + 1
      rw [tot_put HI.out.1.L.nd, ← HM.out.tot_, htt]
    have hSf : Blk (w10.setCell ⟨S, 5, none⟩ (.int .i64 ((tt : Int) + 1))) S (bfC (offered b s) T N M H v) 79 := by
      have h5 := hS10.set 5 (.int .i64 ((tt : Int) + 1))
      have e : (bfC b1 T N M H v).setIfInBounds 5 (.int .i64 ((tt : Int) + 1)) = bfC (offered b s) T N M H v := by
        have e2 : ((tot (offered b s).L : Nat) : Int) = (tt : Int) + 1 := by rw [htot2]; rfl
        unfold bfC
        rw [e2, hoff]
        rfl
      rw [e] at h5
      exact h5
    have hPf := hP10.same (W' := w10.setCell ⟨S, 5, none⟩ (.int .i64 ((tt : Int) + 1))) (Below.heap_setCell _ _ _ _ HA.out.2.2.1.symm)
    have hRf := row_same (W' := w10.setCell ⟨S, 5, none⟩ (.int .i64 ((tt : Int) + 1))) hR10 fun g hg => by
      simp [Value.ownBlock] at hg
      exact Below.heap_setCell _ _ _ _ (hg ▸ hgp.2)
    have hmf : Mut (x.p :: S :: x.v.ownBlock.toList) w7 (w10.setCell ⟨S, 5, none⟩ (.int .i64 ((tt : Int) + 1))) := hm10.setCell (by simp) _
    have hmv : (x.more s (some ⟨g2, 0, none⟩) c2).v = .slice (some ⟨g2, 0, none⟩) (n + 1) c2 := by simp [Ge.v, Ge.more, HA.out.2.2.2.2.2.2]
    obtain ⟨hfin, hsub⟩ := pu_fin (b2 := offered b s) HB7.out.1 hmf (fun k hk => by
        simp only [List.mem_cons] at hk
        rcases hk with e | e | e
        · exact .inr (.inl e)
        · exact .inl e
        · exact .inr (.inr (.inl (by simpa using e)))) (by rw [hoff]) (by rw [hoff]) (by rw [hoff]) hSf (A := some ⟨g2, 0, none⟩) (cap := c2)
      ⟨by rw [hmv]; exact hPf, by rw [hmv]; simpa [Ge.more, spC_append, spC, HA.out.2.2.2.2.2.2] using hRf⟩
      (fun g hg => by
        rw [hmv] at hg
        simp [Value.ownBlock] at hg
        rw [HA.out.2.2.2.2.2.1, ← hg]
        exact HO.out.imp id fun h => by omega) (by rw [hmv]; simp [Value.ownBlock])
    have hto : TbTo w bs S (offered b s) (w10.setCell ⟨S, 5, none⟩ (.int .i64 ((tt : Int) + 1))) := by
      have hin := HM.out.in_
      have hw0 := HI.out.2.2.2.2.2.2.2.1
      have hx1 : Ext w bs [n0] := fun k hk => .inr (by rw [List.mem_singleton.1 hk, hw0]; exact Nat.le_refl _)
      have hx2 : Ext w bs (x.p :: S :: x.v.ownBlock.toList) := fun k hk => by
        have : k ∈ core S T N M v (a ++ x :: c) ++ hbs1 := by
          rw [core_mid]
          simp only [List.mem_cons] at hk
          rcases hk with e | e | e <;> simp [e]
        rcases hin k this with e | e
        · exact .inl e
        · exact .inr (by omega)
      refine ⟨core S T N M v (a ++ x.more s (some ⟨g2, 0, none⟩) c2 :: c) ++ hbs1, ⟨T, N, M, H, v, hbs1, _, hfin, HI.out.1.offered HI.out.2.2.2.1 HI.out.2.2.2.2.1 HI.out.2.1, rfl⟩, (HM.out.mut_.onto HB7.out.2.2 hx1).onto hmf hx2, fun k hk => ?_⟩
      rcases List.mem_append.1 hk with e | e
      · rcases hsub k e with e2 | e2
        · rcases hin k (by simp [e2]) with e3 | e3
          · exact .inl e3
          · exact .inr (by omega)
        · exact .inr (by omega)
      · rcases hin k (by simp [e]) with e3 | e3
        · exact .inl e3
        · exact .inr (by omega)
    have HTO := Lib.hid hto
    clear hto hfin hsub hmf hRf hPf hSf htot2 hoff hm10 hR10 hP10 hS10 hmv htt hgp
    go_wp2_with fail
    go_end0
    exact ⟨rfl, HTO.out⟩
end Go.Proofs.Ythpcnnkdpgjiiaa
