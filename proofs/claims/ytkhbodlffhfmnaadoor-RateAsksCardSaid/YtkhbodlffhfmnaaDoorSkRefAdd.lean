/-
  What the document's own Add of sketches does: another one, in memory of its own, each of whose cells at the key's places is no lower than it is to be.
-/
import Derived.Deep.CutBlock
import Derived.Deep.DeepCutAuto
import Derived.Test.YtkhbodlffhfmnaaDoorSkRefNew
namespace Go.Proofs.YtkhbodlffhfmnaaDoor
open Go.RowKit Go.Proofs.HashMath Go.Proofs.SkMath

/-- 'append(nil, row...)'. -/
theorem app_row {w : World} {ops : Array Oper} {rest : List Oper} {o : Oper} {a : Act} {Q : Exit → Act → World → Prop} (hgd : o.guard = none) (s x : Operand)
    (ho : o.op = .call { callee := .builtin .append, args := #[s, x], argTypes := #[83, 83] }) (base m c g : Nat) (h : Nat → Nat)
    (hs : a.eval s = .slice none 0 0) (hx : a.eval x = .slice (some ⟨g, 0, none⟩) m c) (hc : ∀ j, j < m → w.cell? ⟨g, j, none⟩ = some (n64 (h j))) (m1 : 1 ≤ m) (m2 : m ≤ 1024) (hb : base ≤ w.heap.size)
    (hK : ∀ c' w', w'.ownsRow base 22 1 (.slice (some ⟨w.heap.size, 0, none⟩) m c') m (rowL m h) → Below w.heap.size w w' → wpList Tryd.prog ops Q rest (a.put o.dst (.slice (some ⟨w.heap.size, 0, none⟩) m c')) w') : wpList Tryd.prog ops Q (o :: rest) a w := by
  obtain ⟨i0, hi, hz0, hz1, hz2⟩ := info_parts info_u64
  refine wpList_append_lies w hgd s x 83 ho base 22 i0 (.int .u64 0) 1 8 Tryd.underlying83 hi hz0 hz1 hz2 rfl (by decide) (.slice none 0 0) 0 [] hs (World.ownsRow_nil _ _ _ _) ⟨g, 0, none⟩ m c (rowL m h) hx (by rw [rowL_length, Nat.mul_one]) (fun j u hu => ?_) (rowL_one m h) (by omega) (by unfold maxLen; omega) (by omega) hb _ rfl ?_
  · have hj : j < m := by
      have := (List.getElem?_eq_some_iff.1 hu).1
      rwa [rowL_length] at this
    have hp : (⟨g, 0, none⟩ : Addr).add j = ⟨g, j, none⟩ := by unfold Addr.add; split <;> simp_all
    rw [hp, hc j hj, ← hu, rowL_at hj]
  · intro g2 c2 w2 hown hgr hor _
    obtain rfl : g2 = w.heap.size := by
      rcases hor with h1 | h1
      · simp [Value.ownBlock] at h1
      · exact h1
    rw [Nat.zero_add, List.nil_append] at hown
    rw [Nat.zero_add]
    exact hK c2 w2 hown ⟨hgr.os, hgr.tape, hgr.output, hgr.size, fun k hk => hgr.block k hk (by simp [Value.ownBlock])⟩

set_option linter.unusedSimpArgs false in
set_option maxRecDepth 100000 in
set_option maxHeartbeats 4000000 in
theorem refAdd_any (lo c cc r m seed tot : Nat) (f : Nat → Nat → Nat) (s : ByteArray) (n : Nat) (w : World) (hr1 : 1 ≤ r) (hr8 : r ≤ 8) (hm1 : 1 ≤ m) (hm : m ≤ 1024) (hf : ∀ i j, f i j < 18446744073709551616) (ht : tot < 18446744073709551616) (hn : n < 18446744073709551616) (hR : RefS lo w.heap.size w c cc r m f) (hs : s.size ≤ 9223372036854775807) :
    Calls Tryd.prog 43 #[.agg #[.slice (some ⟨c, 0, none⟩) r cc, .int .i64 (m : Int), .int .u64 (seed : Int), .int .u64 (tot : Int)], .string s, .int .u64 (n : Int)] w fun e w' => ∃ c2 cc2, e = .returned (.agg #[.slice (some ⟨c2, 0, none⟩) r cc2, .int .i64 (m : Int), .int .u64 (seed : Int), .int .u64 (plus tot n : Int)]) ∧ RefS w.heap.size w'.heap.size w' c2 cc2 r m (add r (placeOf seed s.data.toList m) n f) ∧ Below w.heap.size w w' := by
  have hC := fun W (h : RefS lo W.heap.size W c cc r m f) => refCount_any lo c cc r m seed tot f s W hr8 hm1 hm hf h hs
  have hP := fun i (hi : i ≤ 8) W => refPlace_any c cc r m seed tot i s W hi hm hs
  obtain ⟨p, hp⟩ : ∃ p, placeOf seed s.data.toList m = p := ⟨_, rfl⟩
  have hpm : ∀ i, p i < m := fun i => hp ▸ place_lt seed _ hm1 i
  rw [hp] at hC hP ⊢
  obtain ⟨x, hx, hxl⟩ : ∃ x, least p f r = x ∧ x < 18446744073709551616 := ⟨_, rfl, least_lt _ _ _⟩
  rw [hx] at hC
  obtain ⟨y, hy, hyl⟩ : ∃ y, plus x n = y ∧ y < 18446744073709551616 := ⟨_, rfl, plus_lt _ _⟩
  have hP1 := fun W => refPlus_any x n W hxl hn
  rw [hy] at hP1
  obtain ⟨z, hz⟩ : ∃ z, plus tot n = z := ⟨_, rfl⟩
  have hP2 := fun W => refPlus_any tot n W ht hn
  rw [hz] at hP2 ⊢
  obtain ⟨gf, hgf⟩ : ∃ gf, add r p n f = gf := ⟨_, rfl⟩
  have hg1 : ∀ k, k < r → gf k (p k) = max (f k (p k)) y := fun k hk => by rw [← hgf, add_in hk, hx, hy]
  have hg2 : ∀ k j, j ≠ p k → gf k j = f k j := fun k j hj => by
    rw [← hgf]
    unfold add upd
    rw [if_neg (fun h => hj h.2)]
  rw [hgf]
  obtain ⟨n0, hn0⟩ : ∃ n0, w.heap.size = n0 := ⟨_, rfl⟩
  have hsz0 : (w.alloc (.cells #[.slice (some ⟨c, 0, none⟩) r cc, .int .i64 (m : Int), .int .u64 (seed : Int), .int .u64 (tot : Int)] 38)).heap.size = n0 + 1 := by rw [World.size_alloc, hn0]
  have hB : Below n0 w ((w.alloc (.cells #[.slice (some ⟨c, 0, none⟩) r cc, .int .i64 (m : Int), .int .u64 (seed : Int), .int .u64 (tot : Int)] 38)).alloc (.cells #[.slice none 0 0, .int .i64 0, .int .u64 0, .int .u64 0] 38)) := hn0 ▸ (box_below (W := w) _).alloc (by simp) _
  have hb0 : Blk ((w.alloc (.cells #[.slice (some ⟨c, 0, none⟩) r cc, .int .i64 (m : Int), .int .u64 (seed : Int), .int .u64 (tot : Int)] 38)).alloc (.cells #[.slice none 0 0, .int .i64 0, .int .u64 0, .int .u64 0] 38)) n0 #[.slice (some ⟨c, 0, none⟩) r cc, .int .i64 (m : Int), .int .u64 (seed : Int), .int .u64 (tot : Int)] 38 := hn0 ▸ (blk_new w _ _).later (box_below _)
  have hb1 : Blk ((w.alloc (.cells #[.slice (some ⟨c, 0, none⟩) r cc, .int .i64 (m : Int), .int .u64 (seed : Int), .int .u64 (tot : Int)] 38)).alloc (.cells #[.slice none 0 0, .int .i64 0, .int .u64 0, .int .u64 0] 38)) (n0 + 1) #[.slice none 0 0, .int .i64 0, .int .u64 0, .int .u64 0] 38 := hsz0 ▸ blk_new _ _ _
  have hR0 := (hn0 ▸ hR : RefS lo n0 w c cc r m f)
  rw [hn0]
  have HB := Lib.hid hB
  have HB0 := Lib.hid hb0
  have HB1 := Lib.hid hb1
  have HR := Lib.hid hR0
  have HC := Lib.hid hC
  have HP := Lib.hid hP
  have HP1 := Lib.hid hP1
  have HP2 := Lib.hid hP2
  have HPM := Lib.hid hpm
  have HG1 := Lib.hid hg1
  have HG2 := Lib.hid hg2
  have HF := Lib.hid hf
  have HN0 := Lib.hid hn0
  clear hp hx hy hz hgf hC hP hP1 hP2 hpm hg1 hg2 hB hb0 hb1 hR hR0 hf hsz0
  go_enter Tryd.func43, Tryd.ntmps43
  go_wp2_with fail
  refine (HC.out _ ((HR.out.below HB.out).mono (by have := HB.out.size; rw [HN0.out] at this; exact this) (Nat.le_refl _))).mono ?_
  rintro e w1 ⟨rfl, g1⟩
  have HB' := Lib.hid (HB.out.trans (g1.mono (by have := HB.out.size; rw [HN0.out] at this; exact this)))
  have hbk := HB0.out.later g1
  have hbz := HB1.out.later g1
  obtain ⟨nt, hnt⟩ : ∃ nt, w1.heap.size = nt := ⟨_, rfl⟩
  have hlt : n0 + 1 < nt := hnt ▸ hbz.lt
  have HBK := Lib.hid hbk
  have HBZ := Lib.hid hbz
  have hbd : Blk w1.drew n0 #[.slice (some ⟨c, 0, none⟩) r cc, .int .i64 (m : Int), .int .u64 (seed : Int), .int .u64 (tot : Int)] 38 := hbk
  have HBA := Lib.hid (fun o : Obj => (show Blk (w1.alloc o).drew n0 _ _ from hbk.later (W' := w1.alloc o) (box_below o)))
  clear g1 hbk hbz
  go_wp2_with fail
  refine (HP1.out _).mono ?_
  rintro e w2 ⟨rfl, rfl⟩
  go_upto_region 2 with fail
  go_cut [8] (fun s8 wx => s8 = .pointer (some ⟨nt, 0, none⟩) ∧ wx = (w1.alloc (.cells #[.slice none 0 0, .int .i64 (m : Int), .int .u64 (seed : Int), .int .u64 (z : Int)] 38)).drew)
  case first =>
    refine wp_region_held_drew (S := fun W => Blk W n0 #[.slice (some ⟨c, 0, none⟩) r cc, .int .i64 (m : Int), .int .u64 (seed : Int), .int .u64 (tot : Int)] 38) (by kernel_rfl) ?_ (fun hHeld => ?_)
    · exact hbd
    refine wpAnyH_take (i := 0) (v := ?_) rfl (by kernel_rfl) (by kernel_rfl) (by kernel_rfl) (fun _ _ _ h => h) (Or.inl ⟨by rfl, ?_⟩) (by assumption) ?_
    rotate_left
    · intro wq hSw; (try dsimp only at hSw); go_simp; (try with_reducible rfl)
    simp only [Act.put, List.getElem_toArray, List.getElem_cons_succ, List.getElem_cons_zero, List.setIfInBounds_toArray, List.set_cons_zero, List.set_cons_succ]
    refine wpAnyH_take (i := 2) (v := ?_) rfl (by kernel_rfl) (by kernel_rfl) (by kernel_rfl) (fun _ _ _ h => h) (Or.inl ⟨by rfl, ?_⟩) (by assumption) ?_
    rotate_left
    · intro wq hSw; (try dsimp only at hSw); go_simp; (try with_reducible rfl)
    simp only [Act.put, List.getElem_toArray, List.getElem_cons_succ, List.getElem_cons_zero, List.setIfInBounds_toArray, List.set_cons_zero, List.set_cons_succ]
    refine wpAnyH_take (i := 4) (v := ?_) rfl (by kernel_rfl) (by kernel_rfl) (by kernel_rfl) (fun _ _ _ h => h) (Or.inl ⟨by rfl, ?_⟩) (by assumption) ?_
    rotate_left
    · intro wq hSw; (try dsimp only at hSw); go_simp; (try with_reducible rfl)
    simp only [Act.put, List.getElem_toArray, List.getElem_cons_succ, List.getElem_cons_zero, List.setIfInBounds_toArray, List.set_cons_zero, List.set_cons_succ]
    refine wpAnyH_take (i := 6) (v := ?_) rfl (by kernel_rfl) (by kernel_rfl) (by kernel_rfl) (fun _ _ _ h => h) (Or.inl ⟨by rfl, ?_⟩) (by assumption) ?_
    rotate_left
    · intro wq hSw; (try dsimp only at hSw); go_simp; (try with_reducible rfl)
    simp only [Act.put, List.getElem_toArray, List.getElem_cons_succ, List.getElem_cons_zero, List.setIfInBounds_toArray, List.set_cons_zero, List.set_cons_succ]
    refine wpAnyH_take (i := 1) (v := ?_) rfl (by kernel_rfl) (by kernel_rfl) (by kernel_rfl) (fun _ _ _ h => h) (Or.inl ⟨by rfl, ?_⟩) (by assumption) ?_
    rotate_left
    · intro wq hSw; (try dsimp only at hSw); have q1 := hSw.cell 1 rfl; go_simp; (try with_reducible rfl)
    simp only [Act.put, List.getElem_toArray, List.getElem_cons_succ, List.getElem_cons_zero, List.setIfInBounds_toArray, List.set_cons_zero, List.set_cons_succ]
    refine wpAnyH_take (i := 3) (v := ?_) rfl (by kernel_rfl) (by kernel_rfl) (by kernel_rfl) (fun _ _ _ h => h) (Or.inl ⟨by rfl, ?_⟩) (by assumption) ?_
    rotate_left
    · intro wq hSw; (try dsimp only at hSw); have q2 := hSw.cell 2 rfl; go_simp; (try with_reducible rfl)
    simp only [Act.put, List.getElem_toArray, List.getElem_cons_succ, List.getElem_cons_zero, List.setIfInBounds_toArray, List.set_cons_zero, List.set_cons_succ]
    refine wpAnyH_take (i := 5) (v := ?_) rfl (by kernel_rfl) (by kernel_rfl) (by kernel_rfl) (fun _ _ _ h => h) (Or.inl ⟨by rfl, ?_⟩) (by assumption) ?_
    rotate_left
    · intro wq hSw; (try dsimp only at hSw); have q3 := hSw.cell 3 rfl; go_simp; (try with_reducible rfl)
    simp only [Act.put, List.getElem_toArray, List.getElem_cons_succ, List.getElem_cons_zero, List.setIfInBounds_toArray, List.set_cons_zero, List.set_cons_succ]
    refine wpAnyH_ready (rs := [7, 9]) (by kernel_rfl) (by simp) ?_
    refine AllReadyH.cons rfl (fun K hK => ?_) (AllReadyH.cons rfl (fun K hK => ?_) (AllReadyH.nil))
    · go_simp
      refine (HP2.out _).mono ?_
      rintro e wx ⟨rfl, rfl⟩
      (try go_wp2_with fail)
      refine hK.out _ _ ?_ (fun hHeld => ?_)
      · exact hHeld
      clear hK K
      try simp only [Act.put, List.getElem_toArray, List.getElem_cons_succ, List.getElem_cons_zero, List.setIfInBounds_toArray, List.set_cons_zero, List.set_cons_succ]
      refine wpAnyH_take (i := 8) (v := ?_) rfl (by kernel_rfl) (by kernel_rfl) (by kernel_rfl) (fun _ _ _ h => h) (Or.inl ⟨by rfl, ?_⟩) (by assumption) ?_
      rotate_left
      · intro wq hSw; (try dsimp only at hSw); go_simp; (try with_reducible rfl)
      simp only [Act.put, List.getElem_toArray, List.getElem_cons_succ, List.getElem_cons_zero, List.setIfInBounds_toArray, List.set_cons_zero, List.set_cons_succ]
      refine wpAnyH_ready (rs := [9]) (by kernel_rfl) (by simp) ?_
      refine AllReadyH.cons rfl (fun K hK => ?_) AllReadyH.nil
      go_simp
      (try go_wp2_with fail)
      refine hK.out _ _ ?_ (fun hHeld => ?_)
      · exact HBA.out _
      clear hK K
      try simp only [Act.put, List.getElem_toArray, List.getElem_cons_succ, List.getElem_cons_zero, List.setIfInBounds_toArray, List.set_cons_zero, List.set_cons_succ]
      refine wpAnyH_ready (rs := [10]) (by kernel_rfl) (by simp) ?_
      refine AllReadyH.cons rfl (fun K hK => ?_) AllReadyH.nil
      go_simp
      (try go_wp2_with fail)
      refine hK.out _ _ ?_ (fun hHeld => ?_)
      · exact HBA.out _
      clear hK K
      try simp only [Act.put, List.getElem_toArray, List.getElem_cons_succ, List.getElem_cons_zero, List.setIfInBounds_toArray, List.set_cons_zero, List.set_cons_succ]
      refine wpAnyH_done (by kernel_rfl) ?_ _
      clear hHeld
      go_wp2_with fail
      go_meet
      exact ⟨rfl, rfl⟩
    · go_simp
      (try go_wp2_with fail)
      refine hK.out _ _ ?_ (fun hHeld => ?_)
      · exact HBA.out _
      clear hK K
      try simp only [Act.put, List.getElem_toArray, List.getElem_cons_succ, List.getElem_cons_zero, List.setIfInBounds_toArray, List.set_cons_zero, List.set_cons_succ]
      refine wpAnyH_ready (rs := [7]) (by kernel_rfl) (by simp) ?_
      refine AllReadyH.cons rfl (fun K hK => ?_) AllReadyH.nil
      go_simp
      refine (HP2.out _).mono ?_
      rintro e wx ⟨rfl, rfl⟩
      (try go_wp2_with fail)
      refine hK.out _ _ ?_ (fun hHeld => ?_)
      · exact hHeld
      clear hK K
      try simp only [Act.put, List.getElem_toArray, List.getElem_cons_succ, List.getElem_cons_zero, List.setIfInBounds_toArray, List.set_cons_zero, List.set_cons_succ]
      refine wpAnyH_take (i := 8) (v := ?_) rfl (by kernel_rfl) (by kernel_rfl) (by kernel_rfl) (fun _ _ _ h => h) (Or.inl ⟨by rfl, ?_⟩) (by assumption) ?_
      rotate_left
      · intro wq hSw; (try dsimp only at hSw); go_simp; (try with_reducible rfl)
      simp only [Act.put, List.getElem_toArray, List.getElem_cons_succ, List.getElem_cons_zero, List.setIfInBounds_toArray, List.set_cons_zero, List.set_cons_succ]
      refine wpAnyH_ready (rs := [10]) (by kernel_rfl) (by simp) ?_
      refine AllReadyH.cons rfl (fun K hK => ?_) AllReadyH.nil
      go_simp
      (try go_wp2_with fail)
      refine hK.out _ _ ?_ (fun hHeld => ?_)
      · exact HBA.out _
      clear hK K
      try simp only [Act.put, List.getElem_toArray, List.getElem_cons_succ, List.getElem_cons_zero, List.setIfInBounds_toArray, List.set_cons_zero, List.set_cons_succ]
      refine wpAnyH_done (by kernel_rfl) ?_ _
      clear hHeld
      go_wp2_with fail
      go_meet
      exact ⟨rfl, rfl⟩
  case rest =>
    obtain ⟨rfl, rfl⟩ := hcut
    have hbx := box_below (W := w1) (.cells #[.slice none 0 0, .int .i64 (m : Int), .int .u64 (seed : Int), .int .u64 (z : Int)] 38)
    have hst : Hid (∃ v vs, Bld (w1.alloc (.cells #[.slice none 0 0, .int .i64 (m : Int), .int .u64 (seed : Int), .int .u64 (z : Int)] 38)).drew (nt + 1) nt v vs 0 m gf seed z) := Lib.hid ⟨.slice none 0 0, [], { blk := hnt ▸ blk_new w1 _ _, own := World.ownsRow_nil _ _ _ _, rows := ⟨rfl, fun j hj => by omega⟩, lt := by omega, le := by show nt + 1 ≤ (w1.alloc _).heap.size; rw [World.size_alloc, hnt]; omega }⟩
    have hst2 : Hid (Below n0 w (w1.alloc (.cells #[.slice none 0 0, .int .i64 (m : Int), .int .u64 (seed : Int), .int .u64 (z : Int)] 38)).drew ∧ Blk (w1.alloc (.cells #[.slice none 0 0, .int .i64 (m : Int), .int .u64 (seed : Int), .int .u64 (z : Int)] 38)).drew n0 #[.slice (some ⟨c, 0, none⟩) r cc, .int .i64 (m : Int), .int .u64 (seed : Int), .int .u64 (tot : Int)] 38 ∧ Blk (w1.alloc (.cells #[.slice none 0 0, .int .i64 (m : Int), .int .u64 (seed : Int), .int .u64 (z : Int)] 38)).drew (n0 + 1) #[.slice none 0 0, .int .i64 0, .int .u64 0, .int .u64 0] 38) := Lib.hid ⟨(HB'.out.trans (hbx.mono (by omega))).drew, HBK.out.later hbx.drew, HBZ.out.later hbx.drew⟩
    clear hbx hbd
    go_wp2_with fail
    go_loopw [9] (fun kv wr => ∃ k : Nat, k ≤ r ∧ kv = .int .i64 (k : Int) ∧ Hid (∃ v vs, Bld wr (nt + 1) nt v vs k m gf seed z) ∧ Hid (Below n0 w wr ∧ Blk wr n0 #[.slice (some ⟨c, 0, none⟩) r cc, .int .i64 (m : Int), .int .u64 (seed : Int), .int .u64 (tot : Int)] 38 ∧ Blk wr (n0 + 1) #[.slice none 0 0, .int .i64 0, .int .u64 0, .int .u64 0] 38)) (fun kv _ => r - (intOf kv).toNat)
    case atStart => exact ⟨0, by omega, rfl, hst, hst2⟩
    case round =>
      obtain ⟨k, hkr, rfl, HV, HW⟩ := hrel
      have k0 : wr.cell? ⟨n0, 0, none⟩ = some (.slice (some ⟨c, 0, none⟩) r cc) := HW.out.2.1.cell 0 rfl
      by_cases hlt2 : k < r
      · have dl : decide ((k : Int) < (r : Int)) = true := by simp; omega
        obtain ⟨v, vs, hbd⟩ := HV.out
        have HBD := Lib.hid hbd
        have hle : nt + 1 ≤ wr.heap.size := hbd.le
        obtain ⟨⟨_, hcn⟩, _, _, hrows⟩ := HR.out
        obtain ⟨g, ci, e1, ⟨_, e2⟩, e3, e4, e5⟩ := hrows k hlt2
        have hrow : wr.cell? ⟨c, k, none⟩ = some (.slice (some ⟨g, 0, none⟩) m ci) := (HW.out.1.cell (p := ⟨c, k, none⟩) hcn).trans e1
        have hcs : Hid (∀ j, j < m → wr.cell? ⟨g, j, none⟩ = some (n64 (f k j))) := Lib.hid (fun j hj => (HW.out.1.cell (p := ⟨g, j, none⟩) e2).trans (e5 j hj))
        have hpk := HPM.out k
        have hPk := HP.out k (by omega)
        obtain ⟨q, hq⟩ : ∃ q, p k = q := ⟨_, rfl⟩
        obtain ⟨u, hu⟩ : ∃ u, f k q = u := ⟨_, rfl⟩
        have hul := HF.out k q
        rw [hu] at hul
        rw [hq] at hpk hPk
        have HPK := Lib.hid hPk
        have HQ := Lib.hid hq
        have HU := Lib.hid hu
        clear hrows e1 e5 hbd HV hPk hq hu hst hst2
        go_wp2_with (at_builtin; refine app_row rfl (.tmp 33) (.tmp 38) rfl (nt + 1) m ci g (f k) rfl rfl hcs.out hm1 hm hle ?_; intro c2 w3 hown3 hb3; have hB3 := HBD.out.later hb3; have hW3 := HW.out.2.1.later hb3; have j0 := hW3.cell 0 rfl; have j1 := hW3.cell 1 rfl; have j2 := hW3.cell 2 rfl; have j3 := hW3.cell 3 rfl; have HO3 := Lib.hid hown3; have HB3 := Lib.hid hb3; clear hown3 hb3 hB3 hW3)
        refine (HPK.out _).mono ?_
        rintro e w4 ⟨rfl, g4⟩
        obtain ⟨n3, hn3⟩ : ∃ n3, w4.heap.size = n3 := ⟨_, rfl⟩
        obtain ⟨nr, hnr⟩ : ∃ nr, wr.heap.size = nr := ⟨_, rfl⟩
        have HB4 := HB3.out.trans (g4.mono HB3.out.size)
        have HO4 := own_later HO3.out g4
        rw [hnr] at HO4 hle
        have hle3 : nr ≤ n3 := by rw [← hnr, ← hn3]; exact HB4.size
        have hrc : w4.cell? ⟨nr, q, none⟩ = some (.int .u64 (u : Int)) := by
          rw [HO4.cellAt q (by omega), rowL_at hpk, HU.out]; rfl
        have hrf : w4.frozen? ⟨nr, q, none⟩ = false := HO4.frozenAt q
        have hst3 := HO4.stored q (.int .u64 (if u < y then (y : Int) else (u : Int)))
        have hset : (rowL m (f k)).set q (.int .u64 (if u < y then (y : Int) else (u : Int))) = rowL m (gf k) := rowL_set (by rw [max_val, ← HU.out, ← HQ.out, HG1.out k hlt2]) (fun j hj => HG2.out k j (by rw [HQ.out]; exact hj))
        rw [hset] at hst3
        have hb5 : Below wr.heap.size wr (w4.setCell ⟨nr, q, none⟩ (.int .u64 (if u < y then (y : Int) else (u : Int)))) := HB4.setCell (by rw [hnr]; exact Nat.le_refl _) _
        have hs5 : (w4.setCell ⟨nr, q, none⟩ (.int .u64 (if u < y then (y : Int) else (u : Int)))).heap.size = n3 := by rw [World.size_setCell, hn3]
        have hbl6 := box_below (W := w4.setCell ⟨nr, q, none⟩ (.int .u64 (if u < y then (y : Int) else (u : Int)))) (.cells #[.slice (some ⟨nr, 0, none⟩) m c2] 83)
        have hbd5 := HBD.out.later hb5
        have hbd6 := hbd5.later hbl6
        have hu6 := own_later hst3.1 hbl6
        have hone : ((w4.setCell ⟨nr, q, none⟩ (.int .u64 (if u < y then (y : Int) else (u : Int)))).alloc (.cells #[.slice (some ⟨nr, 0, none⟩) m c2] 83)).cell? ⟨n3, 0, none⟩ = some (.slice (some ⟨nr, 0, none⟩) m c2) := (hs5 ▸ blk_new (w4.setCell ⟨nr, q, none⟩ (.int .u64 (if u < y then (y : Int) else (u : Int)))) #[.slice (some ⟨nr, 0, none⟩) m c2] 83).cell 0 rfl
        have t0 : (w4.setCell ⟨nr, q, none⟩ (.int .u64 (if u < y then (y : Int) else (u : Int)))).cell? ⟨nt, 0, none⟩ = some v := hbd5.blk.cell 0 rfl
        have HU6 := Lib.hid hu6
        have HONE := Lib.hid hone
        have HBD6 := Lib.hid hbd6
        have HWB : Hid (Below n0 w ((w4.setCell ⟨nr, q, none⟩ (.int .u64 (if u < y then (y : Int) else (u : Int)))).alloc (.cells #[.slice (some ⟨nr, 0, none⟩) m c2] 83)) ∧ Blk ((w4.setCell ⟨nr, q, none⟩ (.int .u64 (if u < y then (y : Int) else (u : Int)))).alloc (.cells #[.slice (some ⟨nr, 0, none⟩) m c2] 83)) n0 #[.slice (some ⟨c, 0, none⟩) r cc, .int .i64 (m : Int), .int .u64 (seed : Int), .int .u64 (tot : Int)] 38 ∧ Blk ((w4.setCell ⟨nr, q, none⟩ (.int .u64 (if u < y then (y : Int) else (u : Int)))).alloc (.cells #[.slice (some ⟨nr, 0, none⟩) m c2] 83)) (n0 + 1) #[.slice none 0 0, .int .i64 0, .int .u64 0, .int .u64 0] 38) := Lib.hid (by
          have h1 : Below wr.heap.size wr ((w4.setCell ⟨nr, q, none⟩ (.int .u64 (if u < y then (y : Int) else (u : Int)))).alloc (.cells #[.slice (some ⟨nr, 0, none⟩) m c2] 83)) := hb5.alloc hb5.size _
          exact ⟨HW.out.1.trans (h1.mono (by omega)), HW.out.2.1.later h1, HW.out.2.2.later h1⟩)
        clear g4 HB4 HO4 hst3 hset hb5 hbl6 hbd5 hbd6 hu6 hone hs5 HW
        obtain ⟨i0, hi, hz0, hz1, hz2⟩ := info_parts info_cells
        go_wp2_with (at_builtin; refine wpList_append_lies _ rfl (.tmp 54) (.tmp 56) 36 rfl (nt + 1) 83 i0 (.slice none 0 0) 1 24 Tryd.underlying36 hi hz0 hz1 hz2 rfl (by decide) v k vs rfl HBD6.out.own ⟨n3, 0, none⟩ 1 1 [.slice (some ⟨nr, 0, none⟩) m c2] rfl rfl (one_at HONE.out) (by simp [Value.oneCell']) (by decide) (by unfold maxLen; omega) (by omega) HBD6.out.le _ rfl ?_; intro g2 c3 w7 hown7 hgr7 _ _; have hbk7 : Blk w7 nt _ _ := HBD6.out.blk.same (hgr7.block _ HBD6.out.blk.lt (fun e => by have := (HBD6.out.own.lt nt e.symm).1; omega)); have t7 : w7.cell? ⟨nt, 0, none⟩ = some v := hbk7.cell 0 rfl; have f7 := hbk7.free 0; have HMORE := Lib.hid (HBD6.out.more (g := gf) HU6.out hgr7 hown7 (fun _ _ => rfl)); have HB7 := Lib.hid (show Below n0 w (w7.setCell ⟨nt, 0, none⟩ (.slice (some ⟨g2, 0, none⟩) (k + 1) c3)) ∧ Blk (w7.setCell ⟨nt, 0, none⟩ (.slice (some ⟨g2, 0, none⟩) (k + 1) c3)) n0 _ _ ∧ Blk (w7.setCell ⟨nt, 0, none⟩ (.slice (some ⟨g2, 0, none⟩) (k + 1) c3)) (n0 + 1) _ _ from ⟨(HWB.out.1.grown hgr7 (Nat.le_trans (by omega) HBD6.out.le) (fun j hj => by have := (HBD6.out.own.lt j hj).1; omega)).setCell (by simp; omega) _, (HWB.out.2.1.same (hgr7.block _ HWB.out.2.1.lt (fun e => by have := (HBD6.out.own.lt n0 e.symm).1; omega))).same (Below.heap_setCell _ _ _ _ (by simp; omega)), (HWB.out.2.2.same (hgr7.block _ HWB.out.2.2.lt (fun e => by have := (HBD6.out.own.lt (n0 + 1) e.symm).1; omega))).same (Below.heap_setCell _ _ _ _ (by simp; omega))⟩); clear hown7 hgr7 hbk7)
        go_roundw
        case rel => exact ⟨k + 1, by omega, by go_num, Lib.hid ⟨_, _, HMORE.out⟩, HB7⟩
        case measure => simp [intOf]; omega
      · obtain rfl : k = r := by omega
        have dl : decide ((k : Int) < (k : Int)) = false := by simp
        obtain ⟨v, vs, hbd⟩ := HV.out
        obtain ⟨c2, cc2, rfl, hrs⟩ := hbd.refS hr1 hm1
        have b0 := hbd.blk.cell 0 rfl
        have b1 := hbd.blk.cell 1 rfl
        have b2 := hbd.blk.cell 2 rfl
        have b3 := hbd.blk.cell 3 rfl
        have HRS := Lib.hid hrs
        have HBK3 := Lib.hid HW.out.2.2
        have HBW := Lib.hid HW.out.1
        clear hbd hrs HV HW hst hst2
        go_wp2_with (refine wpList_store_row rfl 38 (.tmp 6) _ rfl (n0 + 1) #[.slice (some ⟨c2, 0, none⟩) k cc2, .int .i64 (m : Int), .int .u64 (seed : Int), .int .u64 (z : Int)] rfl rfl 38 #[.slice none 0 0, .int .i64 0, .int .u64 0, .int .u64 0] HBK3.out (by kernel_rfl) rfl (by simp [Value.oneCell']) ?_)
        have hrz := setRow_heap _ _ _ #[.slice (some ⟨c2, 0, none⟩) k cc2, .int .i64 (m : Int), .int .u64 (seed : Int), .int .u64 (z : Int)] _ _ HBK3.out
        have r0 := cell_of_row _ _ 0 _ _ _ hrz
        have r1 := cell_of_row _ _ 1 _ _ _ hrz
        have r2 := cell_of_row _ _ 2 _ _ _ hrz
        have r3 := cell_of_row _ _ 3 _ _ _ hrz
        refine bodyPost_ret (v := .agg #[.slice (some ⟨c2, 0, none⟩) k cc2, .int .i64 (m : Int), .int .u64 (seed : Int), .int .u64 (z : Int)]) (by simp [results, Tryd.results43, go_sem, r0, r1, r2, r3]) rfl ⟨c2, cc2, rfl, ?_, below_setRow HBW.out (by omega) _⟩
        exact (HRS.out _ (by simp [World.setRow]) (fun i h1 _ => setRow_other _ _ _ _ (by omega))).mono (Nat.le_refl _) (by omega)
end Go.Proofs.YtkhbodlffhfmnaaDoor
