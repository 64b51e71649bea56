/-
  What the document's own plus, place and Count of sketches do: the sum that stops, a key's place, the least of the cells there; nothing that lay has turned.
-/
import Derived.Deep.RegionHeld
import Derived.Test.YtkhbodlffhfmnaaDoorHashRef
import Derived.Test.YtkhbodlffhfmnaaDoorSkFind
namespace Go.Proofs.YtkhbodlffhfmnaaDoor
open Go.RowKit Go.Proofs.HashMath Go.Proofs.SkMath

set_option maxRecDepth 100000 in
set_option maxHeartbeats 1000000 in
theorem refPlus_any (a b : Nat) (w : World) (ha : a < 18446744073709551616) (hb : b < 18446744073709551616) :
    Calls Tryd.prog 51 #[.int .u64 (a : Int), .int .u64 (b : Int)] w fun e w' => e = .returned (.int .u64 (plus a b : Int)) ∧ w = w' := by
  obtain ⟨d, hd, hd'⟩ : ∃ d : Nat, IntKind.u64.wrap (18446744073709551615 - (b : Int)) = (d : Int) ∧ d = 18446744073709551615 - b := ⟨18446744073709551615 - b, by rw [IntKind.wrap_u64]; omega, rfl⟩
  go_enter Tryd.func51, Tryd.ntmps51
  go_wp2_with fail
  all_goals
    go_ret
    refine ⟨ret_i ?_, rfl⟩
    unfold plus
    split <;> omega

/-- The document's sketch: a row of rows of cells, in blocks from lo on, below n₀. -/
def RefS (lo n₀ : Nat) (W : World) (c cc r m : Nat) (f : Nat → Nat → Nat) : Prop :=
  (lo ≤ c ∧ c < n₀) ∧ r ≤ cc ∧ cc ≤ 9223372036854775807 ∧ ∀ i, i < r → ∃ g ci, W.cell? ⟨c, i, none⟩ = some (.slice (some ⟨g, 0, none⟩) m ci) ∧ (lo ≤ g ∧ g < n₀) ∧ m ≤ ci ∧ ci ≤ 9223372036854775807 ∧ ∀ j, j < m → W.cell? ⟨g, j, none⟩ = some (n64 (f i j))
theorem RefS.below {lo n₀ : Nat} {W W' : World} {c cc r m : Nat} {f : Nat → Nat → Nat} (h : RefS lo n₀ W c cc r m f) (hb : Below n₀ W W') : RefS lo n₀ W' c cc r m f := by
  obtain ⟨h1, h2, h3, h4⟩ := h
  refine ⟨h1, h2, h3, fun i hi => ?_⟩
  obtain ⟨g, ci, e1, e2, e3, e4, e5⟩ := h4 i hi
  exact ⟨g, ci, (hb.cell (p := ⟨c, i, none⟩) h1.2).trans e1, e2, e3, e4, fun j hj => (hb.cell (p := ⟨g, j, none⟩) e2.2).trans (e5 j hj)⟩
theorem RefS.mut {lo n₀ : Nat} {W W' : World} {c cc r m : Nat} {f : Nat → Nat → Nat} {bs : List Nat} (h : RefS lo n₀ W c cc r m f) (hb : Mut bs W W') (hbs : ∀ b ∈ bs, b < lo) (hn : n₀ ≤ W.heap.size) : RefS lo n₀ W' c cc r m f := by
  obtain ⟨h1, h2, h3, h4⟩ := h
  have far : ∀ k, lo ≤ k → k ∉ bs := fun k hk hm => by have := hbs k hm; omega
  refine ⟨h1, h2, h3, fun i hi => ?_⟩
  obtain ⟨g, ci, e1, e2, e3, e4, e5⟩ := h4 i hi
  exact ⟨g, ci, (World.cell?_of_block (w := W) (a := ⟨c, i, none⟩) (hb.block c (by omega) (far c h1.1))).trans e1, e2, e3, e4, fun j hj => (World.cell?_of_block (w := W) (a := ⟨g, j, none⟩) (hb.block g (by omega) (far g e2.1))).trans (e5 j hj)⟩
theorem RefS.mono {lo lo' n₀ n₁ : Nat} {W : World} {c cc r m : Nat} {f : Nat → Nat → Nat} (h : RefS lo n₀ W c cc r m f) (hn : n₀ ≤ n₁) (hl : lo' ≤ lo) : RefS lo' n₁ W c cc r m f := by
  obtain ⟨h1, h2, h3, h4⟩ := h
  refine ⟨by omega, h2, h3, fun i hi => ?_⟩
  obtain ⟨g, ci, e1, e2, e3, e4, e5⟩ := h4 i hi
  exact ⟨g, ci, e1, by omega, e3, e4, e5⟩
theorem RefS.later {lo : Nat} {W W' : World} {c cc r m : Nat} {f : Nat → Nat → Nat} (h : RefS lo W.heap.size W c cc r m f) (hb : Below W.heap.size W W') : RefS lo W'.heap.size W' c cc r m f := (h.below hb).mono hb.size (Nat.le_refl _)

set_option maxRecDepth 100000 in
set_option maxHeartbeats 1000000 in
theorem refPlace_any (c cc r m seed tot i : Nat) (s : ByteArray) (w : World) (hi : i ≤ 8) (hm : m ≤ 1024) (hs : s.size ≤ 9223372036854775807) :
    Calls Tryd.prog 42 #[.agg #[.slice (some ⟨c, 0, none⟩) r cc, .int .i64 (m : Int), .int .u64 (seed : Int), .int .u64 (tot : Int)], .int .i64 (i : Int), .string s] w fun e w' => e = .returned (.int .i64 (placeOf seed s.data.toList m i : Int)) ∧ Below w.heap.size w w' := by
  obtain ⟨x, hx, hx', hxl⟩ := seed_name (seed := seed) i
  have hI := fun W => refIn_any x s (m : Int) W hxl hs (by omega) (by omega)
  have e : inText x s.data.toList (m : Int) = placeOf seed s.data.toList m i := by rw [hx']; rfl
  rw [e] at hI
  obtain ⟨y, hy⟩ : ∃ y, placeOf seed s.data.toList m i = y := ⟨_, rfl⟩
  rw [hy] at hI ⊢
  have HI := Lib.hid hI
  have hB : Hid (Below w.heap.size w (w.alloc (.cells #[.slice (some ⟨c, 0, none⟩) r cc, .int .i64 (m : Int), .int .u64 (seed : Int), .int .u64 (tot : Int)] 38))) := Lib.hid (box_below _)
  clear hI e hy hx'
  go_enter Tryd.func42, Tryd.ntmps42
  go_wp2_with fail
  refine (HI.out _).mono ?_
  rintro e w1 ⟨rfl, rfl⟩
  go_wp2_with fail
  go_ret
  exact ⟨rfl, hB.out⟩

set_option linter.unusedSimpArgs false in
set_option maxRecDepth 100000 in
set_option maxHeartbeats 2000000 in
theorem refCount_any (lo c cc r m seed tot : Nat) (f : Nat → Nat → Nat) (s : ByteArray) (w : World) (hr8 : r ≤ 8) (hm1 : 1 ≤ m) (hm : m ≤ 1024) (hf : ∀ i j, f i j < 18446744073709551616) (hR : RefS lo w.heap.size w c cc r m f) (hs : s.size ≤ 9223372036854775807) :
    Calls Tryd.prog 30 #[.agg #[.slice (some ⟨c, 0, none⟩) r cc, .int .i64 (m : Int), .int .u64 (seed : Int), .int .u64 (tot : Int)], .string s] w fun e w' => e = .returned (.int .u64 (least (placeOf seed s.data.toList m) f r : Int)) ∧ Below w.heap.size w w' := by
  have hP := fun i (hi : i ≤ 8) W => refPlace_any c cc r m seed tot i s W hi hm hs
  obtain ⟨p, hp⟩ : ∃ p, placeOf seed s.data.toList m = p := ⟨_, rfl⟩
  have hpm : ∀ i, p i < m := fun i => hp ▸ place_lt seed _ hm1 i
  rw [hp] at hP ⊢
  obtain ⟨x, hx⟩ : ∃ x, least p f r = x := ⟨_, rfl⟩
  have HX := Lib.hid hx
  rw [hx]
  obtain ⟨n0, hn0⟩ : ∃ n0, w.heap.size = n0 := ⟨_, rfl⟩
  have hB : Below n0 w (w.alloc (.cells #[.slice (some ⟨c, 0, none⟩) r cc, .int .i64 (m : Int), .int .u64 (seed : Int), .int .u64 (tot : Int)] 38)) := hn0 ▸ box_below _
  have hbl := blk_new w #[.slice (some ⟨c, 0, none⟩) r cc, .int .i64 (m : Int), .int .u64 (seed : Int), .int .u64 (tot : Int)] 38
  rw [hn0] at hbl hR ⊢
  have HB := Lib.hid hB
  have HBL := Lib.hid hbl
  have HR := Lib.hid hR
  have HP := Lib.hid hP
  have HPM := Lib.hid hpm
  have HF := Lib.hid hf
  clear hx hp hP hpm hB hbl hR hf
  go_enter Tryd.func30, Tryd.ntmps30
  go_wp2_with fail
  go_loopw [5, 6] (fun cv kv wr => ∃ k q : Nat, k ≤ r ∧ kv = .int .i64 (k : Int) ∧ cv = .int .u64 (q : Int) ∧ q < 18446744073709551616 ∧ Hid (q = least p f k) ∧ Hid (n0 < wr.heap.size ∧ Below n0 w wr ∧ Blk wr n0 #[.slice (some ⟨c, 0, none⟩) r cc, .int .i64 (m : Int), .int .u64 (seed : Int), .int .u64 (tot : Int)] 38)) (fun _ kv _ => r - (intOf kv).toNat)
  case atStart => exact ⟨0, 18446744073709551615, by omega, rfl, rfl, by omega, rfl, Lib.hid ⟨HBL.out.lt, HB.out, HBL.out⟩⟩
  case round =>
    obtain ⟨k, q, hk, rfl, rfl, hq, HQ, HW⟩ := hrel
    obtain ⟨hsz, hbw, hbk⟩ := HW.out
    have k0 : wr.cell? ⟨n0, 0, none⟩ = some (.slice (some ⟨c, 0, none⟩) r cc) := hbk.cell 0 rfl
    by_cases hlt : k < r
    · have dl : decide ((k : Int) < (r : Int)) = true := by simp; omega
      obtain ⟨⟨_, hcn⟩, _, _, hrows⟩ := HR.out
      obtain ⟨g, ci, e1, ⟨_, e2⟩, e3, e4, e5⟩ := hrows k hlt
      have hpk := HPM.out k
      have hce := e5 (p k) hpk
      obtain ⟨y, hy⟩ : ∃ y, f k (p k) = y := ⟨_, rfl⟩
      have hyl := HF.out k (p k)
      have hPk := HP.out k (by omega)
      obtain ⟨z, hz⟩ : ∃ z, p k = z := ⟨_, rfl⟩
      have hmin : least p f (k + 1) = min q y := by rw [HQ.out, ← hy]; rfl
      have HM := Lib.hid hmin
      rw [hy] at hce hyl
      rw [hz] at hce hpk hPk
      unfold n64 at hce
      have HPK := Lib.hid hPk
      have HE1 := Lib.hid e1
      have HCE := Lib.hid hce
      have hbd : Below n0 w wr.drew := hbw.drew
      have hbkd : Blk wr.drew n0 #[.slice (some ⟨c, 0, none⟩) r cc, .int .i64 (m : Int), .int .u64 (seed : Int), .int .u64 (tot : Int)] 38 := hbk
      have hsd : n0 < wr.drew.heap.size := hsz
      clear hrows e1 e5 hce hmin hPk hy hz HQ HW hbw hbk hsz
      go_wp2_with fail
      refine wp_region_held_drew (S := fun W => n0 < W.heap.size ∧ Below n0 w W ∧ Blk W n0 #[.slice (some ⟨c, 0, none⟩) r cc, .int .i64 (m : Int), .int .u64 (seed : Int), .int .u64 (tot : Int)] 38) (by kernel_rfl) ?_ (fun hHeld => ?_)
      · exact ⟨hsd, hbd, hbkd⟩
      refine wpAnyH_take (i := 0) (v := ?_) rfl (by kernel_rfl) (by kernel_rfl) (by kernel_rfl) (fun _ _ _ h => h) (Or.inl ⟨by rfl, ?_⟩) (by assumption) ?_
      rotate_left
      · intro wq hSw; (try dsimp only at hSw); go_simp; (try with_reducible rfl)
      simp only [Act.put, List.getElem_toArray, List.getElem_cons_succ, List.getElem_cons_zero, List.setIfInBounds_toArray, List.set_cons_zero, List.set_cons_succ]
      refine wpAnyH_take (i := 1) (v := ?_) rfl (by kernel_rfl) (by kernel_rfl) (by kernel_rfl) (fun _ _ _ h => h) (Or.inl ⟨by rfl, ?_⟩) (by assumption) ?_
      rotate_left
      · intro wq hSw; (try dsimp only at hSw); go_simp; (try with_reducible rfl)
      simp only [Act.put, List.getElem_toArray, List.getElem_cons_succ, List.getElem_cons_zero, List.setIfInBounds_toArray, List.set_cons_zero, List.set_cons_succ]
      refine wpAnyH_take (i := 2) (v := ?_) rfl (by kernel_rfl) (by kernel_rfl) (by kernel_rfl) (fun _ _ _ h => h) (Or.inl ⟨by rfl, ?_⟩) (by assumption) ?_
      rotate_left
      · intro wq hSw; (try dsimp only at hSw); have q0 := hSw.2.2.cell 0 rfl; go_simp; (try with_reducible rfl)
      simp only [Act.put, List.getElem_toArray, List.getElem_cons_succ, List.getElem_cons_zero, List.setIfInBounds_toArray, List.set_cons_zero, List.set_cons_succ]
      refine wpAnyH_take (i := 3) (v := ?_) rfl (by kernel_rfl) (by kernel_rfl) (by kernel_rfl) (fun _ _ _ h => h) (Or.inl ⟨by rfl, ?_⟩) (by assumption) ?_
      rotate_left
      · intro wq hSw; (try dsimp only at hSw); go_simp; (try with_reducible rfl)
      simp only [Act.put, List.getElem_toArray, List.getElem_cons_succ, List.getElem_cons_zero, List.setIfInBounds_toArray, List.set_cons_zero, List.set_cons_succ]
      refine wpAnyH_take (i := 4) (v := ?_) rfl (by kernel_rfl) (by kernel_rfl) (by kernel_rfl) (fun _ _ _ h => h) (Or.inl ⟨by rfl, ?_⟩) (by assumption) ?_
      rotate_left
      · intro wq hSw; (try dsimp only at hSw); go_simp; (try with_reducible rfl)
      simp only [Act.put, List.getElem_toArray, List.getElem_cons_succ, List.getElem_cons_zero, List.setIfInBounds_toArray, List.set_cons_zero, List.set_cons_succ]
      refine wpAnyH_take (i := 5) (v := ?_) rfl (by kernel_rfl) (by kernel_rfl) (by kernel_rfl) (fun _ _ _ h => h) (Or.inl ⟨by rfl, ?_⟩) (by assumption) ?_
      rotate_left
      · intro wq hSw; (try dsimp only at hSw); have q1 := (hSw.2.1.cell (p := ⟨c, k, none⟩) hcn).trans HE1.out; go_simp; (try with_reducible rfl)
      simp only [Act.put, List.getElem_toArray, List.getElem_cons_succ, List.getElem_cons_zero, List.setIfInBounds_toArray, List.set_cons_zero, List.set_cons_succ]
      refine wpAnyH_take (i := 6) (v := ?_) rfl (by kernel_rfl) (by kernel_rfl) (by kernel_rfl) (fun _ _ _ h => h) (Or.inl ⟨by rfl, ?_⟩) (by assumption) ?_
      rotate_left
      · intro wq hSw; (try dsimp only at hSw); have q0 := hSw.2.2.cell 0 rfl; have q1 := hSw.2.2.cell 1 rfl; have q2 := hSw.2.2.cell 2 rfl; have q3 := hSw.2.2.cell 3 rfl; go_simp; (try with_reducible rfl)
      simp only [Act.put, List.getElem_toArray, List.getElem_cons_succ, List.getElem_cons_zero, List.setIfInBounds_toArray, List.set_cons_zero, List.set_cons_succ]
      refine wpAnyH_take (i := 7) (v := ?_) rfl (by kernel_rfl) (by kernel_rfl) (by kernel_rfl) (fun _ _ _ h => h) (Or.inl ⟨by rfl, ?_⟩) (by assumption) ?_
      rotate_left
      · intro wq hSw; (try dsimp only at hSw); go_simp; (try with_reducible rfl)
      simp only [Act.put, List.getElem_toArray, List.getElem_cons_succ, List.getElem_cons_zero, List.setIfInBounds_toArray, List.set_cons_zero, List.set_cons_succ]
      refine wpAnyH_take (i := 8) (v := ?_) rfl (by kernel_rfl) (by kernel_rfl) (by kernel_rfl) (fun _ _ _ h => h) (Or.inl ⟨by rfl, ?_⟩) (by assumption) ?_
      rotate_left
      · intro wq hSw; (try dsimp only at hSw); go_simp; (try with_reducible rfl)
      simp only [Act.put, List.getElem_toArray, List.getElem_cons_succ, List.getElem_cons_zero, List.setIfInBounds_toArray, List.set_cons_zero, List.set_cons_succ]
      refine wpAnyH_ready (rs := [9]) (by kernel_rfl) (by simp) ?_
      refine AllReadyH.cons rfl (fun K hK => ?_) AllReadyH.nil
      go_simp
      refine (HPK.out _).mono ?_
      rintro e wx ⟨rfl, hbx⟩
      (try go_wp2_with fail)
      refine hK.out _ _ ?_ (fun hHeld => ?_)
      · exact ⟨Nat.lt_of_lt_of_le hHeld.1 hbx.size, hHeld.2.1.trans (hbx.mono (Nat.le_of_lt hHeld.1)), hHeld.2.2.later hbx⟩
      clear hK K
      try simp only [Act.put, List.getElem_toArray, List.getElem_cons_succ, List.getElem_cons_zero, List.setIfInBounds_toArray, List.set_cons_zero, List.set_cons_succ]
      refine wpAnyH_take (i := 10) (v := ?_) rfl (by kernel_rfl) (by kernel_rfl) (by kernel_rfl) (fun _ _ _ h => h) (Or.inl ⟨by rfl, ?_⟩) (by assumption) ?_
      rotate_left
      · intro wq hSw; (try dsimp only at hSw); go_simp; (try with_reducible rfl)
      simp only [Act.put, List.getElem_toArray, List.getElem_cons_succ, List.getElem_cons_zero, List.setIfInBounds_toArray, List.set_cons_zero, List.set_cons_succ]
      refine wpAnyH_take (i := 11) (v := ?_) rfl (by kernel_rfl) (by kernel_rfl) (by kernel_rfl) (fun _ _ _ h => h) (Or.inl ⟨by rfl, ?_⟩) (by assumption) ?_
      rotate_left
      · intro wq hSw; (try dsimp only at hSw); have q1 := (hSw.2.1.cell (p := ⟨g, z, none⟩) e2).trans HCE.out; go_simp; (try with_reducible rfl)
      simp only [Act.put, List.getElem_toArray, List.getElem_cons_succ, List.getElem_cons_zero, List.setIfInBounds_toArray, List.set_cons_zero, List.set_cons_succ]
      refine wpAnyH_take (i := 12) (v := ?_) rfl (by kernel_rfl) (by kernel_rfl) (by kernel_rfl) (fun _ _ _ h => h) (Or.inl ⟨by rfl, ?_⟩) (by assumption) ?_
      rotate_left
      · intro wq hSw; (try dsimp only at hSw); go_simp; (try with_reducible rfl)
      simp only [Act.put, List.getElem_toArray, List.getElem_cons_succ, List.getElem_cons_zero, List.setIfInBounds_toArray, List.set_cons_zero, List.set_cons_succ]
      refine wpAnyH_take (i := 13) (v := ?_) rfl (by kernel_rfl) (by kernel_rfl) (by kernel_rfl) (fun _ _ _ h => h) (Or.inl ⟨by rfl, ?_⟩) (by assumption) ?_
      rotate_left
      · intro wq hSw; (try dsimp only at hSw); go_simp; (try with_reducible rfl)
      simp only [Act.put, List.getElem_toArray, List.getElem_cons_succ, List.getElem_cons_zero, List.setIfInBounds_toArray, List.set_cons_zero, List.set_cons_succ]
      have HW := Lib.hid hHeld
      refine wpAnyH_done (by kernel_rfl) ?_ _
      clear hHeld
      go_wp2_with fail
      go_roundw
      case rel => exact ⟨k + 1, min q y, by omega, by go_num, min_val q y, by omega, HM.out.symm, HW⟩
      case measure => simp [intOf]; omega
    · obtain rfl : k = r := by omega
      have dl : decide ((k : Int) < (k : Int)) = false := by simp
      have e : q = x := by rw [HQ.out, HX.out]
      subst e
      have HBE := Lib.hid hbw
      clear HQ HX HW hbw hbk
      go_wp2
      go_ret
      exact ⟨rfl, HBE.out⟩
end Go.Proofs.YtkhbodlffhfmnaaDoor
