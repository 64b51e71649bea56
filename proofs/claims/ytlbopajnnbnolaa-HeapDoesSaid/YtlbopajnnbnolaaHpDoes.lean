/-
  What the law's own 'does' does: one deed, to both heaps; both tell the same.
-/
import Derived.IntWalk
import Derived.Test.YtlbopajnnbnolaaHpBoth
namespace Go.Proofs.Ytlbopajnnbnolaa
open Go.RowKit Go.Maps Go.Proofs.HeapMath

/-- What stands behind a deed's first three blocks. -/
structure Dz (W W3 : World) (n0 : Nat) (A : Option Addr) (n cap most x y z : Nat) (s : List Tm) (bs : List Nat) (w₀ : World) (S : Nat) : Prop where
  size : W.heap.size = n0
  below : Below n0 W W3
  h : Blk W3 n0 #[.slice A n cap, .int .i64 (most : Int)] 40
  d : Blk W3 (n0 + 1) #[.int .u8 (x : Int), .int .u8 (y : Int), .int .u8 (z : Int)] 47
  r : Blk W3 (n0 + 1 + 1) #[.slice none 0 0, .int .i64 0] 40
  s3 : W3.heap.size = n0 + 3
  bo : Bo w₀ W S most s A n cap bs
theorem Dz.dc {W W3 : World} {n0 : Nat} {A : Option Addr} {n cap most x y z : Nat} {s : List Tm} {bs : List Nat} {w₀ : World} {S : Nat} (h : Dz W W3 n0 A n cap most x y z s bs w₀ S) : Dc W3 A n cap s ((n0 + 1 + 1) :: bs) ∧ (∀ k ∈ (n0 + 1 + 1) :: bs, k < W3.heap.size) ∧ Nn s ∧ (∀ k ∈ bs, k < n0) := by
  have hs := h.size
  have hlt := h.bo.ow.1.lt
  refine ⟨(h.bo.dc.mut (Mut.refl _ _) (fun k hk => ?_)).later (hs ▸ h.below), fun k hk => ?_, h.bo.ow.1.so.2.1, fun k hk => hs ▸ hlt k hk⟩
  · rcases List.mem_cons.1 hk with rfl | hk
    · exact .inr (by omega)
    · exact .inl hk
  · rw [h.s3]
    rcases List.mem_cons.1 hk with rfl | hk
    · omega
    · have := hlt k hk; omega
/-- Behind the document's answer, and the box that it was laid in. -/
theorem Dz.mid {W W3 w4 : World} {n0 : Nat} {A : Option Addr} {n cap most x y z : Nat} {s : List Tm} {bs : List Nat} {w₀ : World} {S : Nat} (h : Dz W W3 n0 A n cap most x y z s bs w₀ S) (hb : Below W3.heap.size W3 w4) :
    Below n0 W w4 ∧ Ow w₀ w4 S most s bs ∧ Blk w4 (n0 + 1) #[.int .u8 (x : Int), .int .u8 (y : Int), .int .u8 (z : Int)] 47 ∧ Blk w4 (n0 + 1 + 1) #[.slice none 0 0, .int .i64 0] 40 ∧ n0 + 3 ≤ w4.heap.size := by
  have hs := h.size
  have h3 := h.s3
  have hb2 : Below n0 W w4 := h.below.trans (hb.mono (by omega))
  exact ⟨hb2, h.bo.ow.later (hs ▸ hb2), h.d.same (hb.block _ (by omega)), h.r.same (hb.block _ (by omega)), by have := hb.size; omega⟩
theorem Ow.drew' {w₀ W : World} {S most : Nat} {s : List Tm} {bs : List Nat} (h : Ow w₀ W S most s bs) : Ow w₀ W.drew S most s bs := h.later ⟨rfl, rfl, rfl, Nat.le_refl _, fun _ _ => rfl⟩

set_option linter.unusedSimpArgs false in
set_option maxRecDepth 100000 in
set_option maxHeartbeats 4000000 in
theorem does_any {w₀ W : World} {S most n cap : Nat} {s : List Tm} {A : Option Addr} {bs : List Nat} (x y z : Nat) (h : Bo w₀ W S most s A n cap bs) (hm : most ≤ 20) (hx : x ≤ 255) (hy : y ≤ 255) (hz : z ≤ 255) :
    Calls Try.prog 16 #[.pointer (some ⟨S, 0, none⟩), .agg #[.slice A n cap, .int .i64 (most : Int)], .agg #[.int .u8 (x : Int), .int .u8 (y : Int), .int .u8 (z : Int)]] W (DoesE w₀ W S most bs) := by
  obtain ⟨n0, hn0⟩ : ∃ n0, W.heap.size = n0 := ⟨_, rfl⟩
  have hB : Below n0 W (((W.alloc (.cells #[.slice A n cap, .int .i64 (most : Int)] 40)).alloc (.cells #[.int .u8 (x : Int), .int .u8 (y : Int), .int .u8 (z : Int)] 47)).alloc (.cells #[.slice none 0 0, .int .i64 0] 40)) := by
    rw [← hn0]
    exact ((box_below _).alloc (by simp) _).alloc (by simp; omega) _
  have hk0 := blk_new W #[.slice A n cap, .int .i64 (most : Int)] 40
  have hk1 := blk_new (W.alloc (.cells #[.slice A n cap, .int .i64 (most : Int)] 40)) #[.int .u8 (x : Int), .int .u8 (y : Int), .int .u8 (z : Int)] 47
  have hk2 := blk_new ((W.alloc (.cells #[.slice A n cap, .int .i64 (most : Int)] 40)).alloc (.cells #[.int .u8 (x : Int), .int .u8 (y : Int), .int .u8 (z : Int)] 47)) #[.slice none 0 0, .int .i64 0] 40
  simp only [World.size_alloc, hn0] at hk0 hk1 hk2
  have hk0' := (hk0.later (box_below (.cells #[.int .u8 (x : Int), .int .u8 (y : Int), .int .u8 (z : Int)] 47))).later (box_below (.cells #[.slice none 0 0, .int .i64 0] 40))
  have hk1' := hk1.later (box_below (.cells #[.slice none 0 0, .int .i64 0] 40))
  obtain ⟨W3, hW3⟩ : ∃ W3, ((W.alloc (.cells #[.slice A n cap, .int .i64 (most : Int)] 40)).alloc (.cells #[.int .u8 (x : Int), .int .u8 (y : Int), .int .u8 (z : Int)] 47)).alloc (.cells #[.slice none 0 0, .int .i64 0] 40) = W3 := ⟨_, rfl⟩
  have hs3 : W3.heap.size = n0 + 3 := by rw [← hW3]; simp [hn0]
  rw [hW3] at hB hk0' hk1' hk2
  have hdz : Dz W W3 n0 A n cap most x y z s bs w₀ S := ⟨hn0, hB, hk0', hk1', hk2, hs3, h⟩
  have k0 := hk0'.cell 0 rfl
  have k1 := hk0'.cell 1 rfl
  have d0 := hk1'.cell 0 rfl
  have d1 := hk1'.cell 1 rfl
  have d2 := hk1'.cell 2 rfl
  obtain ⟨no, hno, hno2⟩ : ∃ no : Nat, (z : Int) % 16 = (no : Int) ∧ no ≤ 15 := ⟨z % 16, by omega, by omega⟩
  obtain ⟨q, hq, hq2⟩ : ∃ q : Nat, (x : Int) % 6 = (q : Int) ∧ q ≤ 5 := ⟨x % 6, by omega, by omega⟩
  obtain ⟨hdc, hbL, hnn, hbs0⟩ := hdz.dc
  have h0W : w₀.heap.size ≤ W.heap.size := h.ow.2.1.size
  have HZ := Lib.hid hdz
  have HW := Lib.hid (show w₀.heap.size ≤ W.heap.size ∧ (∀ k ∈ bs, k < n0) from ⟨h0W, hbs0⟩)
  have hcases : q = 0 ∨ q = 1 ∨ q = 2 ∨ q = 3 ∨ q = 4 ∨ q = 5 := by omega
  clear hB hk0 hk1 hk2 hk0' hk1' hs3 hdz h h0W hbs0
  rcases hcases with hq3 | hq3 | hq3 | hq3 | hq3 | hq3
  · subst hq3
    obtain ⟨ta, hta, hta2⟩ : ∃ ta : Nat, (y : Int) % 9 = (ta : Int) ∧ ta ≤ 8 := ⟨y % 9, by omega, by omega⟩
    have htm : (y : Int).tmod 9 = (ta : Int) := by rw [Int.tmod_eq_emod_of_nonneg (by omega)]; exact hta
    have hP := refPush_any (most := most) ((ta : Int), (no : Int)) W3 hdc hnn hbL (by omega)
    simp only at hP
    have hin : In64 ((ta : Int), (no : Int)) := ⟨by simp only; omega, by simp only; omega⟩
    have HIN := Lib.hid hin
    have HPP := Lib.hid hP
    obtain ⟨er, her, her2⟩ : ∃ er, pushE most ((ta : Int), (no : Int)) s = er ∧ er ≤ 70 := ⟨_, rfl, by unfold pushE; split; omega; split <;> omega⟩
    have HWR : Hid (IntKind.i64.wrap (ta : Int) = (ta : Int)) := Lib.hid (IntWalk.i64_in _ (by omega))
    have HWE : Hid (IntKind.i64.wrap (er : Int) = (er : Int)) := Lib.hid (IntWalk.i64_in _ (by omega))
    obtain ⟨s', hs'⟩ : ∃ s', pushS most ((ta : Int), (no : Int)) s = s' := ⟨_, rfl⟩
    rw [her, hs'] at HPP
    have HES := Lib.hid (show pushE most ((ta : Int), (no : Int)) s = er ∧ pushS most ((ta : Int), (no : Int)) s = s' from ⟨her, hs'⟩)
    clear hP hin her hs'
    go_enter Try.func16, Try.ntmps16
    go_wp2_with fail
    refine HPP.out.mono ?_
    rintro e w4 ⟨A', n', cap', rfl, HP4⟩
    have h4d := HP4.out.2
    have hmid := HZ.out.mid HP4.out.1
    obtain ⟨n4, hn4⟩ : ∃ n4, w4.heap.size = n4 := ⟨_, rfl⟩
    have hbx : Below w4.heap.size w4 (w4.alloc (.cells #[.slice A' n' cap', .int .i64 (most : Int)] 40)) := box_below _
    have hk4 := blk_new w4 #[.slice A' n' cap', .int .i64 (most : Int)] 40
    rw [hn4] at hk4
    obtain ⟨m1, m2, m3, m4, m5⟩ := hmid
    rw [hn4] at m5
    have HX : Hid (Below n0 W (w4.alloc (.cells #[.slice A' n' cap', .int .i64 (most : Int)] 40)) ∧ Ow w₀ (w4.alloc (.cells #[.slice A' n' cap', .int .i64 (most : Int)] 40)) S most s bs ∧ Blk (w4.alloc (.cells #[.slice A' n' cap', .int .i64 (most : Int)] 40)) (n0 + 1) #[.int .u8 (x : Int), .int .u8 (y : Int), .int .u8 (z : Int)] 47 ∧ Blk (w4.alloc (.cells #[.slice A' n' cap', .int .i64 (most : Int)] 40)) (n0 + 1 + 1) #[.slice none 0 0, .int .i64 0] 40 ∧ Blk (w4.alloc (.cells #[.slice A' n' cap', .int .i64 (most : Int)] 40)) n4 #[.slice A' n' cap', .int .i64 (most : Int)] 40 ∧ Dc (w4.alloc (.cells #[.slice A' n' cap', .int .i64 (most : Int)] 40)) A' n' cap' s' ((n0 + 1 + 1) :: bs)) :=
      Lib.hid ⟨m1.trans (hbx.mono (by omega)), m2.later hbx, m3.later hbx, m4.later hbx, hk4, h4d.later hbx⟩
    clear h4d hbx hk4 m1 m2 m3 m4 k0 k1 d0 d1 d2 hW3 hdc hbL hnn HP4
    go_wp2_with fail
    clear hn4
    generalize w4.alloc (.cells #[.slice A' n' cap', .int .i64 (most : Int)] 40) = w5 at HX ⊢
    have zd : w5.drew.cell? ⟨n4, 0, none⟩ = some (.slice A' n' cap') ∧ w5.drew.cell? ⟨n4, 1, none⟩ = some (.int .i64 (most : Int)) ∧ w5.drew.cell? ⟨n0 + 1, 1, none⟩ = some (.int .u8 (y : Int)) := ⟨HX.out.2.2.2.2.1.cell 0 rfl, HX.out.2.2.2.2.1.cell 1 rfl, HX.out.2.2.1.cell 1 rfl⟩
    have hH := own_pushE ((ta : Int), (no : Int)) HX.out.2.1.drew' HIN.out
    rw [HES.out.1, HES.out.2] at hH
    simp only at hH
    have HH := Lib.hid hH
    have hkeep : ∀ w6 bs', Ow w₀ w6 S most s' bs' → Mut bs w5.drew w6 → Ext w5.drew bs bs' → (w6.cell? ⟨n4, 0, none⟩ = some (.slice A' n' cap') ∧ w6.cell? ⟨n4, 1, none⟩ = some (.int .i64 (most : Int)) ∧ w6.cell? ⟨n0 + 1, 1, none⟩ = some (.int .u8 (y : Int))) ∧ Blk w6 (n0 + 1 + 1) #[.slice none 0 0, .int .i64 0] 40 ∧
        (Left w₀ W ((w6.setCell ⟨n0 + 1 + 1, 0, none⟩ (.slice A' n' cap')).setCell ⟨n0 + 1 + 1, 1, none⟩ (.int .i64 (most : Int))) S most s' A' n' cap' bs bs' ∧
        ((w6.setCell ⟨n0 + 1 + 1, 0, none⟩ (.slice A' n' cap')).setCell ⟨n0 + 1 + 1, 1, none⟩ (.int .i64 (most : Int))).cell? ⟨n0 + 1 + 1, 0, none⟩ = some (.slice A' n' cap') ∧ ((w6.setCell ⟨n0 + 1 + 1, 0, none⟩ (.slice A' n' cap')).setCell ⟨n0 + 1 + 1, 1, none⟩ (.int .i64 (most : Int))).cell? ⟨n0 + 1 + 1, 1, none⟩ = some (.int .i64 (most : Int))) := fun w6 bs' o1 o2 o3 => by
      have far : ∀ k, n0 ≤ k → k ∉ bs := fun k hk hm => by have := HW.out.2 k hm; omega
      have b4 : Blk w6 n4 #[.slice A' n' cap', .int .i64 (most : Int)] 40 := (HX.out.2.2.2.2.1.later (W' := w5.drew) ⟨rfl, rfl, rfl, Nat.le_refl _, fun _ _ => rfl⟩).mut o2 (far _ (by omega))
      have b1 : Blk w6 (n0 + 1) #[.int .u8 (x : Int), .int .u8 (y : Int), .int .u8 (z : Int)] 47 := (HX.out.2.2.1.later (W' := w5.drew) ⟨rfl, rfl, rfl, Nat.le_refl _, fun _ _ => rfl⟩).mut o2 (far _ (by omega))
      have b2 : Blk w6 (n0 + 1 + 1) #[.slice none 0 0, .int .i64 0] 40 := (HX.out.2.2.2.1.later (W' := w5.drew) ⟨rfl, rfl, rfl, Nat.le_refl _, fun _ _ => rfl⟩).mut o2 (far _ (by omega))
      refine ⟨⟨b4.cell 0 rfl, b4.cell 1 rfl, b1.cell 1 rfl⟩, b2, ?_⟩
      exact does_end (w5 := w5.drew) (a := .slice none 0 0) (b := .int .i64 0) (by rw [HZ.out.size]; omega) HW.out.1 (by rw [HZ.out.size]; exact HW.out.2) (by rw [HZ.out.size]; exact HX.out.1.drew) HX.out.2.2.2.1.lt (HX.out.2.2.2.2.2.later (W' := w5.drew) ⟨rfl, rfl, rfl, Nat.le_refl _, fun _ _ => rfl⟩) o2 o3 o1 HX.out.2.2.2.1
    have HK := Lib.hid hkeep
    clear hH hkeep
    refine wp_region_held_drew (S := fun W => W.cell? ⟨n4, 0, none⟩ = some (.slice A' n' cap') ∧ W.cell? ⟨n4, 1, none⟩ = some (.int .i64 (most : Int)) ∧ W.cell? ⟨n0 + 1, 1, none⟩ = some (.int .u8 (y : Int))) (by kernel_rfl) ?_ (fun hHeld => ?_)
    · exact zd
    refine wpAnyH_take (i := 0) (v := ?_) rfl (by kernel_rfl) (by kernel_rfl) (by kernel_rfl) (fun _ _ _ h => h) (Or.inl ⟨by rfl, ?_⟩) (by assumption) ?_
    rotate_left
    · intro wq hSw; (try dsimp only at hSw); obtain ⟨u0, u1, u2⟩ := hSw; go_simp; (try with_reducible rfl)
    simp only [Act.put, List.getElem_toArray, List.getElem_cons_succ, List.getElem_cons_zero, List.setIfInBounds_toArray, List.set_cons_zero, List.set_cons_succ]
    refine wpAnyH_take (i := 1) (v := ?_) rfl (by kernel_rfl) (by kernel_rfl) (by kernel_rfl) (fun _ _ _ h => h) (Or.inl ⟨by rfl, ?_⟩) (by assumption) ?_
    rotate_left
    · intro wq hSw; (try dsimp only at hSw); go_simp; (try with_reducible rfl)
    simp only [Act.put, List.getElem_toArray, List.getElem_cons_succ, List.getElem_cons_zero, List.setIfInBounds_toArray, List.set_cons_zero, List.set_cons_succ]
    refine wpAnyH_take (i := 2) (v := ?_) rfl (by kernel_rfl) (by kernel_rfl) (by kernel_rfl) (fun _ _ _ h => h) (Or.inl ⟨by rfl, ?_⟩) (by assumption) ?_
    rotate_left
    · intro wq hSw; (try dsimp only at hSw); go_simp; (try with_reducible rfl)
    simp only [Act.put, List.getElem_toArray, List.getElem_cons_succ, List.getElem_cons_zero, List.setIfInBounds_toArray, List.set_cons_zero, List.set_cons_succ]
    refine wpAnyH_take (i := 3) (v := ?_) rfl (by kernel_rfl) (by kernel_rfl) (by kernel_rfl) (fun _ _ _ h => h) (Or.inl ⟨by rfl, ?_⟩) (by assumption) ?_
    rotate_left
    · intro wq hSw; (try dsimp only at hSw); obtain ⟨u0, u1, u2⟩ := hSw; go_simp; (try with_reducible rfl)
    simp only [Act.put, List.getElem_toArray, List.getElem_cons_succ, List.getElem_cons_zero, List.setIfInBounds_toArray, List.set_cons_zero, List.set_cons_succ]
    refine wpAnyH_take (i := 4) (v := ?_) rfl (by kernel_rfl) (by kernel_rfl) (by kernel_rfl) (fun _ _ _ h => h) (Or.inl ⟨by rfl, ?_⟩) (by assumption) ?_
    rotate_left
    · intro wq hSw; (try dsimp only at hSw); go_simp; (try with_reducible rfl)
    simp only [Act.put, List.getElem_toArray, List.getElem_cons_succ, List.getElem_cons_zero, List.setIfInBounds_toArray, List.set_cons_zero, List.set_cons_succ]
    refine wpAnyH_take (i := 5) (v := ?_) rfl (by kernel_rfl) (by kernel_rfl) (by kernel_rfl) (fun _ _ _ h => h) (Or.inl ⟨by rfl, ?_⟩) (by assumption) ?_
    rotate_left
    · intro wq hSw; (try dsimp only at hSw); go_simp; (try with_reducible rfl)
    simp only [Act.put, List.getElem_toArray, List.getElem_cons_succ, List.getElem_cons_zero, List.setIfInBounds_toArray, List.set_cons_zero, List.set_cons_succ]
    refine wpAnyH_take (i := 6) (v := ?_) rfl (by kernel_rfl) (by kernel_rfl) (by kernel_rfl) (fun _ _ _ h => h) (Or.inl ⟨by rfl, ?_⟩) (by assumption) ?_
    rotate_left
    · intro wq hSw; (try dsimp only at hSw); go_simp; (try with_reducible rfl)
    simp only [Act.put, List.getElem_toArray, List.getElem_cons_succ, List.getElem_cons_zero, List.setIfInBounds_toArray, List.set_cons_zero, List.set_cons_succ]
    refine wpAnyH_take (i := 7) (v := ?_) rfl (by kernel_rfl) (by kernel_rfl) (by kernel_rfl) (fun _ _ _ h => h) (Or.inl ⟨by rfl, ?_⟩) (by assumption) ?_
    rotate_left
    · intro wq hSw; (try dsimp only at hSw); go_simp; (try with_reducible rfl)
    simp only [Act.put, List.getElem_toArray, List.getElem_cons_succ, List.getElem_cons_zero, List.setIfInBounds_toArray, List.set_cons_zero, List.set_cons_succ]
    refine wpAnyH_take (i := 10) (v := ?_) rfl (by kernel_rfl) (by kernel_rfl) (by kernel_rfl) (fun _ _ _ h => h) (Or.inl ⟨by rfl, ?_⟩) (by assumption) ?_
    rotate_left
    · intro wq hSw; (try dsimp only at hSw); go_simp; (try with_reducible rfl)
    simp only [Act.put, List.getElem_toArray, List.getElem_cons_succ, List.getElem_cons_zero, List.setIfInBounds_toArray, List.set_cons_zero, List.set_cons_succ]
    refine wpAnyH_ready (rs := [8]) (by kernel_rfl) (by simp) ?_
    refine AllReadyH.cons rfl (fun K hK => ?_) AllReadyH.nil
    go_simp
    simp only [HWR.out]
    ((with_reducible refine HH.out.mono ?_); rintro e w6 ⟨rfl, bs6, H6⟩)
    obtain ⟨hS7, hk7, hL7⟩ := HK.out _ _ H6.out.1 H6.out.2.1 H6.out.2.2
    (try go_wp2_with fail)
    refine hK.out _ _ ?_ (fun hHeld => ?_)
    · exact hS7
    clear hK K
    try simp only [Act.put, List.getElem_toArray, List.getElem_cons_succ, List.getElem_cons_zero, List.setIfInBounds_toArray, List.set_cons_zero, List.set_cons_succ]
    refine wpAnyH_take (i := 9) (v := ?_) rfl (by kernel_rfl) (by kernel_rfl) (by kernel_rfl) (fun _ _ _ h => h) (Or.inl ⟨by rfl, ?_⟩) (by assumption) ?_
    rotate_left
    · intro wq hSw; (try dsimp only at hSw); have hwe := HWE.out; go_simp; (try with_reducible rfl)
    simp only [Act.put, List.getElem_toArray, List.getElem_cons_succ, List.getElem_cons_zero, List.setIfInBounds_toArray, List.set_cons_zero, List.set_cons_succ]
    refine wpAnyH_take (i := 11) (v := ?_) rfl (by kernel_rfl) (by kernel_rfl) (by kernel_rfl) (fun _ _ _ h => h) (Or.inl ⟨by rfl, ?_⟩) (by assumption) ?_
    rotate_left
    · intro wq hSw; (try dsimp only at hSw); go_simp; (try with_reducible rfl)
    simp only [Act.put, List.getElem_toArray, List.getElem_cons_succ, List.getElem_cons_zero, List.setIfInBounds_toArray, List.set_cons_zero, List.set_cons_succ]
    refine wpAnyH_ready (rs := [12]) (by kernel_rfl) (by simp) ?_
    refine AllReadyH.cons rfl (fun K hK => ?_) AllReadyH.nil
    have r0 := hk7.cell 0 rfl
    have r1 := hk7.cell 1 rfl
    have f0 := hk7.free 0
    have f1 := hk7.free 1
    go_simp
    (try go_wp2_with fail)
    refine hK.out _ _ ?_ (fun hHeld => ?_)
    · exact ⟨(World.cell?_setCell_other _ _ _ _ (by intro e; injection e with e; omega)).trans ((World.cell?_setCell_other _ _ _ _ (by intro e; injection e with e; omega)).trans hS7.1), (World.cell?_setCell_other _ _ _ _ (by intro e; injection e with e; omega)).trans ((World.cell?_setCell_other _ _ _ _ (by intro e; injection e with e; omega)).trans hS7.2.1), (World.cell?_setCell_other _ _ _ _ (by intro e; injection e with e; omega)).trans ((World.cell?_setCell_other _ _ _ _ (by intro e; injection e with e; omega)).trans hS7.2.2)⟩
    clear hK K
    try simp only [Act.put, List.getElem_toArray, List.getElem_cons_succ, List.getElem_cons_zero, List.setIfInBounds_toArray, List.set_cons_zero, List.set_cons_succ]
    refine wpAnyH_take (i := 13) (v := ?_) rfl (by kernel_rfl) (by kernel_rfl) (by kernel_rfl) (fun _ _ _ h => h) (Or.inl ⟨by rfl, ?_⟩) (by assumption) ?_
    rotate_left
    · intro wq hSw; (try dsimp only at hSw); go_simp; (try with_reducible rfl)
    simp only [Act.put, List.getElem_toArray, List.getElem_cons_succ, List.getElem_cons_zero, List.setIfInBounds_toArray, List.set_cons_zero, List.set_cons_succ]
    refine wpAnyH_done (by kernel_rfl) ?_ _
    clear hHeld
    go_wp2_with fail
    have z0 := hL7.2.1
    have z1 := hL7.2.2
    exact bodyPost_ret (v := .tuple #[.agg #[.slice A' n' cap', .int .i64 (most : Int)], .bool true]) (by simp [results, Try.results16, go_sem, z0, z1]) rfl ⟨_, A', n', cap', bs6, rfl, Lib.hid hL7.1⟩
  · subst hq3
    obtain ⟨ta, hta, hta2⟩ : ∃ ta : Nat, (y : Int) % 9 = (ta : Int) ∧ ta ≤ 8 := ⟨y % 9, by omega, by omega⟩
    have htm : (y : Int).tmod 9 = (ta : Int) := by rw [Int.tmod_eq_emod_of_nonneg (by omega)]; exact hta
    have hP := refPush_any (most := most) ((ta : Int), (no : Int)) W3 hdc hnn hbL (by omega)
    simp only at hP
    have hin : In64 ((ta : Int), (no : Int)) := ⟨by simp only; omega, by simp only; omega⟩
    have HIN := Lib.hid hin
    have HPP := Lib.hid hP
    obtain ⟨er, her, her2⟩ : ∃ er, pushE most ((ta : Int), (no : Int)) s = er ∧ er ≤ 70 := ⟨_, rfl, by unfold pushE; split; omega; split <;> omega⟩
    have HWR : Hid (IntKind.i64.wrap (ta : Int) = (ta : Int)) := Lib.hid (IntWalk.i64_in _ (by omega))
    have HWE : Hid (IntKind.i64.wrap (er : Int) = (er : Int)) := Lib.hid (IntWalk.i64_in _ (by omega))
    obtain ⟨s', hs'⟩ : ∃ s', pushS most ((ta : Int), (no : Int)) s = s' := ⟨_, rfl⟩
    rw [her, hs'] at HPP
    have HES := Lib.hid (show pushE most ((ta : Int), (no : Int)) s = er ∧ pushS most ((ta : Int), (no : Int)) s = s' from ⟨her, hs'⟩)
    clear hP hin her hs'
    go_enter Try.func16, Try.ntmps16
    go_wp2_with fail
    refine HPP.out.mono ?_
    rintro e w4 ⟨A', n', cap', rfl, HP4⟩
    have h4d := HP4.out.2
    have hmid := HZ.out.mid HP4.out.1
    obtain ⟨n4, hn4⟩ : ∃ n4, w4.heap.size = n4 := ⟨_, rfl⟩
    have hbx : Below w4.heap.size w4 (w4.alloc (.cells #[.slice A' n' cap', .int .i64 (most : Int)] 40)) := box_below _
    have hk4 := blk_new w4 #[.slice A' n' cap', .int .i64 (most : Int)] 40
    rw [hn4] at hk4
    obtain ⟨m1, m2, m3, m4, m5⟩ := hmid
    rw [hn4] at m5
    have HX : Hid (Below n0 W (w4.alloc (.cells #[.slice A' n' cap', .int .i64 (most : Int)] 40)) ∧ Ow w₀ (w4.alloc (.cells #[.slice A' n' cap', .int .i64 (most : Int)] 40)) S most s bs ∧ Blk (w4.alloc (.cells #[.slice A' n' cap', .int .i64 (most : Int)] 40)) (n0 + 1) #[.int .u8 (x : Int), .int .u8 (y : Int), .int .u8 (z : Int)] 47 ∧ Blk (w4.alloc (.cells #[.slice A' n' cap', .int .i64 (most : Int)] 40)) (n0 + 1 + 1) #[.slice none 0 0, .int .i64 0] 40 ∧ Blk (w4.alloc (.cells #[.slice A' n' cap', .int .i64 (most : Int)] 40)) n4 #[.slice A' n' cap', .int .i64 (most : Int)] 40 ∧ Dc (w4.alloc (.cells #[.slice A' n' cap', .int .i64 (most : Int)] 40)) A' n' cap' s' ((n0 + 1 + 1) :: bs)) :=
      Lib.hid ⟨m1.trans (hbx.mono (by omega)), m2.later hbx, m3.later hbx, m4.later hbx, hk4, h4d.later hbx⟩
    clear h4d hbx hk4 m1 m2 m3 m4 k0 k1 d0 d1 d2 hW3 hdc hbL hnn HP4
    go_wp2_with fail
    clear hn4
    generalize w4.alloc (.cells #[.slice A' n' cap', .int .i64 (most : Int)] 40) = w5 at HX ⊢
    have zd : w5.drew.cell? ⟨n4, 0, none⟩ = some (.slice A' n' cap') ∧ w5.drew.cell? ⟨n4, 1, none⟩ = some (.int .i64 (most : Int)) ∧ w5.drew.cell? ⟨n0 + 1, 1, none⟩ = some (.int .u8 (y : Int)) := ⟨HX.out.2.2.2.2.1.cell 0 rfl, HX.out.2.2.2.2.1.cell 1 rfl, HX.out.2.2.1.cell 1 rfl⟩
    have hH := own_pushE ((ta : Int), (no : Int)) HX.out.2.1.drew' HIN.out
    rw [HES.out.1, HES.out.2] at hH
    simp only at hH
    have HH := Lib.hid hH
    have hkeep : ∀ w6 bs', Ow w₀ w6 S most s' bs' → Mut bs w5.drew w6 → Ext w5.drew bs bs' → (w6.cell? ⟨n4, 0, none⟩ = some (.slice A' n' cap') ∧ w6.cell? ⟨n4, 1, none⟩ = some (.int .i64 (most : Int)) ∧ w6.cell? ⟨n0 + 1, 1, none⟩ = some (.int .u8 (y : Int))) ∧ Blk w6 (n0 + 1 + 1) #[.slice none 0 0, .int .i64 0] 40 ∧
        (Left w₀ W ((w6.setCell ⟨n0 + 1 + 1, 0, none⟩ (.slice A' n' cap')).setCell ⟨n0 + 1 + 1, 1, none⟩ (.int .i64 (most : Int))) S most s' A' n' cap' bs bs' ∧
        ((w6.setCell ⟨n0 + 1 + 1, 0, none⟩ (.slice A' n' cap')).setCell ⟨n0 + 1 + 1, 1, none⟩ (.int .i64 (most : Int))).cell? ⟨n0 + 1 + 1, 0, none⟩ = some (.slice A' n' cap') ∧ ((w6.setCell ⟨n0 + 1 + 1, 0, none⟩ (.slice A' n' cap')).setCell ⟨n0 + 1 + 1, 1, none⟩ (.int .i64 (most : Int))).cell? ⟨n0 + 1 + 1, 1, none⟩ = some (.int .i64 (most : Int))) := fun w6 bs' o1 o2 o3 => by
      have far : ∀ k, n0 ≤ k → k ∉ bs := fun k hk hm => by have := HW.out.2 k hm; omega
      have b4 : Blk w6 n4 #[.slice A' n' cap', .int .i64 (most : Int)] 40 := (HX.out.2.2.2.2.1.later (W' := w5.drew) ⟨rfl, rfl, rfl, Nat.le_refl _, fun _ _ => rfl⟩).mut o2 (far _ (by omega))
      have b1 : Blk w6 (n0 + 1) #[.int .u8 (x : Int), .int .u8 (y : Int), .int .u8 (z : Int)] 47 := (HX.out.2.2.1.later (W' := w5.drew) ⟨rfl, rfl, rfl, Nat.le_refl _, fun _ _ => rfl⟩).mut o2 (far _ (by omega))
      have b2 : Blk w6 (n0 + 1 + 1) #[.slice none 0 0, .int .i64 0] 40 := (HX.out.2.2.2.1.later (W' := w5.drew) ⟨rfl, rfl, rfl, Nat.le_refl _, fun _ _ => rfl⟩).mut o2 (far _ (by omega))
      refine ⟨⟨b4.cell 0 rfl, b4.cell 1 rfl, b1.cell 1 rfl⟩, b2, ?_⟩
      exact does_end (w5 := w5.drew) (a := .slice none 0 0) (b := .int .i64 0) (by rw [HZ.out.size]; omega) HW.out.1 (by rw [HZ.out.size]; exact HW.out.2) (by rw [HZ.out.size]; exact HX.out.1.drew) HX.out.2.2.2.1.lt (HX.out.2.2.2.2.2.later (W' := w5.drew) ⟨rfl, rfl, rfl, Nat.le_refl _, fun _ _ => rfl⟩) o2 o3 o1 HX.out.2.2.2.1
    have HK := Lib.hid hkeep
    clear hH hkeep
    refine wp_region_held_drew (S := fun W => W.cell? ⟨n4, 0, none⟩ = some (.slice A' n' cap') ∧ W.cell? ⟨n4, 1, none⟩ = some (.int .i64 (most : Int)) ∧ W.cell? ⟨n0 + 1, 1, none⟩ = some (.int .u8 (y : Int))) (by kernel_rfl) ?_ (fun hHeld => ?_)
    · exact zd
    refine wpAnyH_take (i := 0) (v := ?_) rfl (by kernel_rfl) (by kernel_rfl) (by kernel_rfl) (fun _ _ _ h => h) (Or.inl ⟨by rfl, ?_⟩) (by assumption) ?_
    rotate_left
    · intro wq hSw; (try dsimp only at hSw); obtain ⟨u0, u1, u2⟩ := hSw; go_simp; (try with_reducible rfl)
    simp only [Act.put, List.getElem_toArray, List.getElem_cons_succ, List.getElem_cons_zero, List.setIfInBounds_toArray, List.set_cons_zero, List.set_cons_succ]
    refine wpAnyH_take (i := 1) (v := ?_) rfl (by kernel_rfl) (by kernel_rfl) (by kernel_rfl) (fun _ _ _ h => h) (Or.inl ⟨by rfl, ?_⟩) (by assumption) ?_
    rotate_left
    · intro wq hSw; (try dsimp only at hSw); go_simp; (try with_reducible rfl)
    simp only [Act.put, List.getElem_toArray, List.getElem_cons_succ, List.getElem_cons_zero, List.setIfInBounds_toArray, List.set_cons_zero, List.set_cons_succ]
    refine wpAnyH_take (i := 2) (v := ?_) rfl (by kernel_rfl) (by kernel_rfl) (by kernel_rfl) (fun _ _ _ h => h) (Or.inl ⟨by rfl, ?_⟩) (by assumption) ?_
    rotate_left
    · intro wq hSw; (try dsimp only at hSw); go_simp; (try with_reducible rfl)
    simp only [Act.put, List.getElem_toArray, List.getElem_cons_succ, List.getElem_cons_zero, List.setIfInBounds_toArray, List.set_cons_zero, List.set_cons_succ]
    refine wpAnyH_take (i := 3) (v := ?_) rfl (by kernel_rfl) (by kernel_rfl) (by kernel_rfl) (fun _ _ _ h => h) (Or.inl ⟨by rfl, ?_⟩) (by assumption) ?_
    rotate_left
    · intro wq hSw; (try dsimp only at hSw); obtain ⟨u0, u1, u2⟩ := hSw; go_simp; (try with_reducible rfl)
    simp only [Act.put, List.getElem_toArray, List.getElem_cons_succ, List.getElem_cons_zero, List.setIfInBounds_toArray, List.set_cons_zero, List.set_cons_succ]
    refine wpAnyH_take (i := 4) (v := ?_) rfl (by kernel_rfl) (by kernel_rfl) (by kernel_rfl) (fun _ _ _ h => h) (Or.inl ⟨by rfl, ?_⟩) (by assumption) ?_
    rotate_left
    · intro wq hSw; (try dsimp only at hSw); go_simp; (try with_reducible rfl)
    simp only [Act.put, List.getElem_toArray, List.getElem_cons_succ, List.getElem_cons_zero, List.setIfInBounds_toArray, List.set_cons_zero, List.set_cons_succ]
    refine wpAnyH_take (i := 5) (v := ?_) rfl (by kernel_rfl) (by kernel_rfl) (by kernel_rfl) (fun _ _ _ h => h) (Or.inl ⟨by rfl, ?_⟩) (by assumption) ?_
    rotate_left
    · intro wq hSw; (try dsimp only at hSw); go_simp; (try with_reducible rfl)
    simp only [Act.put, List.getElem_toArray, List.getElem_cons_succ, List.getElem_cons_zero, List.setIfInBounds_toArray, List.set_cons_zero, List.set_cons_succ]
    refine wpAnyH_take (i := 6) (v := ?_) rfl (by kernel_rfl) (by kernel_rfl) (by kernel_rfl) (fun _ _ _ h => h) (Or.inl ⟨by rfl, ?_⟩) (by assumption) ?_
    rotate_left
    · intro wq hSw; (try dsimp only at hSw); go_simp; (try with_reducible rfl)
    simp only [Act.put, List.getElem_toArray, List.getElem_cons_succ, List.getElem_cons_zero, List.setIfInBounds_toArray, List.set_cons_zero, List.set_cons_succ]
    refine wpAnyH_take (i := 7) (v := ?_) rfl (by kernel_rfl) (by kernel_rfl) (by kernel_rfl) (fun _ _ _ h => h) (Or.inl ⟨by rfl, ?_⟩) (by assumption) ?_
    rotate_left
    · intro wq hSw; (try dsimp only at hSw); go_simp; (try with_reducible rfl)
    simp only [Act.put, List.getElem_toArray, List.getElem_cons_succ, List.getElem_cons_zero, List.setIfInBounds_toArray, List.set_cons_zero, List.set_cons_succ]
    refine wpAnyH_take (i := 10) (v := ?_) rfl (by kernel_rfl) (by kernel_rfl) (by kernel_rfl) (fun _ _ _ h => h) (Or.inl ⟨by rfl, ?_⟩) (by assumption) ?_
    rotate_left
    · intro wq hSw; (try dsimp only at hSw); go_simp; (try with_reducible rfl)
    simp only [Act.put, List.getElem_toArray, List.getElem_cons_succ, List.getElem_cons_zero, List.setIfInBounds_toArray, List.set_cons_zero, List.set_cons_succ]
    refine wpAnyH_ready (rs := [8]) (by kernel_rfl) (by simp) ?_
    refine AllReadyH.cons rfl (fun K hK => ?_) AllReadyH.nil
    go_simp
    simp only [HWR.out]
    ((with_reducible refine HH.out.mono ?_); rintro e w6 ⟨rfl, bs6, H6⟩)
    obtain ⟨hS7, hk7, hL7⟩ := HK.out _ _ H6.out.1 H6.out.2.1 H6.out.2.2
    (try go_wp2_with fail)
    refine hK.out _ _ ?_ (fun hHeld => ?_)
    · exact hS7
    clear hK K
    try simp only [Act.put, List.getElem_toArray, List.getElem_cons_succ, List.getElem_cons_zero, List.setIfInBounds_toArray, List.set_cons_zero, List.set_cons_succ]
    refine wpAnyH_take (i := 9) (v := ?_) rfl (by kernel_rfl) (by kernel_rfl) (by kernel_rfl) (fun _ _ _ h => h) (Or.inl ⟨by rfl, ?_⟩) (by assumption) ?_
    rotate_left
    · intro wq hSw; (try dsimp only at hSw); have hwe := HWE.out; go_simp; (try with_reducible rfl)
    simp only [Act.put, List.getElem_toArray, List.getElem_cons_succ, List.getElem_cons_zero, List.setIfInBounds_toArray, List.set_cons_zero, List.set_cons_succ]
    refine wpAnyH_take (i := 11) (v := ?_) rfl (by kernel_rfl) (by kernel_rfl) (by kernel_rfl) (fun _ _ _ h => h) (Or.inl ⟨by rfl, ?_⟩) (by assumption) ?_
    rotate_left
    · intro wq hSw; (try dsimp only at hSw); go_simp; (try with_reducible rfl)
    simp only [Act.put, List.getElem_toArray, List.getElem_cons_succ, List.getElem_cons_zero, List.setIfInBounds_toArray, List.set_cons_zero, List.set_cons_succ]
    refine wpAnyH_ready (rs := [12]) (by kernel_rfl) (by simp) ?_
    refine AllReadyH.cons rfl (fun K hK => ?_) AllReadyH.nil
    have r0 := hk7.cell 0 rfl
    have r1 := hk7.cell 1 rfl
    have f0 := hk7.free 0
    have f1 := hk7.free 1
    go_simp
    (try go_wp2_with fail)
    refine hK.out _ _ ?_ (fun hHeld => ?_)
    · exact ⟨(World.cell?_setCell_other _ _ _ _ (by intro e; injection e with e; omega)).trans ((World.cell?_setCell_other _ _ _ _ (by intro e; injection e with e; omega)).trans hS7.1), (World.cell?_setCell_other _ _ _ _ (by intro e; injection e with e; omega)).trans ((World.cell?_setCell_other _ _ _ _ (by intro e; injection e with e; omega)).trans hS7.2.1), (World.cell?_setCell_other _ _ _ _ (by intro e; injection e with e; omega)).trans ((World.cell?_setCell_other _ _ _ _ (by intro e; injection e with e; omega)).trans hS7.2.2)⟩
    clear hK K
    try simp only [Act.put, List.getElem_toArray, List.getElem_cons_succ, List.getElem_cons_zero, List.setIfInBounds_toArray, List.set_cons_zero, List.set_cons_succ]
    refine wpAnyH_take (i := 13) (v := ?_) rfl (by kernel_rfl) (by kernel_rfl) (by kernel_rfl) (fun _ _ _ h => h) (Or.inl ⟨by rfl, ?_⟩) (by assumption) ?_
    rotate_left
    · intro wq hSw; (try dsimp only at hSw); go_simp; (try with_reducible rfl)
    simp only [Act.put, List.getElem_toArray, List.getElem_cons_succ, List.getElem_cons_zero, List.setIfInBounds_toArray, List.set_cons_zero, List.set_cons_succ]
    refine wpAnyH_done (by kernel_rfl) ?_ _
    clear hHeld
    go_wp2_with fail
    have z0 := hL7.2.1
    have z1 := hL7.2.2
    exact bodyPost_ret (v := .tuple #[.agg #[.slice A' n' cap', .int .i64 (most : Int)], .bool true]) (by simp [results, Try.results16, go_sem, z0, z1]) rfl ⟨_, A', n', cap', bs6, rfl, Lib.hid hL7.1⟩
  · subst hq3
    obtain ⟨ta, hta, hta2⟩ : ∃ ta : Nat, (y : Int) % 9 = (ta : Int) ∧ ta ≤ 8 := ⟨y % 9, by omega, by omega⟩
    have htm : (y : Int).tmod 9 = (ta : Int) := by rw [Int.tmod_eq_emod_of_nonneg (by omega)]; exact hta
    have hP := refPush_any (most := most) ((ta : Int), (no : Int)) W3 hdc hnn hbL (by omega)
    simp only at hP
    have hin : In64 ((ta : Int), (no : Int)) := ⟨by simp only; omega, by simp only; omega⟩
    have HIN := Lib.hid hin
    have HPP := Lib.hid hP
    obtain ⟨er, her, her2⟩ : ∃ er, pushE most ((ta : Int), (no : Int)) s = er ∧ er ≤ 70 := ⟨_, rfl, by unfold pushE; split; omega; split <;> omega⟩
    have HWR : Hid (IntKind.i64.wrap (ta : Int) = (ta : Int)) := Lib.hid (IntWalk.i64_in _ (by omega))
    have HWE : Hid (IntKind.i64.wrap (er : Int) = (er : Int)) := Lib.hid (IntWalk.i64_in _ (by omega))
    obtain ⟨s', hs'⟩ : ∃ s', pushS most ((ta : Int), (no : Int)) s = s' := ⟨_, rfl⟩
    rw [her, hs'] at HPP
    have HES := Lib.hid (show pushE most ((ta : Int), (no : Int)) s = er ∧ pushS most ((ta : Int), (no : Int)) s = s' from ⟨her, hs'⟩)
    clear hP hin her hs'
    go_enter Try.func16, Try.ntmps16
    go_wp2_with fail
    refine HPP.out.mono ?_
    rintro e w4 ⟨A', n', cap', rfl, HP4⟩
    have h4d := HP4.out.2
    have hmid := HZ.out.mid HP4.out.1
    obtain ⟨n4, hn4⟩ : ∃ n4, w4.heap.size = n4 := ⟨_, rfl⟩
    have hbx : Below w4.heap.size w4 (w4.alloc (.cells #[.slice A' n' cap', .int .i64 (most : Int)] 40)) := box_below _
    have hk4 := blk_new w4 #[.slice A' n' cap', .int .i64 (most : Int)] 40
    rw [hn4] at hk4
    obtain ⟨m1, m2, m3, m4, m5⟩ := hmid
    rw [hn4] at m5
    have HX : Hid (Below n0 W (w4.alloc (.cells #[.slice A' n' cap', .int .i64 (most : Int)] 40)) ∧ Ow w₀ (w4.alloc (.cells #[.slice A' n' cap', .int .i64 (most : Int)] 40)) S most s bs ∧ Blk (w4.alloc (.cells #[.slice A' n' cap', .int .i64 (most : Int)] 40)) (n0 + 1) #[.int .u8 (x : Int), .int .u8 (y : Int), .int .u8 (z : Int)] 47 ∧ Blk (w4.alloc (.cells #[.slice A' n' cap', .int .i64 (most : Int)] 40)) (n0 + 1 + 1) #[.slice none 0 0, .int .i64 0] 40 ∧ Blk (w4.alloc (.cells #[.slice A' n' cap', .int .i64 (most : Int)] 40)) n4 #[.slice A' n' cap', .int .i64 (most : Int)] 40 ∧ Dc (w4.alloc (.cells #[.slice A' n' cap', .int .i64 (most : Int)] 40)) A' n' cap' s' ((n0 + 1 + 1) :: bs)) :=
      Lib.hid ⟨m1.trans (hbx.mono (by omega)), m2.later hbx, m3.later hbx, m4.later hbx, hk4, h4d.later hbx⟩
    clear h4d hbx hk4 m1 m2 m3 m4 k0 k1 d0 d1 d2 hW3 hdc hbL hnn HP4
    go_wp2_with fail
    clear hn4
    generalize w4.alloc (.cells #[.slice A' n' cap', .int .i64 (most : Int)] 40) = w5 at HX ⊢
    have zd : w5.drew.cell? ⟨n4, 0, none⟩ = some (.slice A' n' cap') ∧ w5.drew.cell? ⟨n4, 1, none⟩ = some (.int .i64 (most : Int)) ∧ w5.drew.cell? ⟨n0 + 1, 1, none⟩ = some (.int .u8 (y : Int)) := ⟨HX.out.2.2.2.2.1.cell 0 rfl, HX.out.2.2.2.2.1.cell 1 rfl, HX.out.2.2.1.cell 1 rfl⟩
    have hH := own_pushE ((ta : Int), (no : Int)) HX.out.2.1.drew' HIN.out
    rw [HES.out.1, HES.out.2] at hH
    simp only at hH
    have HH := Lib.hid hH
    have hkeep : ∀ w6 bs', Ow w₀ w6 S most s' bs' → Mut bs w5.drew w6 → Ext w5.drew bs bs' → (w6.cell? ⟨n4, 0, none⟩ = some (.slice A' n' cap') ∧ w6.cell? ⟨n4, 1, none⟩ = some (.int .i64 (most : Int)) ∧ w6.cell? ⟨n0 + 1, 1, none⟩ = some (.int .u8 (y : Int))) ∧ Blk w6 (n0 + 1 + 1) #[.slice none 0 0, .int .i64 0] 40 ∧
        (Left w₀ W ((w6.setCell ⟨n0 + 1 + 1, 0, none⟩ (.slice A' n' cap')).setCell ⟨n0 + 1 + 1, 1, none⟩ (.int .i64 (most : Int))) S most s' A' n' cap' bs bs' ∧
        ((w6.setCell ⟨n0 + 1 + 1, 0, none⟩ (.slice A' n' cap')).setCell ⟨n0 + 1 + 1, 1, none⟩ (.int .i64 (most : Int))).cell? ⟨n0 + 1 + 1, 0, none⟩ = some (.slice A' n' cap') ∧ ((w6.setCell ⟨n0 + 1 + 1, 0, none⟩ (.slice A' n' cap')).setCell ⟨n0 + 1 + 1, 1, none⟩ (.int .i64 (most : Int))).cell? ⟨n0 + 1 + 1, 1, none⟩ = some (.int .i64 (most : Int))) := fun w6 bs' o1 o2 o3 => by
      have far : ∀ k, n0 ≤ k → k ∉ bs := fun k hk hm => by have := HW.out.2 k hm; omega
      have b4 : Blk w6 n4 #[.slice A' n' cap', .int .i64 (most : Int)] 40 := (HX.out.2.2.2.2.1.later (W' := w5.drew) ⟨rfl, rfl, rfl, Nat.le_refl _, fun _ _ => rfl⟩).mut o2 (far _ (by omega))
      have b1 : Blk w6 (n0 + 1) #[.int .u8 (x : Int), .int .u8 (y : Int), .int .u8 (z : Int)] 47 := (HX.out.2.2.1.later (W' := w5.drew) ⟨rfl, rfl, rfl, Nat.le_refl _, fun _ _ => rfl⟩).mut o2 (far _ (by omega))
      have b2 : Blk w6 (n0 + 1 + 1) #[.slice none 0 0, .int .i64 0] 40 := (HX.out.2.2.2.1.later (W' := w5.drew) ⟨rfl, rfl, rfl, Nat.le_refl _, fun _ _ => rfl⟩).mut o2 (far _ (by omega))
      refine ⟨⟨b4.cell 0 rfl, b4.cell 1 rfl, b1.cell 1 rfl⟩, b2, ?_⟩
      exact does_end (w5 := w5.drew) (a := .slice none 0 0) (b := .int .i64 0) (by rw [HZ.out.size]; omega) HW.out.1 (by rw [HZ.out.size]; exact HW.out.2) (by rw [HZ.out.size]; exact HX.out.1.drew) HX.out.2.2.2.1.lt (HX.out.2.2.2.2.2.later (W' := w5.drew) ⟨rfl, rfl, rfl, Nat.le_refl _, fun _ _ => rfl⟩) o2 o3 o1 HX.out.2.2.2.1
    have HK := Lib.hid hkeep
    clear hH hkeep
    refine wp_region_held_drew (S := fun W => W.cell? ⟨n4, 0, none⟩ = some (.slice A' n' cap') ∧ W.cell? ⟨n4, 1, none⟩ = some (.int .i64 (most : Int)) ∧ W.cell? ⟨n0 + 1, 1, none⟩ = some (.int .u8 (y : Int))) (by kernel_rfl) ?_ (fun hHeld => ?_)
    · exact zd
    refine wpAnyH_take (i := 0) (v := ?_) rfl (by kernel_rfl) (by kernel_rfl) (by kernel_rfl) (fun _ _ _ h => h) (Or.inl ⟨by rfl, ?_⟩) (by assumption) ?_
    rotate_left
    · intro wq hSw; (try dsimp only at hSw); obtain ⟨u0, u1, u2⟩ := hSw; go_simp; (try with_reducible rfl)
    simp only [Act.put, List.getElem_toArray, List.getElem_cons_succ, List.getElem_cons_zero, List.setIfInBounds_toArray, List.set_cons_zero, List.set_cons_succ]
    refine wpAnyH_take (i := 1) (v := ?_) rfl (by kernel_rfl) (by kernel_rfl) (by kernel_rfl) (fun _ _ _ h => h) (Or.inl ⟨by rfl, ?_⟩) (by assumption) ?_
    rotate_left
    · intro wq hSw; (try dsimp only at hSw); go_simp; (try with_reducible rfl)
    simp only [Act.put, List.getElem_toArray, List.getElem_cons_succ, List.getElem_cons_zero, List.setIfInBounds_toArray, List.set_cons_zero, List.set_cons_succ]
    refine wpAnyH_take (i := 2) (v := ?_) rfl (by kernel_rfl) (by kernel_rfl) (by kernel_rfl) (fun _ _ _ h => h) (Or.inl ⟨by rfl, ?_⟩) (by assumption) ?_
    rotate_left
    · intro wq hSw; (try dsimp only at hSw); go_simp; (try with_reducible rfl)
    simp only [Act.put, List.getElem_toArray, List.getElem_cons_succ, List.getElem_cons_zero, List.setIfInBounds_toArray, List.set_cons_zero, List.set_cons_succ]
    refine wpAnyH_take (i := 3) (v := ?_) rfl (by kernel_rfl) (by kernel_rfl) (by kernel_rfl) (fun _ _ _ h => h) (Or.inl ⟨by rfl, ?_⟩) (by assumption) ?_
    rotate_left
    · intro wq hSw; (try dsimp only at hSw); obtain ⟨u0, u1, u2⟩ := hSw; go_simp; (try with_reducible rfl)
    simp only [Act.put, List.getElem_toArray, List.getElem_cons_succ, List.getElem_cons_zero, List.setIfInBounds_toArray, List.set_cons_zero, List.set_cons_succ]
    refine wpAnyH_take (i := 4) (v := ?_) rfl (by kernel_rfl) (by kernel_rfl) (by kernel_rfl) (fun _ _ _ h => h) (Or.inl ⟨by rfl, ?_⟩) (by assumption) ?_
    rotate_left
    · intro wq hSw; (try dsimp only at hSw); go_simp; (try with_reducible rfl)
    simp only [Act.put, List.getElem_toArray, List.getElem_cons_succ, List.getElem_cons_zero, List.setIfInBounds_toArray, List.set_cons_zero, List.set_cons_succ]
    refine wpAnyH_take (i := 5) (v := ?_) rfl (by kernel_rfl) (by kernel_rfl) (by kernel_rfl) (fun _ _ _ h => h) (Or.inl ⟨by rfl, ?_⟩) (by assumption) ?_
    rotate_left
    · intro wq hSw; (try dsimp only at hSw); go_simp; (try with_reducible rfl)
    simp only [Act.put, List.getElem_toArray, List.getElem_cons_succ, List.getElem_cons_zero, List.setIfInBounds_toArray, List.set_cons_zero, List.set_cons_succ]
    refine wpAnyH_take (i := 6) (v := ?_) rfl (by kernel_rfl) (by kernel_rfl) (by kernel_rfl) (fun _ _ _ h => h) (Or.inl ⟨by rfl, ?_⟩) (by assumption) ?_
    rotate_left
    · intro wq hSw; (try dsimp only at hSw); go_simp; (try with_reducible rfl)
    simp only [Act.put, List.getElem_toArray, List.getElem_cons_succ, List.getElem_cons_zero, List.setIfInBounds_toArray, List.set_cons_zero, List.set_cons_succ]
    refine wpAnyH_take (i := 7) (v := ?_) rfl (by kernel_rfl) (by kernel_rfl) (by kernel_rfl) (fun _ _ _ h => h) (Or.inl ⟨by rfl, ?_⟩) (by assumption) ?_
    rotate_left
    · intro wq hSw; (try dsimp only at hSw); go_simp; (try with_reducible rfl)
    simp only [Act.put, List.getElem_toArray, List.getElem_cons_succ, List.getElem_cons_zero, List.setIfInBounds_toArray, List.set_cons_zero, List.set_cons_succ]
    refine wpAnyH_take (i := 10) (v := ?_) rfl (by kernel_rfl) (by kernel_rfl) (by kernel_rfl) (fun _ _ _ h => h) (Or.inl ⟨by rfl, ?_⟩) (by assumption) ?_
    rotate_left
    · intro wq hSw; (try dsimp only at hSw); go_simp; (try with_reducible rfl)
    simp only [Act.put, List.getElem_toArray, List.getElem_cons_succ, List.getElem_cons_zero, List.setIfInBounds_toArray, List.set_cons_zero, List.set_cons_succ]
    refine wpAnyH_ready (rs := [8]) (by kernel_rfl) (by simp) ?_
    refine AllReadyH.cons rfl (fun K hK => ?_) AllReadyH.nil
    go_simp
    simp only [HWR.out]
    ((with_reducible refine HH.out.mono ?_); rintro e w6 ⟨rfl, bs6, H6⟩)
    obtain ⟨hS7, hk7, hL7⟩ := HK.out _ _ H6.out.1 H6.out.2.1 H6.out.2.2
    (try go_wp2_with fail)
    refine hK.out _ _ ?_ (fun hHeld => ?_)
    · exact hS7
    clear hK K
    try simp only [Act.put, List.getElem_toArray, List.getElem_cons_succ, List.getElem_cons_zero, List.setIfInBounds_toArray, List.set_cons_zero, List.set_cons_succ]
    refine wpAnyH_take (i := 9) (v := ?_) rfl (by kernel_rfl) (by kernel_rfl) (by kernel_rfl) (fun _ _ _ h => h) (Or.inl ⟨by rfl, ?_⟩) (by assumption) ?_
    rotate_left
    · intro wq hSw; (try dsimp only at hSw); have hwe := HWE.out; go_simp; (try with_reducible rfl)
    simp only [Act.put, List.getElem_toArray, List.getElem_cons_succ, List.getElem_cons_zero, List.setIfInBounds_toArray, List.set_cons_zero, List.set_cons_succ]
    refine wpAnyH_take (i := 11) (v := ?_) rfl (by kernel_rfl) (by kernel_rfl) (by kernel_rfl) (fun _ _ _ h => h) (Or.inl ⟨by rfl, ?_⟩) (by assumption) ?_
    rotate_left
    · intro wq hSw; (try dsimp only at hSw); go_simp; (try with_reducible rfl)
    simp only [Act.put, List.getElem_toArray, List.getElem_cons_succ, List.getElem_cons_zero, List.setIfInBounds_toArray, List.set_cons_zero, List.set_cons_succ]
    refine wpAnyH_ready (rs := [12]) (by kernel_rfl) (by simp) ?_
    refine AllReadyH.cons rfl (fun K hK => ?_) AllReadyH.nil
    have r0 := hk7.cell 0 rfl
    have r1 := hk7.cell 1 rfl
    have f0 := hk7.free 0
    have f1 := hk7.free 1
    go_simp
    (try go_wp2_with fail)
    refine hK.out _ _ ?_ (fun hHeld => ?_)
    · exact ⟨(World.cell?_setCell_other _ _ _ _ (by intro e; injection e with e; omega)).trans ((World.cell?_setCell_other _ _ _ _ (by intro e; injection e with e; omega)).trans hS7.1), (World.cell?_setCell_other _ _ _ _ (by intro e; injection e with e; omega)).trans ((World.cell?_setCell_other _ _ _ _ (by intro e; injection e with e; omega)).trans hS7.2.1), (World.cell?_setCell_other _ _ _ _ (by intro e; injection e with e; omega)).trans ((World.cell?_setCell_other _ _ _ _ (by intro e; injection e with e; omega)).trans hS7.2.2)⟩
    clear hK K
    try simp only [Act.put, List.getElem_toArray, List.getElem_cons_succ, List.getElem_cons_zero, List.setIfInBounds_toArray, List.set_cons_zero, List.set_cons_succ]
    refine wpAnyH_take (i := 13) (v := ?_) rfl (by kernel_rfl) (by kernel_rfl) (by kernel_rfl) (fun _ _ _ h => h) (Or.inl ⟨by rfl, ?_⟩) (by assumption) ?_
    rotate_left
    · intro wq hSw; (try dsimp only at hSw); go_simp; (try with_reducible rfl)
    simp only [Act.put, List.getElem_toArray, List.getElem_cons_succ, List.getElem_cons_zero, List.setIfInBounds_toArray, List.set_cons_zero, List.set_cons_succ]
    refine wpAnyH_done (by kernel_rfl) ?_ _
    clear hHeld
    go_wp2_with fail
    have z0 := hL7.2.1
    have z1 := hL7.2.2
    exact bodyPost_ret (v := .tuple #[.agg #[.slice A' n' cap', .int .i64 (most : Int)], .bool true]) (by simp [results, Try.results16, go_sem, z0, z1]) rfl ⟨_, A', n', cap', bs6, rfl, Lib.hid hL7.1⟩
  · subst hq3
    have hP := refPop_any (most := most) W3 hdc hnn hbL
    obtain ⟨⟨ta, tb⟩, ht⟩ : ∃ t, hd s = t := ⟨_, rfl⟩
    obtain ⟨ne, hne⟩ : ∃ ne, (!s.isEmpty) = ne := ⟨_, rfl⟩
    have HTN := Lib.hid (show hd s = (ta, tb) ∧ (!s.isEmpty) = ne from ⟨ht, hne⟩)
    have hP2 : Calls Try.prog 28 #[.agg #[.slice A n cap, .int .i64 (most : Int)]] W3 fun e w' => ∃ A' n' cap', e = .returned (.tuple #[.agg #[.slice A' n' cap', .int .i64 (most : Int)], .agg #[.int .i64 ta, .int .i64 tb], .bool ne]) ∧ Hid (Below W3.heap.size W3 w' ∧ Dc w' A' n' cap' s.tail ((n0 + 1 + 1) :: bs)) := hP.mono fun e w' ⟨A', n', cap', x1, x2⟩ => ⟨A', n', cap', by rw [x1, ht, hne], x2⟩
    have HPP := Lib.hid hP2
    clear hP hP2 ht hne
    go_enter Try.func16, Try.ntmps16
    go_wp2_with fail
    refine HPP.out.mono ?_
    rintro e w4 ⟨A', n', cap', rfl, HP4⟩
    have h4d := HP4.out.2
    have hmid := HZ.out.mid HP4.out.1
    obtain ⟨n4, hn4⟩ : ∃ n4, w4.heap.size = n4 := ⟨_, rfl⟩
    have hb1 : Below w4.heap.size w4 (w4.alloc (.cells #[.slice A' n' cap', .int .i64 (most : Int)] 40)) := box_below _
    have hb2 : Below (w4.alloc (.cells #[.slice A' n' cap', .int .i64 (most : Int)] 40)).heap.size (w4.alloc (.cells #[.slice A' n' cap', .int .i64 (most : Int)] 40)) ((w4.alloc (.cells #[.slice A' n' cap', .int .i64 (most : Int)] 40)).alloc (.cells #[.int .i64 ta, .int .i64 tb] 31)) := box_below _
    have hk4 := (blk_new w4 #[.slice A' n' cap', .int .i64 (most : Int)] 40).later hb2
    have hk5 := blk_new (w4.alloc (.cells #[.slice A' n' cap', .int .i64 (most : Int)] 40)) #[.int .i64 ta, .int .i64 tb] 31
    rw [World.size_alloc] at hk5
    rw [hn4] at hk4 hk5
    obtain ⟨m1, m2, m3, m4, m5⟩ := hmid
    rw [hn4] at m5
    have hsz : (w4.alloc (.cells #[.slice A' n' cap', .int .i64 (most : Int)] 40)).heap.size = n4 + 1 := by rw [World.size_alloc, hn4]
    have HX : Hid (Below n0 W ((w4.alloc (.cells #[.slice A' n' cap', .int .i64 (most : Int)] 40)).alloc (.cells #[.int .i64 ta, .int .i64 tb] 31)) ∧ Ow w₀ ((w4.alloc (.cells #[.slice A' n' cap', .int .i64 (most : Int)] 40)).alloc (.cells #[.int .i64 ta, .int .i64 tb] 31)) S most s bs ∧ Blk ((w4.alloc (.cells #[.slice A' n' cap', .int .i64 (most : Int)] 40)).alloc (.cells #[.int .i64 ta, .int .i64 tb] 31)) (n0 + 1 + 1) #[.slice none 0 0, .int .i64 0] 40 ∧ Blk ((w4.alloc (.cells #[.slice A' n' cap', .int .i64 (most : Int)] 40)).alloc (.cells #[.int .i64 ta, .int .i64 tb] 31)) n4 #[.slice A' n' cap', .int .i64 (most : Int)] 40 ∧ Blk ((w4.alloc (.cells #[.slice A' n' cap', .int .i64 (most : Int)] 40)).alloc (.cells #[.int .i64 ta, .int .i64 tb] 31)) (n4 + 1) #[.int .i64 ta, .int .i64 tb] 31 ∧ Dc ((w4.alloc (.cells #[.slice A' n' cap', .int .i64 (most : Int)] 40)).alloc (.cells #[.int .i64 ta, .int .i64 tb] 31)) A' n' cap' s.tail ((n0 + 1 + 1) :: bs)) :=
      Lib.hid ⟨(m1.trans (hb1.mono (by omega))).trans (hb2.mono (by omega)), (m2.later hb1).later hb2, (m4.later hb1).later hb2, hk4, hk5, (h4d.later hb1).later hb2⟩
    have HCALL : Hid (Calls Try.prog 13 #[.pointer (some ⟨S, 0, none⟩)] ((w4.alloc (.cells #[.slice A' n' cap', .int .i64 (most : Int)] 40)).alloc (.cells #[.int .i64 ta, .int .i64 tb] 31)) fun e w' => e = .returned (.tuple #[.agg #[.int .i64 ta, .int .i64 tb], .bool ne]) ∧ ∃ bs', Hid (Ow w₀ w' S most s.tail bs' ∧ Mut bs ((w4.alloc (.cells #[.slice A' n' cap', .int .i64 (most : Int)] 40)).alloc (.cells #[.int .i64 ta, .int .i64 tb] 31)) w' ∧ Ext ((w4.alloc (.cells #[.slice A' n' cap', .int .i64 (most : Int)] 40)).alloc (.cells #[.int .i64 ta, .int .i64 tb] 31)) bs bs')) := Lib.hid ((own_popH HX.out.2.1).mono fun e w' ⟨x1, bs', x2⟩ => ⟨by rw [x1, HTN.out.1, HTN.out.2], bs', x2⟩)
    clear h4d hb1 hb2 hk4 hk5 m1 m2 m3 m4 k0 k1 d0 d1 d2 hW3 hdc hbL hnn HP4 hsz
    go_wp2_with fail
    refine HCALL.out.mono ?_
    clear HCALL hn4
    generalize (w4.alloc (.cells #[.slice A' n' cap', .int .i64 (most : Int)] 40)).alloc (.cells #[.int .i64 ta, .int .i64 tb] 31) = w5 at HX ⊢
    rintro e w6 ⟨rfl, bs6, H6⟩
    have far : ∀ k, n0 ≤ k → k ∉ bs := fun k hk hm => by have := HW.out.2 k hm; omega
    have b4 : Blk w6 n4 #[.slice A' n' cap', .int .i64 (most : Int)] 40 := HX.out.2.2.2.1.mut H6.out.2.1 (far _ (by omega))
    have b5 : Blk w6 (n4 + 1) #[.int .i64 ta, .int .i64 tb] 31 := HX.out.2.2.2.2.1.mut H6.out.2.1 (far _ (by omega))
    have b2 : Blk w6 (n0 + 1 + 1) #[.slice none 0 0, .int .i64 0] 40 := HX.out.2.2.1.mut H6.out.2.1 (far _ (by omega))
    obtain ⟨n6, hn6⟩ : ∃ n6, w6.heap.size = n6 := ⟨_, rfl⟩
    have hb7 : Below w6.heap.size w6 (w6.alloc (.cells #[.int .i64 ta, .int .i64 tb] 31)) := box_below _
    have c4 := b4.later hb7
    have c5 := b5.later hb7
    have c2 := b2.later hb7
    have c6 := blk_new w6 #[.int .i64 ta, .int .i64 tb] 31
    rw [hn6] at c6
    have hE := does_end (w6 := w6.alloc (.cells #[.int .i64 ta, .int .i64 tb] 31)) (bs' := bs6) (a := .slice none 0 0) (b := .int .i64 0) (by rw [HZ.out.size]; omega : W.heap.size ≤ n0 + 1 + 1) HW.out.1 (by rw [HZ.out.size]; exact HW.out.2) (by rw [HZ.out.size]; exact HX.out.1) HX.out.2.2.1.lt HX.out.2.2.2.2.2 (H6.out.2.1.trans (Mut.of_below hb7)) H6.out.2.2 (H6.out.1.later hb7) HX.out.2.2.1
    have HE := Lib.hid hE
    have HC := Lib.hid (show Blk (w6.alloc (.cells #[.int .i64 ta, .int .i64 tb] 31)) n4 #[.slice A' n' cap', .int .i64 (most : Int)] 40 ∧ Blk (w6.alloc (.cells #[.int .i64 ta, .int .i64 tb] 31)) (n4 + 1) #[.int .i64 ta, .int .i64 tb] 31 ∧ Blk (w6.alloc (.cells #[.int .i64 ta, .int .i64 tb] 31)) (n0 + 1 + 1) #[.slice none 0 0, .int .i64 0] 40 ∧ Blk (w6.alloc (.cells #[.int .i64 ta, .int .i64 tb] 31)) n6 #[.int .i64 ta, .int .i64 tb] 31 from ⟨c4, c5, c2, c6⟩)
    clear b4 b5 b2 hb7 c4 c5 c2 c6 hE far H6 HX
    go_wp2_with fail
    clear hn6
    generalize w6.alloc (.cells #[.int .i64 ta, .int .i64 tb] 31) = w7 at HE HC ⊢
    have p0 := HC.out.1.cell 0 rfl
    have p1 := HC.out.1.cell 1 rfl
    have p2 := HC.out.2.1.cell 0 rfl
    have p3 := HC.out.2.1.cell 1 rfl
    have p4 := HC.out.2.2.2.cell 0 rfl
    have p5 := HC.out.2.2.2.cell 1 rfl
    have r0 := HC.out.2.2.1.cell 0 rfl
    have r1 := HC.out.2.2.1.cell 1 rfl
    have f0 := HC.out.2.2.1.free 0
    have f1 := HC.out.2.2.1.free 1
    go_region
    go_wp2_with fail
    have z0 := HE.out.2.1
    have z1 := HE.out.2.2
    have hfin : DoesE w₀ W S most bs (.returned (.tuple #[.agg #[.slice A' n' cap', .int .i64 (most : Int)], .bool true])) ((w7.setCell ⟨n0 + 1 + 1, 0, none⟩ (.slice A' n' cap')).setCell ⟨n0 + 1 + 1, 1, none⟩ (.int .i64 (most : Int))).drew := ⟨_, A', n', cap', bs6, rfl, Lib.hid ⟨HE.out.1.bo.later ⟨rfl, rfl, rfl, Nat.le_refl _, fun _ _ => rfl⟩, HE.out.1.turn.drew, HE.out.1.ext⟩⟩
    exact bodyPost_ret (v := .tuple #[.agg #[.slice A' n' cap', .int .i64 (most : Int)], .bool true]) (by simp [results, Try.results16, go_sem, z0, z1]) rfl hfin
  · subst hq3
    have hP := refDrop_any (most := most) (no : Int) W3 hdc hnn hbL
    obtain ⟨b, hb⟩ : ∃ b, isin (no : Int) s = b := ⟨_, rfl⟩
    rw [hb] at hP
    have HIB := Lib.hid hb
    have HPP := Lib.hid hP
    clear hP hb
    go_enter Try.func16, Try.ntmps16
    go_wp2_with fail
    refine HPP.out.mono ?_
    rintro e w4 ⟨A', n', cap', rfl, HP4⟩
    have h4d := HP4.out.2
    have hmid := HZ.out.mid HP4.out.1
    obtain ⟨n4, hn4⟩ : ∃ n4, w4.heap.size = n4 := ⟨_, rfl⟩
    have hbx : Below w4.heap.size w4 (w4.alloc (.cells #[.slice A' n' cap', .int .i64 (most : Int)] 40)) := box_below _
    have hk4 := blk_new w4 #[.slice A' n' cap', .int .i64 (most : Int)] 40
    rw [hn4] at hk4
    obtain ⟨m1, m2, m3, m4, m5⟩ := hmid
    rw [hn4] at m5
    have HX : Hid (Below n0 W (w4.alloc (.cells #[.slice A' n' cap', .int .i64 (most : Int)] 40)) ∧ Ow w₀ (w4.alloc (.cells #[.slice A' n' cap', .int .i64 (most : Int)] 40)) S most s bs ∧ Blk (w4.alloc (.cells #[.slice A' n' cap', .int .i64 (most : Int)] 40)) (n0 + 1) #[.int .u8 (x : Int), .int .u8 (y : Int), .int .u8 (z : Int)] 47 ∧ Blk (w4.alloc (.cells #[.slice A' n' cap', .int .i64 (most : Int)] 40)) (n0 + 1 + 1) #[.slice none 0 0, .int .i64 0] 40 ∧ Blk (w4.alloc (.cells #[.slice A' n' cap', .int .i64 (most : Int)] 40)) n4 #[.slice A' n' cap', .int .i64 (most : Int)] 40 ∧ Dc (w4.alloc (.cells #[.slice A' n' cap', .int .i64 (most : Int)] 40)) A' n' cap' (HeapMath.del (no : Int) s) ((n0 + 1 + 1) :: bs)) :=
      Lib.hid ⟨m1.trans (hbx.mono (by omega)), m2.later hbx, m3.later hbx, m4.later hbx, hk4, h4d.later hbx⟩
    clear h4d hbx hk4 m1 m2 m3 m4 k0 k1 d0 d1 d2 hW3 hdc hbL hnn HP4
    go_wp2_with fail
    clear hn4
    generalize w4.alloc (.cells #[.slice A' n' cap', .int .i64 (most : Int)] 40) = w5 at HX ⊢
    have zd : w5.drew.cell? ⟨n4, 0, none⟩ = some (.slice A' n' cap') ∧ w5.drew.cell? ⟨n4, 1, none⟩ = some (.int .i64 (most : Int)) ∧ w5.drew.cell? ⟨n0 + 1, 1, none⟩ = some (.int .u8 (y : Int)) := ⟨HX.out.2.2.2.2.1.cell 0 rfl, HX.out.2.2.2.2.1.cell 1 rfl, HX.out.2.2.1.cell 1 rfl⟩
    have hH := own_drop (no : Int) HX.out.2.1.drew' (by omega) (by omega)
    rw [HIB.out] at hH
    have HH := Lib.hid hH
    have hkeep : ∀ w6 bs', Ow w₀ w6 S most (HeapMath.del (no : Int) s) bs' → Mut bs w5.drew w6 → Ext w5.drew bs bs' → (w6.cell? ⟨n4, 0, none⟩ = some (.slice A' n' cap') ∧ w6.cell? ⟨n4, 1, none⟩ = some (.int .i64 (most : Int)) ∧ w6.cell? ⟨n0 + 1, 1, none⟩ = some (.int .u8 (y : Int))) ∧ Blk w6 (n0 + 1 + 1) #[.slice none 0 0, .int .i64 0] 40 ∧
        (Left w₀ W ((w6.setCell ⟨n0 + 1 + 1, 0, none⟩ (.slice A' n' cap')).setCell ⟨n0 + 1 + 1, 1, none⟩ (.int .i64 (most : Int))) S most (HeapMath.del (no : Int) s) A' n' cap' bs bs' ∧
        ((w6.setCell ⟨n0 + 1 + 1, 0, none⟩ (.slice A' n' cap')).setCell ⟨n0 + 1 + 1, 1, none⟩ (.int .i64 (most : Int))).cell? ⟨n0 + 1 + 1, 0, none⟩ = some (.slice A' n' cap') ∧ ((w6.setCell ⟨n0 + 1 + 1, 0, none⟩ (.slice A' n' cap')).setCell ⟨n0 + 1 + 1, 1, none⟩ (.int .i64 (most : Int))).cell? ⟨n0 + 1 + 1, 1, none⟩ = some (.int .i64 (most : Int))) := fun w6 bs' o1 o2 o3 => by
      have far : ∀ k, n0 ≤ k → k ∉ bs := fun k hk hm => by have := HW.out.2 k hm; omega
      have b4 : Blk w6 n4 #[.slice A' n' cap', .int .i64 (most : Int)] 40 := (HX.out.2.2.2.2.1.later (W' := w5.drew) ⟨rfl, rfl, rfl, Nat.le_refl _, fun _ _ => rfl⟩).mut o2 (far _ (by omega))
      have b1 : Blk w6 (n0 + 1) #[.int .u8 (x : Int), .int .u8 (y : Int), .int .u8 (z : Int)] 47 := (HX.out.2.2.1.later (W' := w5.drew) ⟨rfl, rfl, rfl, Nat.le_refl _, fun _ _ => rfl⟩).mut o2 (far _ (by omega))
      have b2 : Blk w6 (n0 + 1 + 1) #[.slice none 0 0, .int .i64 0] 40 := (HX.out.2.2.2.1.later (W' := w5.drew) ⟨rfl, rfl, rfl, Nat.le_refl _, fun _ _ => rfl⟩).mut o2 (far _ (by omega))
      refine ⟨⟨b4.cell 0 rfl, b4.cell 1 rfl, b1.cell 1 rfl⟩, b2, ?_⟩
      exact does_end (w5 := w5.drew) (a := .slice none 0 0) (b := .int .i64 0) (by rw [HZ.out.size]; omega) HW.out.1 (by rw [HZ.out.size]; exact HW.out.2) (by rw [HZ.out.size]; exact HX.out.1.drew) HX.out.2.2.2.1.lt (HX.out.2.2.2.2.2.later (W' := w5.drew) ⟨rfl, rfl, rfl, Nat.le_refl _, fun _ _ => rfl⟩) o2 o3 o1 HX.out.2.2.2.1
    have HK := Lib.hid hkeep
    clear hH hkeep
    refine wp_region_held_drew (S := fun W => W.cell? ⟨n4, 0, none⟩ = some (.slice A' n' cap') ∧ W.cell? ⟨n4, 1, none⟩ = some (.int .i64 (most : Int)) ∧ W.cell? ⟨n0 + 1, 1, none⟩ = some (.int .u8 (y : Int))) (by kernel_rfl) ?_ (fun hHeld => ?_)
    · exact zd
    refine wpAnyH_take (i := 0) (v := ?_) rfl (by kernel_rfl) (by kernel_rfl) (by kernel_rfl) (fun _ _ _ h => h) (Or.inl ⟨by rfl, ?_⟩) (by assumption) ?_
    rotate_left
    · intro wq hSw; (try dsimp only at hSw); obtain ⟨u0, u1, u2⟩ := hSw; go_simp; (try with_reducible rfl)
    simp only [Act.put, List.getElem_toArray, List.getElem_cons_succ, List.getElem_cons_zero, List.setIfInBounds_toArray, List.set_cons_zero, List.set_cons_succ]
    refine wpAnyH_take (i := 1) (v := ?_) rfl (by kernel_rfl) (by kernel_rfl) (by kernel_rfl) (fun _ _ _ h => h) (Or.inl ⟨by rfl, ?_⟩) (by assumption) ?_
    rotate_left
    · intro wq hSw; (try dsimp only at hSw); go_simp; (try with_reducible rfl)
    simp only [Act.put, List.getElem_toArray, List.getElem_cons_succ, List.getElem_cons_zero, List.setIfInBounds_toArray, List.set_cons_zero, List.set_cons_succ]
    refine wpAnyH_take (i := 2) (v := ?_) rfl (by kernel_rfl) (by kernel_rfl) (by kernel_rfl) (fun _ _ _ h => h) (Or.inl ⟨by rfl, ?_⟩) (by assumption) ?_
    rotate_left
    · intro wq hSw; (try dsimp only at hSw); go_simp; (try with_reducible rfl)
    simp only [Act.put, List.getElem_toArray, List.getElem_cons_succ, List.getElem_cons_zero, List.setIfInBounds_toArray, List.set_cons_zero, List.set_cons_succ]
    refine wpAnyH_take (i := 4) (v := ?_) rfl (by kernel_rfl) (by kernel_rfl) (by kernel_rfl) (fun _ _ _ h => h) (Or.inl ⟨by rfl, ?_⟩) (by assumption) ?_
    rotate_left
    · intro wq hSw; (try dsimp only at hSw); go_simp; (try with_reducible rfl)
    simp only [Act.put, List.getElem_toArray, List.getElem_cons_succ, List.getElem_cons_zero, List.setIfInBounds_toArray, List.set_cons_zero, List.set_cons_succ]
    refine wpAnyH_ready (rs := [3]) (by kernel_rfl) (by simp) ?_
    refine AllReadyH.cons rfl (fun K hK => ?_) AllReadyH.nil
    go_simp
    ((with_reducible refine HH.out.mono ?_); rintro e w6 ⟨rfl, bs6, H6⟩)
    obtain ⟨hS7, hk7, hL7⟩ := HK.out _ _ H6.out.1 H6.out.2.1 H6.out.2.2
    (try go_wp2_with fail)
    refine hK.out _ _ ?_ (fun hHeld => ?_)
    · exact hS7
    clear hK K
    try simp only [Act.put, List.getElem_toArray, List.getElem_cons_succ, List.getElem_cons_zero, List.setIfInBounds_toArray, List.set_cons_zero, List.set_cons_succ]
    refine wpAnyH_take (i := 5) (v := ?_) rfl (by kernel_rfl) (by kernel_rfl) (by kernel_rfl) (fun _ _ _ h => h) (Or.inl ⟨by rfl, ?_⟩) (by assumption) ?_
    rotate_left
    · intro wq hSw; (try dsimp only at hSw); go_simp; (try with_reducible rfl)
    simp only [Act.put, List.getElem_toArray, List.getElem_cons_succ, List.getElem_cons_zero, List.setIfInBounds_toArray, List.set_cons_zero, List.set_cons_succ]
    refine wpAnyH_ready (rs := [6]) (by kernel_rfl) (by simp) ?_
    refine AllReadyH.cons rfl (fun K hK => ?_) AllReadyH.nil
    have r0 := hk7.cell 0 rfl
    have r1 := hk7.cell 1 rfl
    have f0 := hk7.free 0
    have f1 := hk7.free 1
    go_simp
    (try go_wp2_with fail)
    refine hK.out _ _ ?_ (fun hHeld => ?_)
    · exact ⟨(World.cell?_setCell_other _ _ _ _ (by intro e; injection e with e; omega)).trans ((World.cell?_setCell_other _ _ _ _ (by intro e; injection e with e; omega)).trans hS7.1), (World.cell?_setCell_other _ _ _ _ (by intro e; injection e with e; omega)).trans ((World.cell?_setCell_other _ _ _ _ (by intro e; injection e with e; omega)).trans hS7.2.1), (World.cell?_setCell_other _ _ _ _ (by intro e; injection e with e; omega)).trans ((World.cell?_setCell_other _ _ _ _ (by intro e; injection e with e; omega)).trans hS7.2.2)⟩
    clear hK K
    try simp only [Act.put, List.getElem_toArray, List.getElem_cons_succ, List.getElem_cons_zero, List.setIfInBounds_toArray, List.set_cons_zero, List.set_cons_succ]
    refine wpAnyH_take (i := 7) (v := ?_) rfl (by kernel_rfl) (by kernel_rfl) (by kernel_rfl) (fun _ _ _ h => h) (Or.inl ⟨by rfl, ?_⟩) (by assumption) ?_
    rotate_left
    · intro wq hSw; (try dsimp only at hSw); go_simp; (try with_reducible rfl)
    simp only [Act.put, List.getElem_toArray, List.getElem_cons_succ, List.getElem_cons_zero, List.setIfInBounds_toArray, List.set_cons_zero, List.set_cons_succ]
    refine wpAnyH_done (by kernel_rfl) ?_ _
    clear hHeld
    go_wp2_with fail
    have z0 := hL7.2.1
    have z1 := hL7.2.2
    exact bodyPost_ret (v := .tuple #[.agg #[.slice A' n' cap', .int .i64 (most : Int)], .bool true]) (by simp [results, Try.results16, go_sem, z0, z1]) rfl ⟨_, A', n', cap', bs6, rfl, Lib.hid hL7.1⟩
  · subst hq3
    obtain ⟨ta, hta, hta2⟩ : ∃ ta : Nat, (y : Int) % 7 = (ta : Int) ∧ ta ≤ 6 := ⟨y % 7, by omega, by omega⟩
    have htm : (y : Int).tmod 7 = (ta : Int) := by rw [Int.tmod_eq_emod_of_nonneg (by omega)]; exact hta
    have HWR : Hid (IntKind.i64.wrap (ta : Int) = (ta : Int)) := Lib.hid (IntWalk.i64_in _ (by omega))
    have hP := refDue_any (most := most) (ta : Int) W3 hdc hnn hbL
    obtain ⟨sl, hsl⟩ : ∃ sl, lateOf (ta : Int) s = sl := ⟨_, rfl⟩
    obtain ⟨sd, hsd⟩ : ∃ sd, dueOf (ta : Int) s = sd := ⟨_, rfl⟩
    have HSL := Lib.hid (show lateOf (ta : Int) s = sl ∧ dueOf (ta : Int) s = sd from ⟨hsl, hsd⟩)
    have HPP := Lib.hid hP
    clear hP hsl hsd
    go_enter Try.func16, Try.ntmps16
    go_wp2_with fail
    refine HPP.out.mono ?_
    rintro e w4 ⟨A', n', cap', A2, n2, cap2, rfl, HQ4⟩
    have HP4 : Hid (Below W3.heap.size W3 w4 ∧ Dc w4 A' n' cap' sl ((n0 + 1 + 1) :: bs)) := Lib.hid ⟨HQ4.out.1, HSL.out.1 ▸ HQ4.out.2.1⟩
    have hdd : Dc (w4.alloc (.cells #[.slice A' n' cap', .int .i64 (most : Int)] 40)) A2 n2 cap2 sd ((n0 + 1 + 1) :: bs) := HSL.out.2 ▸ HQ4.out.2.2.later (box_below _)
    have HDD := Lib.hid hdd
    clear hdd HQ4
    have h4d := HP4.out.2
    have hmid := HZ.out.mid HP4.out.1
    obtain ⟨n4, hn4⟩ : ∃ n4, w4.heap.size = n4 := ⟨_, rfl⟩
    have hbx : Below w4.heap.size w4 (w4.alloc (.cells #[.slice A' n' cap', .int .i64 (most : Int)] 40)) := box_below _
    have hk4 := blk_new w4 #[.slice A' n' cap', .int .i64 (most : Int)] 40
    rw [hn4] at hk4
    obtain ⟨m1, m2, m3, m4, m5⟩ := hmid
    rw [hn4] at m5
    have HX : Hid (Below n0 W (w4.alloc (.cells #[.slice A' n' cap', .int .i64 (most : Int)] 40)) ∧ Ow w₀ (w4.alloc (.cells #[.slice A' n' cap', .int .i64 (most : Int)] 40)) S most s bs ∧ Blk (w4.alloc (.cells #[.slice A' n' cap', .int .i64 (most : Int)] 40)) (n0 + 1) #[.int .u8 (x : Int), .int .u8 (y : Int), .int .u8 (z : Int)] 47 ∧ Blk (w4.alloc (.cells #[.slice A' n' cap', .int .i64 (most : Int)] 40)) (n0 + 1 + 1) #[.slice none 0 0, .int .i64 0] 40 ∧ Blk (w4.alloc (.cells #[.slice A' n' cap', .int .i64 (most : Int)] 40)) n4 #[.slice A' n' cap', .int .i64 (most : Int)] 40 ∧ Dc (w4.alloc (.cells #[.slice A' n' cap', .int .i64 (most : Int)] 40)) A' n' cap' sl ((n0 + 1 + 1) :: bs)) :=
      Lib.hid ⟨m1.trans (hbx.mono (by omega)), m2.later hbx, m3.later hbx, m4.later hbx, hk4, h4d.later hbx⟩
    clear h4d hbx hk4 m1 m2 m3 m4 k0 k1 d0 d1 d2 hW3 hdc hbL hnn HP4
    go_wp2_with fail
    clear hn4
    generalize w4.alloc (.cells #[.slice A' n' cap', .int .i64 (most : Int)] 40) = w5 at HX HDD ⊢
    have zd : w5.drew.cell? ⟨n4, 0, none⟩ = some (.slice A' n' cap') ∧ w5.drew.cell? ⟨n4, 1, none⟩ = some (.int .i64 (most : Int)) ∧ w5.drew.cell? ⟨n0 + 1, 1, none⟩ = some (.int .u8 (y : Int)) := ⟨HX.out.2.2.2.2.1.cell 0 rfl, HX.out.2.2.2.2.1.cell 1 rfl, HX.out.2.2.1.cell 1 rfl⟩
    have hH := own_due (ta : Int) HX.out.2.1.drew' 
    rw [HSL.out.1, HSL.out.2, HDD.out.len] at hH
    have HH := Lib.hid hH
    have hkeep : ∀ w6 bs', Ow w₀ w6 S most sl bs' → Mut bs w5.drew w6 → Ext w5.drew bs bs' → (w6.cell? ⟨n4, 0, none⟩ = some (.slice A' n' cap') ∧ w6.cell? ⟨n4, 1, none⟩ = some (.int .i64 (most : Int)) ∧ w6.cell? ⟨n0 + 1, 1, none⟩ = some (.int .u8 (y : Int))) ∧ Blk w6 (n0 + 1 + 1) #[.slice none 0 0, .int .i64 0] 40 ∧
        (Left w₀ W ((w6.setCell ⟨n0 + 1 + 1, 0, none⟩ (.slice A' n' cap')).setCell ⟨n0 + 1 + 1, 1, none⟩ (.int .i64 (most : Int))) S most sl A' n' cap' bs bs' ∧
        ((w6.setCell ⟨n0 + 1 + 1, 0, none⟩ (.slice A' n' cap')).setCell ⟨n0 + 1 + 1, 1, none⟩ (.int .i64 (most : Int))).cell? ⟨n0 + 1 + 1, 0, none⟩ = some (.slice A' n' cap') ∧ ((w6.setCell ⟨n0 + 1 + 1, 0, none⟩ (.slice A' n' cap')).setCell ⟨n0 + 1 + 1, 1, none⟩ (.int .i64 (most : Int))).cell? ⟨n0 + 1 + 1, 1, none⟩ = some (.int .i64 (most : Int))) := fun w6 bs' o1 o2 o3 => by
      have far : ∀ k, n0 ≤ k → k ∉ bs := fun k hk hm => by have := HW.out.2 k hm; omega
      have b4 : Blk w6 n4 #[.slice A' n' cap', .int .i64 (most : Int)] 40 := (HX.out.2.2.2.2.1.later (W' := w5.drew) ⟨rfl, rfl, rfl, Nat.le_refl _, fun _ _ => rfl⟩).mut o2 (far _ (by omega))
      have b1 : Blk w6 (n0 + 1) #[.int .u8 (x : Int), .int .u8 (y : Int), .int .u8 (z : Int)] 47 := (HX.out.2.2.1.later (W' := w5.drew) ⟨rfl, rfl, rfl, Nat.le_refl _, fun _ _ => rfl⟩).mut o2 (far _ (by omega))
      have b2 : Blk w6 (n0 + 1 + 1) #[.slice none 0 0, .int .i64 0] 40 := (HX.out.2.2.2.1.later (W' := w5.drew) ⟨rfl, rfl, rfl, Nat.le_refl _, fun _ _ => rfl⟩).mut o2 (far _ (by omega))
      refine ⟨⟨b4.cell 0 rfl, b4.cell 1 rfl, b1.cell 1 rfl⟩, b2, ?_⟩
      exact does_end (w5 := w5.drew) (a := .slice none 0 0) (b := .int .i64 0) (by rw [HZ.out.size]; omega) HW.out.1 (by rw [HZ.out.size]; exact HW.out.2) (by rw [HZ.out.size]; exact HX.out.1.drew) HX.out.2.2.2.1.lt (HX.out.2.2.2.2.2.later (W' := w5.drew) ⟨rfl, rfl, rfl, Nat.le_refl _, fun _ _ => rfl⟩) o2 o3 o1 HX.out.2.2.2.1
    have HK := Lib.hid hkeep
    clear hH hkeep
    have hsame : ∀ w6 bs' Ah, Tms w6.heap.size w6 Ah sd → Mut bs w5.drew w6 → Ext w5.drew bs bs' → Calls Try.prog 20 #[.slice Ah n2 n2, .slice A2 n2 cap2] w6 fun e w' => e = .returned (.bool true) ∧ ∃ q, w' = w6.drewN q := fun w6 bs' Ah o1 o2 o3 => by
      have hd5 := HDD.out.later (W' := w5.drew) ⟨rfl, rfl, rfl, Nat.le_refl _, fun _ _ => rfl⟩
      have hd6 : Dc w6 A2 n2 cap2 sd ((n0 + 1 + 1) :: bs') := hd5.mut (o2.wider (fun k hk => by simp [hk])) (fun k hk => by
        rcases List.mem_cons.1 hk with rfl | hk
        · exact .inl (by simp)
        · exact (o3 k hk).imp (fun h => by simp [h]) id)
      refine refSame_any (c1 := n2) (c2 := cap2) w6 o1 ⟨hd6.len, fun h0 => ?_⟩ hd6.five
      obtain ⟨g, e, _, _, hc⟩ := hd6.cells h0
      exact ⟨g, 0, e, fun j hj => by rw [Nat.zero_add]; exact hc j hj⟩
    have HSM := Lib.hid hsame
    clear hsame
    refine wp_region_held_drew (S := fun W => W.cell? ⟨n4, 0, none⟩ = some (.slice A' n' cap') ∧ W.cell? ⟨n4, 1, none⟩ = some (.int .i64 (most : Int)) ∧ W.cell? ⟨n0 + 1, 1, none⟩ = some (.int .u8 (y : Int))) (by kernel_rfl) ?_ (fun hHeld => ?_)
    · exact zd
    refine wpAnyH_take (i := 0) (v := ?_) rfl (by kernel_rfl) (by kernel_rfl) (by kernel_rfl) (fun _ _ _ h => h) (Or.inl ⟨by rfl, ?_⟩) (by assumption) ?_
    rotate_left
    · intro wq hSw; (try dsimp only at hSw); obtain ⟨u0, u1, u2⟩ := hSw; go_simp; (try with_reducible rfl)
    simp only [Act.put, List.getElem_toArray, List.getElem_cons_succ, List.getElem_cons_zero, List.setIfInBounds_toArray, List.set_cons_zero, List.set_cons_succ]
    refine wpAnyH_take (i := 1) (v := ?_) rfl (by kernel_rfl) (by kernel_rfl) (by kernel_rfl) (fun _ _ _ h => h) (Or.inl ⟨by rfl, ?_⟩) (by assumption) ?_
    rotate_left
    · intro wq hSw; (try dsimp only at hSw); go_simp; (try with_reducible rfl)
    simp only [Act.put, List.getElem_toArray, List.getElem_cons_succ, List.getElem_cons_zero, List.setIfInBounds_toArray, List.set_cons_zero, List.set_cons_succ]
    refine wpAnyH_take (i := 2) (v := ?_) rfl (by kernel_rfl) (by kernel_rfl) (by kernel_rfl) (fun _ _ _ h => h) (Or.inl ⟨by rfl, ?_⟩) (by assumption) ?_
    rotate_left
    · intro wq hSw; (try dsimp only at hSw); go_simp; (try with_reducible rfl)
    simp only [Act.put, List.getElem_toArray, List.getElem_cons_succ, List.getElem_cons_zero, List.setIfInBounds_toArray, List.set_cons_zero, List.set_cons_succ]
    refine wpAnyH_take (i := 3) (v := ?_) rfl (by kernel_rfl) (by kernel_rfl) (by kernel_rfl) (fun _ _ _ h => h) (Or.inl ⟨by rfl, ?_⟩) (by assumption) ?_
    rotate_left
    · intro wq hSw; (try dsimp only at hSw); obtain ⟨u0, u1, u2⟩ := hSw; go_simp; (try with_reducible rfl)
    simp only [Act.put, List.getElem_toArray, List.getElem_cons_succ, List.getElem_cons_zero, List.setIfInBounds_toArray, List.set_cons_zero, List.set_cons_succ]
    refine wpAnyH_take (i := 4) (v := ?_) rfl (by kernel_rfl) (by kernel_rfl) (by kernel_rfl) (fun _ _ _ h => h) (Or.inl ⟨by rfl, ?_⟩) (by assumption) ?_
    rotate_left
    · intro wq hSw; (try dsimp only at hSw); go_simp; (try with_reducible rfl)
    simp only [Act.put, List.getElem_toArray, List.getElem_cons_succ, List.getElem_cons_zero, List.setIfInBounds_toArray, List.set_cons_zero, List.set_cons_succ]
    refine wpAnyH_take (i := 5) (v := ?_) rfl (by kernel_rfl) (by kernel_rfl) (by kernel_rfl) (fun _ _ _ h => h) (Or.inl ⟨by rfl, ?_⟩) (by assumption) ?_
    rotate_left
    · intro wq hSw; (try dsimp only at hSw); go_simp; (try with_reducible rfl)
    simp only [Act.put, List.getElem_toArray, List.getElem_cons_succ, List.getElem_cons_zero, List.setIfInBounds_toArray, List.set_cons_zero, List.set_cons_succ]
    refine wpAnyH_take (i := 7) (v := ?_) rfl (by kernel_rfl) (by kernel_rfl) (by kernel_rfl) (fun _ _ _ h => h) (Or.inl ⟨by rfl, ?_⟩) (by assumption) ?_
    rotate_left
    · intro wq hSw; (try dsimp only at hSw); go_simp; (try with_reducible rfl)
    simp only [Act.put, List.getElem_toArray, List.getElem_cons_succ, List.getElem_cons_zero, List.setIfInBounds_toArray, List.set_cons_zero, List.set_cons_succ]
    refine wpAnyH_ready (rs := [6]) (by kernel_rfl) (by simp) ?_
    refine AllReadyH.cons rfl (fun K hK => ?_) AllReadyH.nil
    go_simp
    simp only [HWR.out]
    ((with_reducible refine HH.out.mono ?_); rintro e w6 ⟨Ah, bs6, rfl, H6⟩)
    obtain ⟨hS6, _, _⟩ := HK.out _ _ H6.out.2.1 H6.out.2.2.1 H6.out.2.2.2
    have HSM6 := Lib.hid (HSM.out _ _ Ah H6.out.1 H6.out.2.2.1 H6.out.2.2.2)
    (try go_wp2_with fail)
    refine hK.out _ _ ?_ (fun hHeld => ?_)
    · exact hS6
    clear hK K
    try simp only [Act.put, List.getElem_toArray, List.getElem_cons_succ, List.getElem_cons_zero, List.setIfInBounds_toArray, List.set_cons_zero, List.set_cons_succ]
    refine wpAnyH_ready (rs := [8]) (by kernel_rfl) (by simp) ?_
    refine AllReadyH.cons rfl (fun K hK => ?_) AllReadyH.nil
    go_simp
    ((with_reducible refine HSM6.out.mono ?_); rintro e w7 ⟨rfl, qd, rfl⟩)
    have hbq : Below w6.heap.size w6 (w6.drewN qd) := ⟨rfl, rfl, rfl, Nat.le_refl _, fun _ _ => rfl⟩
    obtain ⟨hS7, hk7, hL7⟩ := HK.out (w6.drewN qd) _ (H6.out.2.1.later hbq) (H6.out.2.2.1.trans (Mut.of_below hbq)) H6.out.2.2.2
    (try go_wp2_with fail)
    refine hK.out _ _ ?_ (fun hHeld => ?_)
    · exact hS7
    clear hK K
    try simp only [Act.put, List.getElem_toArray, List.getElem_cons_succ, List.getElem_cons_zero, List.setIfInBounds_toArray, List.set_cons_zero, List.set_cons_succ]
    refine wpAnyH_ready (rs := [9]) (by kernel_rfl) (by simp) ?_
    refine AllReadyH.cons rfl (fun K hK => ?_) AllReadyH.nil
    have r0 := hk7.cell 0 rfl
    have r1 := hk7.cell 1 rfl
    have f0 := hk7.free 0
    have f1 := hk7.free 1
    go_simp
    (try go_wp2_with fail)
    refine hK.out _ _ ?_ (fun hHeld => ?_)
    · exact ⟨(World.cell?_setCell_other _ _ _ _ (by intro e; injection e with e; omega)).trans ((World.cell?_setCell_other _ _ _ _ (by intro e; injection e with e; omega)).trans hS7.1), (World.cell?_setCell_other _ _ _ _ (by intro e; injection e with e; omega)).trans ((World.cell?_setCell_other _ _ _ _ (by intro e; injection e with e; omega)).trans hS7.2.1), (World.cell?_setCell_other _ _ _ _ (by intro e; injection e with e; omega)).trans ((World.cell?_setCell_other _ _ _ _ (by intro e; injection e with e; omega)).trans hS7.2.2)⟩
    clear hK K
    try simp only [Act.put, List.getElem_toArray, List.getElem_cons_succ, List.getElem_cons_zero, List.setIfInBounds_toArray, List.set_cons_zero, List.set_cons_succ]
    refine wpAnyH_take (i := 10) (v := ?_) rfl (by kernel_rfl) (by kernel_rfl) (by kernel_rfl) (fun _ _ _ h => h) (Or.inl ⟨by rfl, ?_⟩) (by assumption) ?_
    rotate_left
    · intro wq hSw; (try dsimp only at hSw); go_simp; (try with_reducible rfl)
    simp only [Act.put, List.getElem_toArray, List.getElem_cons_succ, List.getElem_cons_zero, List.setIfInBounds_toArray, List.set_cons_zero, List.set_cons_succ]
    refine wpAnyH_done (by kernel_rfl) ?_ _
    clear hHeld
    go_wp2_with fail
    have z0 := hL7.2.1
    have z1 := hL7.2.2
    exact bodyPost_ret (v := .tuple #[.agg #[.slice A' n' cap', .int .i64 (most : Int)], .bool true]) (by simp [results, Try.results16, go_sem, z0, z1]) rfl ⟨_, A', n', cap', bs6, rfl, Lib.hid hL7.1⟩
end Go.Proofs.Ytlbopajnnbnolaa
