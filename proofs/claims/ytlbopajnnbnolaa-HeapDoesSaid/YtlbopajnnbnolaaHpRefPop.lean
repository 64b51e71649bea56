/-
  The document's own Pop of timers.
-/
import Derived.Test.YtlbopajnnbnolaaHpRefDrop
namespace Go.Proofs.Ytlbopajnnbnolaa
open Go.RowKit Go.Maps Go.Proofs.HeapMath

def PopD (w : World) (most : Nat) (bs : List Nat) (s : List Tm) (e : Ending) (w' : World) : Prop :=
  ∃ A n cap, e = .returned (.tuple #[.agg #[.slice A n cap, .int .i64 (most : Int)], .agg #[.int .i64 (hd s).1, .int .i64 (hd s).2], .bool (!s.isEmpty)]) ∧ Hid (Below w.heap.size w w' ∧ Dc w' A n cap s.tail bs)
/-- Four stores into blocks that are new. -/
theorem four {B : Nat} {w W : World} {g1 g2 : Nat} {u1 v1 u2 v2 : Value} {a b c d : Value} {T1 T2 : TypeId} (hb : Below B w W) (h1 : Blk W g1 #[a, b] T1) (h2 : Blk W g2 #[c, d] T2) (hne : g1 ≠ g2) (hB : B ≤ g1 ∧ B ≤ g2) :
    ((((W.setCell ⟨g1, 0, none⟩ u1).setCell ⟨g1, 1, none⟩ v1).setCell ⟨g2, 0, none⟩ u2).setCell ⟨g2, 1, none⟩ v2).drew.cell? ⟨g1, 0, none⟩ = some u1 ∧
    ((((W.setCell ⟨g1, 0, none⟩ u1).setCell ⟨g1, 1, none⟩ v1).setCell ⟨g2, 0, none⟩ u2).setCell ⟨g2, 1, none⟩ v2).drew.cell? ⟨g1, 1, none⟩ = some v1 ∧
    ((((W.setCell ⟨g1, 0, none⟩ u1).setCell ⟨g1, 1, none⟩ v1).setCell ⟨g2, 0, none⟩ u2).setCell ⟨g2, 1, none⟩ v2).drew.cell? ⟨g2, 0, none⟩ = some u2 ∧
    ((((W.setCell ⟨g1, 0, none⟩ u1).setCell ⟨g1, 1, none⟩ v1).setCell ⟨g2, 0, none⟩ u2).setCell ⟨g2, 1, none⟩ v2).drew.cell? ⟨g2, 1, none⟩ = some v2 ∧
    Below B w ((((W.setCell ⟨g1, 0, none⟩ u1).setCell ⟨g1, 1, none⟩ v1).setCell ⟨g2, 0, none⟩ u2).setCell ⟨g2, 1, none⟩ v2).drew := by
  have k1 := ((((h1.set 0 u1).set 1 v1).same (Below.heap_setCell _ ⟨g2, 0, none⟩ u2 _ hne)).same (Below.heap_setCell _ ⟨g2, 1, none⟩ v2 _ hne))
  have k2 := (((h2.same (Below.heap_setCell W ⟨g1, 0, none⟩ u1 _ hne.symm)).same (Below.heap_setCell _ ⟨g1, 1, none⟩ v1 _ hne.symm)).set 0 u2).set 1 v2
  have k3 : Below B w ((((W.setCell ⟨g1, 0, none⟩ u1).setCell ⟨g1, 1, none⟩ v1).setCell ⟨g2, 0, none⟩ u2).setCell ⟨g2, 1, none⟩ v2) := (((hb.setCell hB.1 _).setCell hB.1 _).setCell hB.2 _).setCell hB.2 _
  generalize (((W.setCell ⟨g1, 0, none⟩ u1).setCell ⟨g1, 1, none⟩ v1).setCell ⟨g2, 0, none⟩ u2).setCell ⟨g2, 1, none⟩ v2 = W4 at k1 k2 k3 ⊢
  have c1 := k1.cell 0 rfl
  have c2 := k1.cell 1 rfl
  have c3 := k2.cell 0 rfl
  have c4 := k2.cell 1 rfl
  exact ⟨c1, c2, c3, c4, k3.drew⟩

set_option maxRecDepth 100000 in
set_option maxHeartbeats 4000000 in
theorem refPop_any {A : Option Addr} {n cap most : Nat} {s : List Tm} {bs : List Nat} (w : World) (h : Dc w A n cap s bs) (hn : Nn s) (hbs : ∀ k ∈ bs, k < w.heap.size) :
    Calls Try.prog 28 #[.agg #[.slice A n cap, .int .i64 (most : Int)]] w (PopD w most bs s) := by
  obtain ⟨n0, hn0⟩ : ∃ n0, w.heap.size = n0 := ⟨_, rfl⟩
  have hB : Below n0 w (((w.alloc (.cells #[.slice A n cap, .int .i64 (most : Int)] 40)).alloc (.cells #[.slice none 0 0, .int .i64 0] 40)).alloc (.cells #[.int .i64 0, .int .i64 0] 31)) := by
    rw [← hn0]
    exact ((box_below _).alloc (by simp) _).alloc (by simp; omega) _
  have hk0 := blk_new w #[.slice A n cap, .int .i64 (most : Int)] 40
  have hk1 := blk_new (w.alloc (.cells #[.slice A n cap, .int .i64 (most : Int)] 40)) #[.slice none 0 0, .int .i64 0] 40
  have hk2 := blk_new ((w.alloc (.cells #[.slice A n cap, .int .i64 (most : Int)] 40)).alloc (.cells #[.slice none 0 0, .int .i64 0] 40)) #[.int .i64 0, .int .i64 0] 31
  simp only [World.size_alloc, hn0] at hk0 hk1 hk2
  have hk0' := (hk0.later (box_below (.cells #[.slice none 0 0, .int .i64 0] 40))).later (box_below (.cells #[.int .i64 0, .int .i64 0] 31))
  have hk1' := hk1.later (box_below (.cells #[.int .i64 0, .int .i64 0] 31))
  obtain ⟨W3, hW3⟩ : ∃ W3, ((w.alloc (.cells #[.slice A n cap, .int .i64 (most : Int)] 40)).alloc (.cells #[.slice none 0 0, .int .i64 0] 40)).alloc (.cells #[.int .i64 0, .int .i64 0] 31) = W3 := ⟨_, rfl⟩
  have hs3 : W3.heap.size = n0 + 3 := by rw [← hW3]; simp [hn0]
  rw [hW3] at hB hk0' hk1' hk2
  have hF := refFirst_any (most := most) W3 (h.later (hn0 ▸ hB))
  obtain ⟨⟨ta, tb⟩, ht⟩ : ∃ x, hd s = x := ⟨_, rfl⟩
  have HT := Lib.hid ht
  obtain ⟨ne, hne⟩ : ∃ ne, (!s.isEmpty) = ne := ⟨_, rfl⟩
  have HNE := Lib.hid hne
  rw [ht, hne] at hF
  simp only at hF
  have hDr : ∀ W, Below (n0 + 3) W3 W → n0 + 3 ≤ W.heap.size → ne = true → Calls Try.prog 29 #[.agg #[.slice A n cap, .int .i64 (most : Int)], .int .i64 tb] W fun e w' => ∃ A' n' cap', e = .returned (.tuple #[.agg #[.slice A' n' cap', .int .i64 (most : Int)], .bool true]) ∧ Hid (Below (n0 + 3) W3 w' ∧ n0 + 3 ≤ w'.heap.size ∧ Dc w' A' n' cap' s.tail ((n0 + 1) :: (n0 + 1 + 1) :: bs) ∧ Below W.heap.size W w') := fun W hW hsz h1 => by
    cases s with
    | nil => rw [← hne] at h1; cases h1
    | cons t r =>
      have e : t = (ta, tb) := ht
      subst e
      have hx : Ext w bs ((n0 + 1) :: (n0 + 1 + 1) :: bs) := fun k hk => by
        rcases List.mem_cons.1 hk with rfl | hk
        · exact .inr (by omega)
        · rcases List.mem_cons.1 hk with rfl | hk
          · exact .inr (by omega)
          · exact .inl hk
      have hD2 : Dc W A n cap ((ta, tb) :: r) ((n0 + 1) :: (n0 + 1 + 1) :: bs) := (h.mut (Mut.refl _ _) hx).later (hn0 ▸ hB.trans (hW.mono (by omega)))
      have hb2 : ∀ k ∈ (n0 + 1) :: (n0 + 1 + 1) :: bs, k < W.heap.size := fun k hk => by
        rcases List.mem_cons.1 hk with rfl | hk
        · omega
        · rcases List.mem_cons.1 hk with rfl | hk
          · omega
          · have := hbs k hk; omega
      refine (refDrop_any (most := most) tb W hD2 hn hb2).mono fun e w' ⟨A', n', cap', x1, x2⟩ => ⟨A', n', cap', ?_, Lib.hid ⟨hW.trans (x2.out.1.mono hsz), Nat.le_trans hsz x2.out.1.size, ?_, x2.out.1⟩⟩
      · rw [x1, isin_true.2 ⟨(ta, tb), by simp, rfl⟩]
      · have := x2.out.2
        rwa [show del tb ((ta, tb) :: r) = r from del_first hn] at this
  have HB := Lib.hid hB
  have HK1 := Lib.hid hk1'
  have HK2 := Lib.hid hk2
  have HS3 := Lib.hid hs3
  have HD := Lib.hid h
  have HF := Lib.hid hF
  have HDR := Lib.hid hDr
  have k0 := hk0'.cell 0 rfl
  have k1 := hk0'.cell 1 rfl
  have HK0 := Lib.hid hk0'
  have HN0 := Lib.hid hn0
  clear hB hk1' hk2 hs3 h hF hDr hk0' hk0 hk1 hn hbs ht hne
  go_enter Try.func28, Try.ntmps28
  go_wp2_with fail
  refine HF.out.mono ?_
  rintro e w4 ⟨rfl, hb4⟩
  clear hW3 k0 k1
  obtain ⟨n4, hn4⟩ : ∃ n4, w4.heap.size = n4 := ⟨_, rfl⟩
  have hb5 : Below (n0 + 3) W3 (w4.alloc (.cells #[.int .i64 ta, .int .i64 tb] 31)) := HS3.out ▸ hb4.alloc hb4.size _
  have hs5 : n0 + 3 ≤ n4 := by have := hb4.size; have := HS3.out; omega
  have hk4 := blk_new w4 #[.int .i64 ta, .int .i64 tb] 31
  rw [hn4] at hk4
  have hsz5 : (w4.alloc (.cells #[.int .i64 ta, .int .i64 tb] 31)).heap.size = n4 + 1 := by rw [World.size_alloc, hn4]
  have HX := Lib.hid (show Below (n0 + 3) W3 (w4.alloc (.cells #[.int .i64 ta, .int .i64 tb] 31)) ∧ Blk (w4.alloc (.cells #[.int .i64 ta, .int .i64 tb] 31)) n4 #[.int .i64 ta, .int .i64 tb] 31 ∧ (w4.alloc (.cells #[.int .i64 ta, .int .i64 tb] 31)).heap.size = n4 + 1 from ⟨hb5, hk4, hsz5⟩)
  clear hb4 hb5 hk4 hsz5
  cases ne with
  | false =>
    go_wp2_with fail
    clear hn4
    generalize w4.alloc (.cells #[.int .i64 ta, .int .i64 tb] 31) = w5 at HX ⊢
    have b0 := HK0.out.same (HX.out.1.block _ (by omega))
    have b1 := HK1.out.same (HX.out.1.block _ (by omega))
    have b2 := HK2.out.same (HX.out.1.block _ (by omega))
    have k0 := b0.cell 0 rfl
    have k1 := b0.cell 1 rfl
    have t0 := HX.out.2.1.cell 0 rfl
    have t1 := HX.out.2.1.cell 1 rfl
    have r0 := b1.cell 0 rfl
    have r1 := b1.cell 1 rfl
    have r2 := b2.cell 0 rfl
    have r3 := b2.cell 1 rfl
    have f0 := b1.free 0
    have f1 := b1.free 1
    have f2 := b2.free 0
    have f3 := b2.free 1
    have h4 := four (u1 := .slice A n cap) (v1 := .int .i64 (most : Int)) (u2 := .int .i64 ta) (v2 := .int .i64 tb) (HB.out.trans (HX.out.1.mono (by omega))) b1 b2 (by omega) (by omega)
    have H4 := Lib.hid h4
    clear b0 b1 b2 h4
    go_region
    go_wp2_with fail
    have z0 := H4.out.1
    have z1 := H4.out.2.1
    have z2 := H4.out.2.2.1
    have z3 := H4.out.2.2.2.1
    refine bodyPost_ret (v := .tuple #[.agg #[.slice A n cap, .int .i64 (most : Int)], .agg #[.int .i64 ta, .int .i64 tb], .bool false]) (by simp [results, Try.results28, go_sem, z0, z1, z2, z3]) rfl ⟨A, n, cap, by rw [HT.out, HNE.out], Lib.hid ⟨HN0.out ▸ H4.out.2.2.2.2, ?_⟩⟩
    have hs : s = [] := by
      have := HNE.out
      cases s with
      | nil => rfl
      | cons t r => simp at this
    have hd := HD.out.later (HN0.out ▸ H4.out.2.2.2.2)
    rw [hs] at hd ⊢
    rw [HN0.out] at hd
    exact hd
  | true =>
    have hD := HDR.out _ HX.out.1 (by have := HX.out.2.2; omega) rfl
    have b0 := HK0.out.same (HX.out.1.block _ (by omega))
    have k0 := b0.cell 0 rfl
    have k1 := b0.cell 1 rfl
    have t0 := HX.out.2.1.cell 0 rfl
    have t1 := HX.out.2.1.cell 1 rfl
    have HDD := Lib.hid hD
    clear hD b0
    go_wp2_with fail
    refine HDD.out.mono ?_
    rintro e w6 ⟨A', n', cap', rfl, H6⟩
    clear k0 k1 t0 t1
    obtain ⟨n6, hn6⟩ : ∃ n6, w6.heap.size = n6 := ⟨_, rfl⟩
    have hs6 := H6.out.2.1
    rw [hn6] at hs6
    have hb7 : Below (n0 + 3) W3 (w6.alloc (.cells #[.slice A' n' cap', .int .i64 (most : Int)] 40)) := H6.out.1.alloc H6.out.2.1 _
    have hk7 := blk_new w6 #[.slice A' n' cap', .int .i64 (most : Int)] 40
    rw [hn6] at hk7
    have ht7 : Blk (w6.alloc (.cells #[.slice A' n' cap', .int .i64 (most : Int)] 40)) n4 #[.int .i64 ta, .int .i64 tb] 31 := (HX.out.2.1.later H6.out.2.2.2).later (box_below _)
    have hd7 := H6.out.2.2.1.later (box_below (.cells #[.slice A' n' cap', .int .i64 (most : Int)] 40))
    have H7 := Lib.hid (show Below (n0 + 3) W3 (w6.alloc (.cells #[.slice A' n' cap', .int .i64 (most : Int)] 40)) ∧ Blk (w6.alloc (.cells #[.slice A' n' cap', .int .i64 (most : Int)] 40)) n6 #[.slice A' n' cap', .int .i64 (most : Int)] 40 ∧ Blk (w6.alloc (.cells #[.slice A' n' cap', .int .i64 (most : Int)] 40)) n4 #[.int .i64 ta, .int .i64 tb] 31 ∧ Dc (w6.alloc (.cells #[.slice A' n' cap', .int .i64 (most : Int)] 40)) A' n' cap' s.tail ((n0 + 1) :: (n0 + 1 + 1) :: bs) from ⟨hb7, hk7, ht7, hd7⟩)
    clear hb7 hk7 ht7 hd7 HX
    go_wp2_with fail
    clear hn6
    generalize w6.alloc (.cells #[.slice A' n' cap', .int .i64 (most : Int)] 40) = w5 at H7 ⊢
    have b1 := HK1.out.same (H7.out.1.block _ (by omega))
    have b2 := HK2.out.same (H7.out.1.block _ (by omega))
    have k0 := H7.out.2.1.cell 0 rfl
    have k1 := H7.out.2.1.cell 1 rfl
    have t0 := H7.out.2.2.1.cell 0 rfl
    have t1 := H7.out.2.2.1.cell 1 rfl
    have r0 := b1.cell 0 rfl
    have r1 := b1.cell 1 rfl
    have r2 := b2.cell 0 rfl
    have r3 := b2.cell 1 rfl
    have f0 := b1.free 0
    have f1 := b1.free 1
    have f2 := b2.free 0
    have f3 := b2.free 1
    have h4 := four (u1 := .slice A' n' cap') (v1 := .int .i64 (most : Int)) (u2 := .int .i64 ta) (v2 := .int .i64 tb) (HB.out.trans (H7.out.1.mono (by omega))) b1 b2 (by omega) (by omega)
    have hdc : Dc ((((w5.setCell ⟨n0 + 1, 0, none⟩ (.slice A' n' cap')).setCell ⟨n0 + 1, 1, none⟩ (.int .i64 (most : Int))).setCell ⟨n0 + 1 + 1, 0, none⟩ (.int .i64 ta)).setCell ⟨n0 + 1 + 1, 1, none⟩ (.int .i64 tb)).drew A' n' cap' s.tail bs := by
      have m1 : Mut ((n0 + 1) :: (n0 + 1 + 1) :: bs) w5 ((((w5.setCell ⟨n0 + 1, 0, none⟩ (.slice A' n' cap')).setCell ⟨n0 + 1, 1, none⟩ (.int .i64 (most : Int))).setCell ⟨n0 + 1 + 1, 0, none⟩ (.int .i64 ta)).setCell ⟨n0 + 1 + 1, 1, none⟩ (.int .i64 tb)).drew := (((((Mut.refl _ w5).setCell (by simp) _).setCell (by simp) _).setCell (by simp) _).setCell (by simp) _).drew
      exact (H7.out.2.2.2.mut m1 (Ext.refl _ _)).mut (Mut.refl _ _) (fun k hk => .inl (by simp [hk]))
    have H4 := Lib.hid h4
    have HDC := Lib.hid hdc
    clear b1 b2 h4 hdc
    go_region
    go_wp2_with fail
    have z0 := H4.out.1
    have z1 := H4.out.2.1
    have z2 := H4.out.2.2.1
    have z3 := H4.out.2.2.2.1
    exact bodyPost_ret (v := .tuple #[.agg #[.slice A' n' cap', .int .i64 (most : Int)], .agg #[.int .i64 ta, .int .i64 tb], .bool true]) (by simp [results, Try.results28, go_sem, z0, z1, z2, z3]) rfl ⟨A', n', cap', by rw [HT.out, HNE.out], Lib.hid ⟨HN0.out ▸ H4.out.2.2.2.2, HDC.out⟩⟩
end Go.Proofs.Ytlbopajnnbnolaa
