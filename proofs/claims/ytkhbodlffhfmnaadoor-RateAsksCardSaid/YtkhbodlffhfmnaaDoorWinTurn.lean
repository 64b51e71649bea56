/-
  What window's turn does: ErrTime, where it may not be; else that time is now, and the sketches are turned.
-/
import Derived.RegionTactic
import Derived.BigRegion
import Derived.BigQuiet
import Derived.Deep.QuietTactic
import Derived.Test.YtkhbodlffhfmnaaDoorWin0
namespace Go.Proofs.YtkhbodlffhfmnaaDoor
open Go.RowKit Go.Proofs.HashMath Go.Proofs.SkMath

set_option maxRecDepth 100000 in
set_option maxHeartbeats 1000000 in
theorem turn_no {W : World} {V a b c S A G r m seed long now tot : Nat} {cv : Value} {f g : Nat → Nat → Nat} {bs : List Nat} (h : Wi W V a b c S A G r m seed long now cv f g tot bs) (t : Int) (ht : t < now ∨ 1099511627776 < t) :
    Calls Tryd.prog 38 #[.pointer (some ⟨V, 0, none⟩), .int .i64 t] W fun e w' => e = .returned (.int .u16 60) ∧ Below W.heap.size W w' := by
  have q2 := h.own.cell 2 rfl
  have hb := Below.refl W.heap.size W
  clear h
  by_cases h1 : t < now
  · have d1 : decide (t < (now : Int)) = true := by simp; omega
    clear ht
    go_enter Tryd.func38, Tryd.ntmps38
    go_wp2
    go_ret
    exact ⟨rfl, hb⟩
  · have d1 : decide (t < (now : Int)) = false := by simp; omega
    have d2 : decide (1099511627776 < t) = true := by simp; omega
    clear ht h1
    go_enter Tryd.func38, Tryd.ntmps38
    go_wp2
    go_ret
    exact ⟨rfl, hb⟩

set_option maxRecDepth 100000 in
set_option maxHeartbeats 1000000 in
theorem turn_same {W : World} {V a b c S A G r m seed long now tot : Nat} {cv : Value} {f g : Nat → Nat → Nat} {bs : List Nat} (h : Wi W V a b c S A G r m seed long now cv f g tot bs) (t : Nat) (h1 : now ≤ t) (h2 : t ≤ 1099511627776) (hs : t / long = now / long) :
    Calls Tryd.prog 38 #[.pointer (some ⟨V, 0, none⟩), .int .i64 (t : Int)] W fun e w' => e = .returned (.int .u16 0) ∧ Mut [V] W w' ∧ Wi w' V a b c S A G r m seed long t cv f g tot bs := by
  have q1 := h.own.cell 1 rfl
  have q2 := h.own.cell 2 rfl
  have f2 := h.own.free 2
  have hl := h.l1
  have hl2 := h.l2
  have d1 : decide (t < now) = false := by simp; omega
  have d2 : decide (1099511627776 < (t : Int)) = false := by simp; omega
  have d3 : ((long : Int) == 0) = false := by simp; omega
  obtain ⟨k, hk, hk'⟩ : ∃ k : Nat, (now : Int) / (long : Int) = (k : Int) ∧ now / long = k := ⟨now / long, by simp, rfl⟩
  have ht : (t : Int) / (long : Int) = (k : Int) := by rw [← hk', ← hs]; simp
  have HE := Lib.hid (show ∀ w' : World, w' = (W.setCell ⟨V, 2, none⟩ (.int .i64 (t : Int))).drew → Mut [V] W w' ∧ Wi w' V a b c S A G r m seed long t cv f g tot bs from fun w' e => by
    subst e
    have hm : Mut [V] W (W.setCell ⟨V, 2, none⟩ (.int .i64 (t : Int))).drew := ((Mut.refl _ W).setCell (p := ⟨V, 2, none⟩) (by simp) _).drew
    have va := h.va
    exact ⟨hm, { h with
      own := h.own.set 2 _
      ba := h.ba.same (hm.block _ h.ba.lt (by simp; omega))
      bb := h.bb.same (hm.block _ h.bb.lt (by simp; omega))
      bc := h.bc.same (hm.block _ h.bc.lt (by simp; omega))
      sk := hs ▸ h.sk.mut hm (by simp; omega) (by simp; omega) (by simp; omega)
      old := hs ▸ h.old.mut hm (fun k hk => Or.inl (by simp at hk; simp [hk]))
      t2 := h2 }⟩)
  clear h hk' hs
  go_enter Tryd.func38, Tryd.ntmps38
  go_wp2
  go_region
  go_wp2
  go_ret
  exact ⟨rfl, HE.out _ rfl⟩

/-- Behind the stores: the window with a new open sketch. -/
theorem Wi.turned {W W4 : World} {V a b c S A G r m seed long now tot t S2 A2 G2 : Nat} {cv cv2 : Value} {f g g2 : Nat → Nat → Nat} {w2 : World} {bs bs2 : List Nat} (h : Wi W V a b c S A G r m seed long now cv f g tot bs) (h2 : t ≤ 1099511627776)
    (hm : Mut [V] W w2) (hV : Blk w2 V #[beginV a b c, .int .i64 (long : Int), .int .i64 (t : Int), .pointer (some ⟨S, 0, none⟩), cv2] 76) (hb : Below w2.heap.size w2 W4) (hS : w2.heap.size ≤ S2) (hA : w2.heap.size ≤ A2) (hG : w2.heap.size ≤ G2) (hk : Sk W4 S2 A2 G2 r m (sd seed (t / long)) Z 0)
    (hO : Old w2 [V] bs2 r m (sdL seed (t / long)) g2 cv2) :
    Mut [V] W (W4.setCell ⟨V, 3, none⟩ (.pointer (some ⟨S2, 0, none⟩))) ∧ Wi (W4.setCell ⟨V, 3, none⟩ (.pointer (some ⟨S2, 0, none⟩))) V a b c S2 A2 G2 r m seed long t cv2 Z g2 0 bs2 := by
  have hm4 : Mut [V] W (W4.setCell ⟨V, 3, none⟩ (.pointer (some ⟨S2, 0, none⟩))) := (hm.trans (Mut.of_below hb)).setCell (p := ⟨V, 3, none⟩) (by simp) _
  have hx : Mut [V] W4 (W4.setCell ⟨V, 3, none⟩ (.pointer (some ⟨S2, 0, none⟩))) := (Mut.refl _ W4).setCell (p := ⟨V, 3, none⟩) (by simp) _
  have va := h.va
  have hVl := hV.lt
  have la : a < w2.heap.size := Nat.lt_of_lt_of_le h.ba.lt hm.size
  have lb : b < w2.heap.size := Nat.lt_of_lt_of_le h.bb.lt hm.size
  have lc : c < w2.heap.size := Nat.lt_of_lt_of_le h.bc.lt hm.size
  refine ⟨hm4, { h with
      own := (hV.later hb).set 3 _
      ba := h.ba.same (hm4.block _ h.ba.lt (by simp; omega))
      bb := h.bb.same (hm4.block _ h.bb.lt (by simp; omega))
      bc := h.bc.same (hm4.block _ h.bc.lt (by simp; omega))
      sk := hk.mut hx (by simp; omega) (by simp; omega) (by simp; omega)
      old := ?_
      va := by omega
      ka := by omega
      t2 := h2 }⟩
  rcases hO with hO | ⟨S', A', G', tot', e, hk', ⟨n1, n2, n3⟩, b1, b2, b3⟩
  · exact Or.inl hO
  · have l1 := hk'.own.lt
    have l2 := hk'.ltA
    have l3 := hk'.ltG
    simp at n1 n2 n3
    exact Or.inr ⟨S', A', G', tot', e, (hk'.later hb).mut hx (by simpa using n1) (by simpa using n2) (by simpa using n3), ⟨by simp; omega, by simp; omega, by simp; omega⟩, b1, b2, b3⟩

set_option maxRecDepth 100000 in
set_option maxHeartbeats 1000000 in
theorem turn_next {W : World} {V a b c S A G r m seed long now tot : Nat} {cv : Value} {f g : Nat → Nat → Nat} {bs : List Nat} (h : Wi W V a b c S A G r m seed long now cv f g tot bs) (t : Nat) (h1 : now ≤ t) (h2 : t ≤ 1099511627776) (hs : t / long = now / long + 1) :
    Calls Tryd.prog 38 #[.pointer (some ⟨V, 0, none⟩), .int .i64 (t : Int)] W fun e w' => e = .returned (.int .u16 0) ∧ Mut [V] W w' ∧ ∃ S2 A2 G2, (W.heap.size ≤ S2 ∧ W.heap.size ≤ A2 ∧ W.heap.size ≤ G2) ∧ (S2 < w'.heap.size ∧ A2 < w'.heap.size ∧ G2 < w'.heap.size) ∧ Wi w' V a b c S2 A2 G2 r m seed long t (.pointer (some ⟨S, 0, none⟩)) Z f 0 [V, a, b, c, S2, A2, G2, S, A, G] := by
  have q0 := h.own.cell 0 rfl
  have q1 := h.own.cell 1 rfl
  have q2 := h.own.cell 2 rfl
  have q3 := h.own.cell 3 rfl
  have q4 := h.own.cell 4 rfl
  have f2 := h.own.free 2
  have f3 := h.own.free 3
  have f4 := h.own.free 4
  have hl := h.l1
  have hl2 := h.l2
  have d1 : decide (t < now) = false := by simp; omega
  have d2 : decide (1099511627776 < (t : Int)) = false := by simp; omega
  have d3 : ((long : Int) == 0) = false := by simp; omega
  obtain ⟨k, hk, hk'⟩ : ∃ k : Nat, (now : Int) / (long : Int) = (k : Int) ∧ now / long = k := ⟨now / long, by simp, rfl⟩
  obtain ⟨j, hj, hj'⟩ : ∃ j : Nat, (t : Int) / (long : Int) = (j : Int) ∧ t / long = j := ⟨t / long, by simp, rfl⟩
  have hkl : k ≤ 1099511627776 := hk' ▸ Nat.le_trans (Nat.div_le_self _ _) h.t2
  have hjl : j ≤ 1099511627776 := hj' ▸ Nat.le_trans (Nat.div_le_self _ _) h2
  have va := h.va
  have HBEG := Lib.hid (show ∀ w2, Mut [V] W w2 → Calls Tryd.prog 35 #[.int .i64 (j : Int), .pointer (some ⟨a, 0, none⟩), .pointer (some ⟨b, 0, none⟩), .pointer (some ⟨c, 0, none⟩)] w2 fun e w' => ∃ S A G, e = .returned (.pointer (some ⟨S, 0, none⟩)) ∧ Below w2.heap.size w2 w' ∧ w2.heap.size ≤ S ∧ w2.heap.size ≤ A ∧ w2.heap.size ≤ G ∧ Sk w' S A G r m (sd seed j) Z 0 from fun w2 hm =>
    begin_any j (h.ba.same (hm.block _ h.ba.lt (by simp; omega))) (h.bb.same (hm.block _ h.bb.lt (by simp; omega))) (h.bc.same (hm.block _ h.bc.lt (by simp; omega))) h.sk.r1 h.sk.r8 h.sk.m1 h.sk.m2 hjl)
  have HE := Lib.hid (show ∀ (w2 W4 : World) (S2 A2 G2 : Nat), Mut [V] W w2 → Blk w2 V #[beginV a b c, .int .i64 (long : Int), .int .i64 (t : Int), .pointer (some ⟨S, 0, none⟩), .pointer (some ⟨S, 0, none⟩)] 76 → Below w2.heap.size w2 W4 → w2.heap.size ≤ S2 → w2.heap.size ≤ A2 → w2.heap.size ≤ G2 → Sk W4 S2 A2 G2 r m (sd seed j) Z 0 → Mut [V] W (W4.setCell ⟨V, 3, none⟩ (.pointer (some ⟨S2, 0, none⟩))) ∧ ∃ S2' A2' G2', (W.heap.size ≤ S2' ∧ W.heap.size ≤ A2' ∧ W.heap.size ≤ G2') ∧ (S2' < (W4.setCell ⟨V, 3, none⟩ (.pointer (some ⟨S2, 0, none⟩))).heap.size ∧ A2' < (W4.setCell ⟨V, 3, none⟩ (.pointer (some ⟨S2, 0, none⟩))).heap.size ∧ G2' < (W4.setCell ⟨V, 3, none⟩ (.pointer (some ⟨S2, 0, none⟩))).heap.size) ∧ Wi (W4.setCell ⟨V, 3, none⟩ (.pointer (some ⟨S2, 0, none⟩))) V a b c S2' A2' G2' r m seed long t (.pointer (some ⟨S, 0, none⟩)) Z f 0 [V, a, b, c, S2', A2', G2', S, A, G] from fun w2 W4 S2 A2 G2 hm hV hb hS hA hG hk2 => by
    have hO : Old w2 [V] [V, a, b, c, S2, A2, G2, S, A, G] r m (sdL seed (t / long)) f (.pointer (some ⟨S, 0, none⟩)) := Or.inr ⟨S, A, G, tot, rfl, by rw [hs, sdL_succ]; exact h.sk.mut hm (by simp; omega) (by simp; omega) (by simp; omega), ⟨by simp; omega, by simp; omega, by simp; omega⟩, by simp, by simp, by simp⟩
    obtain ⟨x1, x2⟩ := h.turned h2 hm hV hb hS hA hG (hj'.symm ▸ hk2) hO
    refine ⟨x1, S2, A2, G2, ⟨Nat.le_trans hm.size hS, Nat.le_trans hm.size hA, Nat.le_trans hm.size hG⟩, ?_, x2⟩
    rw [World.size_setCell]
    exact ⟨hk2.own.lt, hk2.ltA, hk2.ltG⟩)
  have HV := Lib.hid h.own
  have HM := Lib.hid (Mut.refl [V] W)
  have djk : ((j : Int) == (k : Int)) = false := by simp; omega
  have dj1 : ((j : Int) == (k : Int) + 1) = true := by simp; omega
  clear h hk' hj' hs h1 h2 va
  unfold beginV at q0
  go_enter Tryd.func38, Tryd.ntmps38
  go_wp2
  go_region
  go_wp2_with fail
  refine (HBEG.out _ (((((Mut.refl [V] W).setCell (p := ⟨V, 2, none⟩) (by simp) _).setCell (p := ⟨V, 4, none⟩) (by simp) _).setCell (p := ⟨V, 4, none⟩) (by simp) _).drew)).mono ?_
  rintro e w5 ⟨S2, A2, G2, rfl, hb5, g1, g2, g3, hk5⟩
  have HF := HE.out _ _ _ _ _ (((((Mut.refl [V] W).setCell (p := ⟨V, 2, none⟩) (by simp) _).setCell (p := ⟨V, 4, none⟩) (by simp) _).setCell (p := ⟨V, 4, none⟩) (by simp) _).drew) (show Blk _ V _ _ from ((HV.out.set 2 _).set 4 _).set 4 _) hb5 g1 g2 g3 hk5
  have r3 : w5.cell? ⟨V, 3, none⟩ = some (.pointer (some ⟨S, 0, none⟩)) := ((show Blk ((((W.setCell ⟨V, 2, none⟩ (.int .i64 (t : Int))).setCell ⟨V, 4, none⟩ (.pointer none)).setCell ⟨V, 4, none⟩ (.pointer (some ⟨S, 0, none⟩))).drew) V _ _ from ((HV.out.set 2 _).set 4 _).set 4 _).later hb5).cell 3 rfl
  have r3f : w5.frozen? ⟨V, 3, none⟩ = false := ((show Blk ((((W.setCell ⟨V, 2, none⟩ (.int .i64 (t : Int))).setCell ⟨V, 4, none⟩ (.pointer none)).setCell ⟨V, 4, none⟩ (.pointer (some ⟨S, 0, none⟩))).drew) V _ _ from ((HV.out.set 2 _).set 4 _).set 4 _).later hb5).free 3
  have HF2 := Lib.hid HF
  clear HF hb5 g1 g2 g3 hk5
  go_wp2_with fail
  go_ret
  exact ⟨rfl, HF2.out⟩

set_option maxRecDepth 100000 in
set_option maxHeartbeats 1000000 in
theorem turn_far {W : World} {V a b c S A G r m seed long now tot : Nat} {cv : Value} {f g : Nat → Nat → Nat} {bs : List Nat} (h : Wi W V a b c S A G r m seed long now cv f g tot bs) (t : Nat) (h1 : now ≤ t) (h2 : t ≤ 1099511627776) (hs : now / long + 1 < t / long) :
    Calls Tryd.prog 38 #[.pointer (some ⟨V, 0, none⟩), .int .i64 (t : Int)] W fun e w' => e = .returned (.int .u16 0) ∧ Mut [V] W w' ∧ ∃ S2 A2 G2, (W.heap.size ≤ S2 ∧ W.heap.size ≤ A2 ∧ W.heap.size ≤ G2) ∧ (S2 < w'.heap.size ∧ A2 < w'.heap.size ∧ G2 < w'.heap.size) ∧ Wi w' V a b c S2 A2 G2 r m seed long t (.pointer none) Z Z 0 [V, a, b, c, S2, A2, G2, S, A, G] := by
  have q0 := h.own.cell 0 rfl
  have q1 := h.own.cell 1 rfl
  have q2 := h.own.cell 2 rfl
  have q3 := h.own.cell 3 rfl
  have q4 := h.own.cell 4 rfl
  have f2 := h.own.free 2
  have f3 := h.own.free 3
  have f4 := h.own.free 4
  have hl := h.l1
  have hl2 := h.l2
  have d1 : decide (t < now) = false := by simp; omega
  have d2 : decide (1099511627776 < (t : Int)) = false := by simp; omega
  have d3 : ((long : Int) == 0) = false := by simp; omega
  obtain ⟨k, hk, hk'⟩ : ∃ k : Nat, (now : Int) / (long : Int) = (k : Int) ∧ now / long = k := ⟨now / long, by simp, rfl⟩
  obtain ⟨j, hj, hj'⟩ : ∃ j : Nat, (t : Int) / (long : Int) = (j : Int) ∧ t / long = j := ⟨t / long, by simp, rfl⟩
  have hkl : k ≤ 1099511627776 := hk' ▸ Nat.le_trans (Nat.div_le_self _ _) h.t2
  have hjl : j ≤ 1099511627776 := hj' ▸ Nat.le_trans (Nat.div_le_self _ _) h2
  have va := h.va
  have HBEG := Lib.hid (show ∀ w2, Mut [V] W w2 → Calls Tryd.prog 35 #[.int .i64 (j : Int), .pointer (some ⟨a, 0, none⟩), .pointer (some ⟨b, 0, none⟩), .pointer (some ⟨c, 0, none⟩)] w2 fun e w' => ∃ S A G, e = .returned (.pointer (some ⟨S, 0, none⟩)) ∧ Below w2.heap.size w2 w' ∧ w2.heap.size ≤ S ∧ w2.heap.size ≤ A ∧ w2.heap.size ≤ G ∧ Sk w' S A G r m (sd seed j) Z 0 from fun w2 hm =>
    begin_any j (h.ba.same (hm.block _ h.ba.lt (by simp; omega))) (h.bb.same (hm.block _ h.bb.lt (by simp; omega))) (h.bc.same (hm.block _ h.bc.lt (by simp; omega))) h.sk.r1 h.sk.r8 h.sk.m1 h.sk.m2 hjl)
  have HE := Lib.hid (show ∀ (w2 W4 : World) (S2 A2 G2 : Nat), Mut [V] W w2 → Blk w2 V #[beginV a b c, .int .i64 (long : Int), .int .i64 (t : Int), .pointer (some ⟨S, 0, none⟩), .pointer none] 76 → Below w2.heap.size w2 W4 → w2.heap.size ≤ S2 → w2.heap.size ≤ A2 → w2.heap.size ≤ G2 → Sk W4 S2 A2 G2 r m (sd seed j) Z 0 → Mut [V] W (W4.setCell ⟨V, 3, none⟩ (.pointer (some ⟨S2, 0, none⟩))) ∧ ∃ S2' A2' G2', (W.heap.size ≤ S2' ∧ W.heap.size ≤ A2' ∧ W.heap.size ≤ G2') ∧ (S2' < (W4.setCell ⟨V, 3, none⟩ (.pointer (some ⟨S2, 0, none⟩))).heap.size ∧ A2' < (W4.setCell ⟨V, 3, none⟩ (.pointer (some ⟨S2, 0, none⟩))).heap.size ∧ G2' < (W4.setCell ⟨V, 3, none⟩ (.pointer (some ⟨S2, 0, none⟩))).heap.size) ∧ Wi (W4.setCell ⟨V, 3, none⟩ (.pointer (some ⟨S2, 0, none⟩))) V a b c S2' A2' G2' r m seed long t (.pointer none) Z Z 0 [V, a, b, c, S2', A2', G2', S, A, G] from fun w2 W4 S2 A2 G2 hm hV hb hS hA hG hk2 => by
    have hO : Old w2 [V] [V, a, b, c, S2, A2, G2, S, A, G] r m (sdL seed (t / long)) Z (.pointer none) := Or.inl ⟨rfl, rfl⟩
    obtain ⟨x1, x2⟩ := h.turned h2 hm hV hb hS hA hG (hj'.symm ▸ hk2) hO
    refine ⟨x1, S2, A2, G2, ⟨Nat.le_trans hm.size hS, Nat.le_trans hm.size hA, Nat.le_trans hm.size hG⟩, ?_, x2⟩
    rw [World.size_setCell]
    exact ⟨hk2.own.lt, hk2.ltA, hk2.ltG⟩)
  have HV := Lib.hid h.own
  have HM := Lib.hid (Mut.refl [V] W)
  have djk : ((j : Int) == (k : Int)) = false := by simp; omega
  have dj1 : ((j : Int) == (k : Int) + 1) = false := by simp; omega
  clear h hk' hj' hs h1 h2 va
  unfold beginV at q0
  go_enter Tryd.func38, Tryd.ntmps38
  go_wp2
  go_region
  go_wp2_with fail
  refine (HBEG.out _ ((((Mut.refl [V] W).setCell (p := ⟨V, 2, none⟩) (by simp) _).setCell (p := ⟨V, 4, none⟩) (by simp) _).drew)).mono ?_
  rintro e w5 ⟨S2, A2, G2, rfl, hb5, g1, g2, g3, hk5⟩
  have HF := HE.out _ _ _ _ _ ((((Mut.refl [V] W).setCell (p := ⟨V, 2, none⟩) (by simp) _).setCell (p := ⟨V, 4, none⟩) (by simp) _).drew) (show Blk _ V _ _ from (HV.out.set 2 _).set 4 _) hb5 g1 g2 g3 hk5
  have r3 : w5.cell? ⟨V, 3, none⟩ = some (.pointer (some ⟨S, 0, none⟩)) := ((show Blk (((W.setCell ⟨V, 2, none⟩ (.int .i64 (t : Int))).setCell ⟨V, 4, none⟩ (.pointer none)).drew) V _ _ from (HV.out.set 2 _).set 4 _).later hb5).cell 3 rfl
  have r3f : w5.frozen? ⟨V, 3, none⟩ = false := ((show Blk (((W.setCell ⟨V, 2, none⟩ (.int .i64 (t : Int))).setCell ⟨V, 4, none⟩ (.pointer none)).drew) V _ _ from (HV.out.set 2 _).set 4 _).later hb5).free 3
  have HF2 := Lib.hid HF
  clear HF hb5 g1 g2 g3 hk5
  go_wp2_with fail
  go_ret
  exact ⟨rfl, HF2.out⟩
end Go.Proofs.YtkhbodlffhfmnaaDoor
