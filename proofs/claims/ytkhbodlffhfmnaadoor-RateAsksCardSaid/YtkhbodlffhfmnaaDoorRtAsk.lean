/-
  A rate of a law's own is asked: what it tells, and what it has counted then.
-/
import Derived.Deep.CutBlock
import Derived.Deep.DeepCutAuto
import Derived.Deep.RegionHeld
import Derived.Test.YtkhbodlffhfmnaaDoorRtNew
namespace Go.Proofs.YtkhbodlffhfmnaaDoor
open Go.RowKit Go.Proofs.HashMath Go.Proofs.SkMath Go.Proofs.RtMath

set_option maxRecDepth 100000 in
theorem Rt.ask_no {n₀ : Nat} {w W : World} {bs : List Nat} {RT V r m seed long now target : Nat} {f g : Nat → Nat → Nat} (h : Rt n₀ w W bs RT V r m seed long now target f g) (t : Int) (s : ByteArray) (ht : t < now ∨ 1099511627776 < t) :
    Calls Tryd.prog 18 #[.pointer (some ⟨RT, 0, none⟩), .int .i64 t, .string s] W fun e w' => e = .returned (.tuple #[.int .u64 0, .int .u16 60]) ∧ Below W.heap.size W w' := by
  have HC := Lib.hid (h.1.closed_no t s ht)
  have q0 := h.2.1.cell 0 rfl
  clear h ht
  go_enter Tryd.func18, Tryd.ntmps18
  go_wp2_with fail
  refine HC.out.mono ?_
  rintro e w1 ⟨rfl, hb⟩
  have HB := Lib.hid hb
  clear hb q0
  go_wp2_with fail
  go_ret2
  exact ⟨rfl, HB.out⟩

set_option linter.unusedSimpArgs false in
set_option maxRecDepth 100000 in
set_option maxHeartbeats 2000000 in
theorem Rt.ask {n₀ : Nat} {w W : World} {bs : List Nat} {RT V r m seed long now target : Nat} {f g : Nat → Nat → Nat} (h : Rt n₀ w W bs RT V r m seed long now target f g) (t : Nat) (s : ByteArray) (h1 : now ≤ t) (h2 : t ≤ 1099511627776) (hs : s.size ≤ 9223372036854775807) :
    Calls Tryd.prog 18 #[.pointer (some ⟨RT, 0, none⟩), .int .i64 (t : Int), .string s] W fun e w' => e = .returned (.tuple #[.int .u64 (byN target (told (sdL seed (t / long)) s m r (tG long now t f g)) : Int), .int .u16 0]) ∧ ∃ bs', Ext W bs bs' ∧ Mut bs W w' ∧ Rt n₀ w w' bs' RT V r m seed long t target (addW (sd seed (t / long)) s m r 1 (tF long now t f)) (tG long now t f g) := by
  have hC := h.1.closed t s h1 h2 hs
  have q0 := h.2.1.cell 0 rfl
  obtain ⟨x, hx, hxl⟩ : ∃ x, told (sdL seed (t / long)) s m r (tG long now t f g) = x ∧ x < 18446744073709551616 := ⟨_, rfl, told_lt _ _ _ _ _⟩
  rw [hx] at hC ⊢
  obtain ⟨y, hy⟩ : ∃ y, byN target x = y := ⟨_, rfl⟩
  have hBy := fun W => rateBy_any target x W hxl
  rw [hy] at hBy ⊢
  have HC := Lib.hid hC
  have HBY := Lib.hid hBy
  have HR := Lib.hid h
  clear h hx hy hC hBy
  go_enter Tryd.func18, Tryd.ntmps18
  go_wp2_with fail
  refine HC.out.mono ?_
  rintro e w1 ⟨rfl, bs1, hx1, hm1, hw1⟩
  have HR1 := Lib.hid (HR.out.turn hx1 hm1 hw1)
  have HX1 := Lib.hid hx1
  have HM1 := Lib.hid hm1
  clear hx1 hm1 hw1 q0 HR
  go_upto_region 4 with fail
  refine wp_region_held_drew (S := fun W => Blk W RT #[.pointer (some ⟨V, 0, none⟩), .int .u64 (target : Int)] 61) (by kernel_rfl) ?_ (fun hHeld => ?_)
  · exact HR1.out.2.1.later ((Below.refl _ _).drew)
  refine wpAnyH_take (i := 0) (v := ?_) rfl (by kernel_rfl) (by kernel_rfl) (by kernel_rfl) (fun _ _ _ h => h) (Or.inl ⟨by rfl, ?_⟩) (by assumption) ?_
  rotate_left
  · intro wq hSw; (try dsimp only at hSw); go_simp; (try with_reducible rfl)
  simp only [Act.put, List.getElem_toArray, List.getElem_cons_succ, List.getElem_cons_zero, List.setIfInBounds_toArray, List.set_cons_zero, List.set_cons_succ]
  refine wpAnyH_take (i := 1) (v := ?_) rfl (by kernel_rfl) (by kernel_rfl) (by kernel_rfl) (fun _ _ _ h => h) (Or.inl ⟨by rfl, ?_⟩) (by assumption) ?_
  rotate_left
  · intro wq hSw; (try dsimp only at hSw); go_simp; (try with_reducible rfl)
  simp only [Act.put, List.getElem_toArray, List.getElem_cons_succ, List.getElem_cons_zero, List.setIfInBounds_toArray, List.set_cons_zero, List.set_cons_succ]
  refine wpAnyH_take (i := 2) (v := ?_) rfl (by kernel_rfl) (by kernel_rfl) (by kernel_rfl) (fun _ _ _ h => h) (Or.inl ⟨by rfl, ?_⟩) (by assumption) ?_
  rotate_left
  · intro wq hSw; (try dsimp only at hSw); go_simp; (try with_reducible rfl)
  simp only [Act.put, List.getElem_toArray, List.getElem_cons_succ, List.getElem_cons_zero, List.setIfInBounds_toArray, List.set_cons_zero, List.set_cons_succ]
  refine wpAnyH_take (i := 3) (v := ?_) rfl (by kernel_rfl) (by kernel_rfl) (by kernel_rfl) (fun _ _ _ h => h) (Or.inl ⟨by rfl, ?_⟩) (by assumption) ?_
  rotate_left
  · intro wq hSw; (try dsimp only at hSw); have q1 := hSw.cell 1 rfl; go_simp; (try with_reducible rfl)
  simp only [Act.put, List.getElem_toArray, List.getElem_cons_succ, List.getElem_cons_zero, List.setIfInBounds_toArray, List.set_cons_zero, List.set_cons_succ]
  refine wpAnyH_take (i := 4) (v := ?_) rfl (by kernel_rfl) (by kernel_rfl) (by kernel_rfl) (fun _ _ _ h => h) (Or.inl ⟨by rfl, ?_⟩) (by assumption) ?_
  rotate_left
  · intro wq hSw; (try dsimp only at hSw); go_simp; (try with_reducible rfl)
  simp only [Act.put, List.getElem_toArray, List.getElem_cons_succ, List.getElem_cons_zero, List.setIfInBounds_toArray, List.set_cons_zero, List.set_cons_succ]
  refine wpAnyH_take (i := 6) (v := ?_) rfl (by kernel_rfl) (by kernel_rfl) (by kernel_rfl) (fun _ _ _ h => h) (Or.inl ⟨by rfl, ?_⟩) (by assumption) ?_
  rotate_left
  · intro wq hSw; (try dsimp only at hSw); go_simp; (try with_reducible rfl)
  simp only [Act.put, List.getElem_toArray, List.getElem_cons_succ, List.getElem_cons_zero, List.setIfInBounds_toArray, List.set_cons_zero, List.set_cons_succ]
  refine wpAnyH_take (i := 7) (v := ?_) rfl (by kernel_rfl) (by kernel_rfl) (by kernel_rfl) (fun _ _ _ h => h) (Or.inl ⟨by rfl, ?_⟩) (by assumption) ?_
  rotate_left
  · intro wq hSw; (try dsimp only at hSw); go_simp; (try with_reducible rfl)
  simp only [Act.put, List.getElem_toArray, List.getElem_cons_succ, List.getElem_cons_zero, List.setIfInBounds_toArray, List.set_cons_zero, List.set_cons_succ]
  refine wpAnyH_take (i := 8) (v := ?_) rfl (by kernel_rfl) (by kernel_rfl) (by kernel_rfl) (fun _ _ _ h => h) (Or.inl ⟨by rfl, ?_⟩) (by assumption) ?_
  rotate_left
  · intro wq hSw; (try dsimp only at hSw); go_simp; (try with_reducible rfl)
  simp only [Act.put, List.getElem_toArray, List.getElem_cons_succ, List.getElem_cons_zero, List.setIfInBounds_toArray, List.set_cons_zero, List.set_cons_succ]
  refine wpAnyH_take (i := 9) (v := ?_) rfl (by kernel_rfl) (by kernel_rfl) (by kernel_rfl) (fun _ _ _ h => h) (Or.inl ⟨by rfl, ?_⟩) (by assumption) ?_
  rotate_left
  · intro wq hSw; (try dsimp only at hSw); have q0 := hSw.cell 0 rfl; go_simp; (try with_reducible rfl)
  simp only [Act.put, List.getElem_toArray, List.getElem_cons_succ, List.getElem_cons_zero, List.setIfInBounds_toArray, List.set_cons_zero, List.set_cons_succ]
  refine wpAnyH_take (i := 10) (v := ?_) rfl (by kernel_rfl) (by kernel_rfl) (by kernel_rfl) (fun _ _ _ h => h) (Or.inl ⟨by rfl, ?_⟩) (by assumption) ?_
  rotate_left
  · intro wq hSw; (try dsimp only at hSw); go_simp; (try with_reducible rfl)
  simp only [Act.put, List.getElem_toArray, List.getElem_cons_succ, List.getElem_cons_zero, List.setIfInBounds_toArray, List.set_cons_zero, List.set_cons_succ]
  refine wpAnyH_take (i := 11) (v := ?_) rfl (by kernel_rfl) (by kernel_rfl) (by kernel_rfl) (fun _ _ _ h => h) (Or.inl ⟨by rfl, ?_⟩) (by assumption) ?_
  rotate_left
  · intro wq hSw; (try dsimp only at hSw); go_simp; (try with_reducible rfl)
  simp only [Act.put, List.getElem_toArray, List.getElem_cons_succ, List.getElem_cons_zero, List.setIfInBounds_toArray, List.set_cons_zero, List.set_cons_succ]
  refine wpAnyH_ready (rs := [5]) (by kernel_rfl) (by simp) ?_
  refine AllReadyH.cons rfl (fun K hK => ?_) AllReadyH.nil
  go_simp
  refine (HBY.out _).mono ?_
  rintro e wx ⟨rfl, hbx⟩
  (try go_wp2_with fail)
  refine hK.out _ _ ?_ (fun hHeld => ?_)
  · exact hHeld.later hbx
  clear hK K
  try simp only [Act.put, List.getElem_toArray, List.getElem_cons_succ, List.getElem_cons_zero, List.setIfInBounds_toArray, List.set_cons_zero, List.set_cons_succ]
  have HRX := Lib.hid ((HR1.out.later (Below.refl _ _).drew).later hbx)
  have HBX := Lib.hid (undrewn hbx)
  clear hbx
  have hA := HRX.out.1.add t s 1 (Nat.le_refl _) h2 hs (by omega)
  rw [tF_same, tG_same] at hA
  have HA := Lib.hid hA
  clear hA
  refine wpAnyH_ready (rs := [12]) (by kernel_rfl) (by simp) ?_
  refine AllReadyH.cons rfl (fun K hK => ?_) AllReadyH.nil
  go_simp
  refine HA.out.mono ?_
  rintro e wy ⟨rfl, bs2, hx2, hm2, hw2⟩
  (try go_wp2_with fail)
  refine hK.out _ _ ?_ (fun hHeld => ?_)
  · exact (HRX.out.turn hx2 hm2 hw2).2.1
  clear hK K
  try simp only [Act.put, List.getElem_toArray, List.getElem_cons_succ, List.getElem_cons_zero, List.setIfInBounds_toArray, List.set_cons_zero, List.set_cons_succ]
  have HEND := Lib.hid (show ∃ bs', Ext W bs bs' ∧ Mut bs W wy ∧ Rt n₀ w wy bs' RT V r m seed long t target (addW (sd seed (t / long)) s m r 1 (tF long now t f)) (tG long now t f g) from ⟨bs2, HX1.out.trans (Nat.le_trans HM1.out.size HBX.out.size) hx2, (HM1.out.and_below HBX.out).ext HX1.out hm2, HRX.out.turn hx2 hm2 hw2⟩)
  clear hx2 hm2 hw2
  refine wpAnyH_take (i := 13) (v := ?_) rfl (by kernel_rfl) (by kernel_rfl) (by kernel_rfl) (fun _ _ _ h => h) (Or.inl ⟨by rfl, ?_⟩) (by assumption) ?_
  rotate_left
  · intro wq hSw; (try dsimp only at hSw); go_simp; (try with_reducible rfl)
  simp only [Act.put, List.getElem_toArray, List.getElem_cons_succ, List.getElem_cons_zero, List.setIfInBounds_toArray, List.set_cons_zero, List.set_cons_succ]
  refine wpAnyH_take (i := 14) (v := ?_) rfl (by kernel_rfl) (by kernel_rfl) (by kernel_rfl) (fun _ _ _ h => h) (Or.inl ⟨by rfl, ?_⟩) (by assumption) ?_
  rotate_left
  · intro wq hSw; (try dsimp only at hSw); go_simp; (try with_reducible rfl)
  simp only [Act.put, List.getElem_toArray, List.getElem_cons_succ, List.getElem_cons_zero, List.setIfInBounds_toArray, List.set_cons_zero, List.set_cons_succ]
  refine wpAnyH_done (by kernel_rfl) ?_ _
  clear hHeld
  go_wp2_with fail
  go_ret2
  exact ⟨rfl, HEND.out⟩
end Go.Proofs.YtkhbodlffhfmnaaDoor
