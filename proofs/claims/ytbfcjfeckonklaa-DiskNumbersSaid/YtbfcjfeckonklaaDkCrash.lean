/-
  What a file's crash does.
-/
import Derived.Deep.DeepCutAuto
import Derived.Deep.QuietTactic
import Derived.BigQuiet
import Derived.Test.YtbfcjfeckonklaaRegionBut
import Derived.Test.YtbfcjfeckonklaaDkFiles
namespace Go.Proofs.Ytbfcjfeckonklaa
open Go.RowKit Go.Maps Go.Proofs.DiskMath

/-- 'b[:k]'. -/
theorem cut_low (A : Option Addr) (n k cap : Nat) (hk : k ≤ n) (h : n ≤ cap) (W : World) : (Instr.slice 22 (.slice A n cap) none (some (.int .i64 (k : Int))) none).run Try.prog W = .ok (.slice A k cap) W := by
  rw [run_slice_h W 22 A n cap (by kernel_rfl) .i64 (k : Int) (by omega) (by omega)]
  have hz : (sizeOf (Try.prog.elem 22)).run Try.prog W = .ok 1 W := by kernel_rfl
  rw [hz]
  simp only [sliced, Result.andThen, Int.toNat_natCast, Nat.zero_mul, Nat.sub_zero]
  have e : A.map (·.add 0) = A := by cases A <;> simp [Addr.add]
  by_cases h0 : cap = 0
  · rw [if_pos h0]
  · rw [if_neg h0, e]

set_option linter.unusedSimpArgs false in
set_option maxRecDepth 100000 in
set_option maxHeartbeats 1000000 in
theorem fcrash_any {x : Fe} (draw : Nat) (w : World) (h : Fok w x) (hd : draw < 18446744073709551616) (hs : x.f.sure ≤ x.f.bs.length) (hb : x.f.bs.length ≤ 100000) (k q : Nat) (hk : crash1 draw x.f = k) (hq : left1 draw x.f = q) :
    Calls Try.prog 27 #[.pointer (some ⟨x.p, 0, none⟩), .int .u64 (draw : Int)] w fun e w' => ∃ g, e = .returned (.int .u64 (q : Int)) ∧ w.heap.size ≤ g ∧ Fok w' ⟨⟨x.f.no, x.f.bs.take k, k⟩, x.p, .slice (some ⟨g, 0, none⟩) k k⟩ ∧ Mut [x.p] w w' := by
  obtain ⟨A, cap, hv, hnc, hcap, hH⟩ := h.len
  have c0 : w.cell? ⟨x.p, 0, none⟩ = some (.slice A x.f.bs.length cap) := h.blk.cell 0 (by simp [hv])
  have c1 : w.cell? ⟨x.p, 1, none⟩ = some (.int .i64 (x.f.sure : Int)) := h.blk.cell 1 rfl
  have hcr := crash1_le (draw := draw) hs
  obtain ⟨⟨no, bs, su⟩, p, v⟩ := x
  dsimp only at *
  unfold crash1 at hk hcr
  unfold left1 at hq
  dsimp only at hk hq hcr
  obtain ⟨n, hn⟩ : ∃ n, bs.length = n := ⟨_, rfl⟩
  rw [hn] at hk hq hcr c0 hs hb hnc
  obtain ⟨d, hd1, hd2⟩ : ∃ d : Nat, (n : Int) - (su : Int) = (d : Int) ∧ n - su = d := ⟨n - su, by omega, rfl⟩
  rw [hd2] at hk hq hcr
  obtain ⟨en, he1, he2⟩ : ∃ en : Nat, (d : Int) + 1 = (en : Int) ∧ d + 1 = en := ⟨d + 1, by omega, rfl⟩
  rw [he2] at hk hq hcr
  obtain ⟨r, hr⟩ : ∃ r, draw % en = r := ⟨_, rfl⟩
  rw [hr] at hk hcr
  have hen0 : ¬ en = 0 := by omega
  have hrl : r < en := hr ▸ Nat.mod_lt _ (by omega)
  have hr1 : (draw : Int) % (en : Int) = (r : Int) := by rw [← hr]; simp
  have hr2 : (draw : Int).tmod (en : Int) = (r : Int) := by rw [Int.tmod_eq_emod_of_nonneg (by omega)]; exact hr1
  have hq1 : (draw : Int) / (en : Int) = (q : Int) := by rw [← hq]; simp
  have hq2 : (draw : Int).tdiv (en : Int) = (q : Int) := by rw [Int.tdiv_eq_ediv_of_nonneg (by omega)]; exact hq1
  have hk1 : (su : Int) + (r : Int) = (k : Int) := by omega
  have hql : q < 18446744073709551616 := by rw [← hq]; exact Nat.lt_of_le_of_lt (Nat.div_le_self _ _) hd
  have hkn : k ≤ n := by omega
  have hw1 : IntKind.i64.wrap (d : Int) = (d : Int) := by rw [IntKind.wrap_i64]; omega
  have hw2 : IntKind.u64.wrap (d : Int) = (d : Int) := by rw [IntKind.wrap_u64]; omega
  have hw3 : IntKind.u64.wrap (en : Int) = (en : Int) := by rw [IntKind.wrap_u64]; omega
  have hw4 : IntKind.i64.wrap (r : Int) = (r : Int) := by rw [IntKind.wrap_i64]; omega
  have hw5 : IntKind.i64.wrap (k : Int) = (k : Int) := by rw [IntKind.wrap_i64]; omega
  have hw6 : IntKind.u64.wrap (q : Int) = (q : Int) := by rw [IntKind.wrap_u64]; omega
  have hcut := fun W => cut_low A n k cap hkn hnc W
  have HF := Lib.hid h
  have HH := Lib.hid (hH.take k)
  have HKL := Lib.hid (show (bs.take k).length = k by simp; omega)
  have HA := Lib.hid (fun W (hW : Holds8 W.heap.size W A (bs.take k)) => apart_any k cap A (bs.take k) W hW (by simp; omega) (by omega))
  have hen1 : ¬ (en : Int) = 0 := by omega
  clear h hv hH hn hk hq hd2 he2 hr hrl hcr hql hd hs hb
  go_enter Try.func27, Try.ntmps27
  go_wp2_with fail
  go_quiet (fail)
  have c0' : (w.drewN nq).cell? ⟨p, 0, none⟩ = some (.slice A n cap) := c0
  have c1' : (w.drewN nq).cell? ⟨p, 1, none⟩ = some (.int .i64 (su : Int)) := c1
  have HH2 : Hid (Holds8 (w.drewN nq).heap.size (w.drewN nq) A (bs.take k)) := HH
  have HF2 : Hid (Fok (w.drewN nq) ⟨⟨no, bs, su⟩, p, v⟩) := Lib.hid (HF.out.mut (bs := []) (W' := w.drewN nq) ⟨rfl, rfl, rfl, Nat.le_refl _, fun _ _ _ => rfl⟩ (by simp))
  have HM2 : Hid (Mut [p] w (w.drewN nq) ∧ w.heap.size = (w.drewN nq).heap.size) := Lib.hid ⟨⟨rfl, rfl, rfl, Nat.le_refl _, fun _ _ _ => rfl⟩, rfl⟩
  clear c0 c1 HH HF
  generalize w.drewN nq = W2 at c0' c1' HH2 HF2 HM2 ⊢
  go_wp2_with fail
  have z1 : W2.drew.cell? ⟨p, 0, none⟩ = some (.slice A n cap) := c0'
  have z2 : W2.drew.cell? ⟨p, 1, none⟩ = some (.int .i64 (su : Int)) := c1'
  have HA2 := Lib.hid (HA.out W2.drew HH2.out)
  have HE := Lib.hid (show ∀ g W3, W2.drew.heap.size ≤ g → W3.ownsRow g 5 1 (.slice (some ⟨g, 0, none⟩) k k) k ((bs.take k).map b8) → Below W2.drew.heap.size W2.drew W3 → W3.cell? ⟨p, 0, none⟩ = some (.slice A n cap) ∧ W3.cell? ⟨p, 1, none⟩ = some (.int .i64 (su : Int)) ∧ W3.frozen? ⟨p, 0, none⟩ = false ∧ Fok (W3.setCell ⟨p, 0, none⟩ (.slice (some ⟨g, 0, none⟩) k k)) ⟨⟨no, bs.take k, su⟩, p, .slice (some ⟨g, 0, none⟩) k k⟩ ∧ Mut [p] w (W3.setCell ⟨p, 0, none⟩ (.slice (some ⟨g, 0, none⟩) k k)) ∧ w.heap.size ≤ g from fun g W3 hg ho hbl => by
    have hbl2 : Below W2.heap.size W2 W3 := undrewn hbl
    have hg2 : W2.heap.size ≤ g := hg
    have hf := HF2.out
    have hb3 := hf.blk.later hbl2
    have hpl := hf.blk.lt
    dsimp only at hb3 hpl
    refine ⟨(hbl2.cell (p := ⟨p, 0, none⟩) hpl).trans c0', (hbl2.cell (p := ⟨p, 1, none⟩) hpl).trans c1', hb3.free 0, ⟨hb3.set 0 _, row_same (by simpa [HKL.out] using row_base ho) fun g' hg' => ?_⟩, ((HM2.out.1.trans (Mut.of_below hbl2)).setCell (by simp) _), by rw [HM2.out.2]; exact hg2⟩
    simp [Value.ownBlock] at hg'
    subst hg'
    exact Below.heap_setCell _ _ _ _ (by simp; omega))
  clear HA HH2 HF2 HM2 c0' c1'
  refine RegionBut.region_but 18 (S := fun W => W.cell? ⟨p, 0, none⟩ = some (.slice A n cap) ∧ W.cell? ⟨p, 1, none⟩ = some (.int .i64 (su : Int))) (by kernel_rfl) ?_ (fun hHeld => ?_)
  · exact ⟨z1, z2⟩
  refine RegionBut.but_take (i := 0) (v := ?_) rfl (by kernel_rfl) (by kernel_rfl) (by kernel_rfl) (by kernel_rfl) (fun _ _ _ h => h) (Or.inl ⟨by rfl, ?_⟩) (by assumption) ?_
  rotate_left
  · intro wq hSw; (try dsimp only at hSw); go_simp; (try with_reducible rfl)
  simp only [Act.put, List.getElem_toArray, List.getElem_cons_succ, List.getElem_cons_zero, List.setIfInBounds_toArray, List.set_cons_zero, List.set_cons_succ]
  refine RegionBut.but_take (i := 1) (v := ?_) rfl (by kernel_rfl) (by kernel_rfl) (by kernel_rfl) (by kernel_rfl) (fun _ _ _ h => h) (Or.inl ⟨by rfl, ?_⟩) (by assumption) ?_
  rotate_left
  · intro wq hSw; (try dsimp only at hSw); go_simp; (try with_reducible rfl)
  simp only [Act.put, List.getElem_toArray, List.getElem_cons_succ, List.getElem_cons_zero, List.setIfInBounds_toArray, List.set_cons_zero, List.set_cons_succ]
  refine RegionBut.but_take (i := 2) (v := ?_) rfl (by kernel_rfl) (by kernel_rfl) (by kernel_rfl) (by kernel_rfl) (fun _ _ _ h => h) (Or.inl ⟨by rfl, ?_⟩) (by assumption) ?_
  rotate_left
  · intro wq hSw; (try dsimp only at hSw); go_simp; (try with_reducible rfl)
  simp only [Act.put, List.getElem_toArray, List.getElem_cons_succ, List.getElem_cons_zero, List.setIfInBounds_toArray, List.set_cons_zero, List.set_cons_succ]
  refine RegionBut.but_take (i := 3) (v := ?_) rfl (by kernel_rfl) (by kernel_rfl) (by kernel_rfl) (by kernel_rfl) (fun _ _ _ h => h) (Or.inl ⟨by rfl, ?_⟩) (by assumption) ?_
  rotate_left
  · intro wq hSw; (try dsimp only at hSw); go_simp; (try with_reducible rfl)
  simp only [Act.put, List.getElem_toArray, List.getElem_cons_succ, List.getElem_cons_zero, List.setIfInBounds_toArray, List.set_cons_zero, List.set_cons_succ]
  refine RegionBut.but_take (i := 4) (v := ?_) rfl (by kernel_rfl) (by kernel_rfl) (by kernel_rfl) (by kernel_rfl) (fun _ _ _ h => h) (Or.inl ⟨by rfl, ?_⟩) (by assumption) ?_
  rotate_left
  · intro wq hSw; (try dsimp only at hSw); have hq := hSw.1; go_simp; (try with_reducible rfl)
  simp only [Act.put, List.getElem_toArray, List.getElem_cons_succ, List.getElem_cons_zero, List.setIfInBounds_toArray, List.set_cons_zero, List.set_cons_succ]
  refine RegionBut.but_take (i := 5) (v := ?_) rfl (by kernel_rfl) (by kernel_rfl) (by kernel_rfl) (by kernel_rfl) (fun _ _ _ h => h) (Or.inl ⟨by rfl, ?_⟩) (by assumption) ?_
  rotate_left
  · intro wq hSw; (try dsimp only at hSw); go_simp; (try with_reducible rfl)
  simp only [Act.put, List.getElem_toArray, List.getElem_cons_succ, List.getElem_cons_zero, List.setIfInBounds_toArray, List.set_cons_zero, List.set_cons_succ]
  refine RegionBut.but_take (i := 6) (v := ?_) rfl (by kernel_rfl) (by kernel_rfl) (by kernel_rfl) (by kernel_rfl) (fun _ _ _ h => h) (Or.inl ⟨by rfl, ?_⟩) (by assumption) ?_
  rotate_left
  · intro wq hSw; (try dsimp only at hSw); go_simp; (try with_reducible rfl)
  simp only [Act.put, List.getElem_toArray, List.getElem_cons_succ, List.getElem_cons_zero, List.setIfInBounds_toArray, List.set_cons_zero, List.set_cons_succ]
  refine RegionBut.but_take (i := 7) (v := ?_) rfl (by kernel_rfl) (by kernel_rfl) (by kernel_rfl) (by kernel_rfl) (fun _ _ _ h => h) (Or.inl ⟨by rfl, ?_⟩) (by assumption) ?_
  rotate_left
  · intro wq hSw; (try dsimp only at hSw); go_simp; (try with_reducible rfl)
  simp only [Act.put, List.getElem_toArray, List.getElem_cons_succ, List.getElem_cons_zero, List.setIfInBounds_toArray, List.set_cons_zero, List.set_cons_succ]
  refine RegionBut.but_take (i := 8) (v := ?_) rfl (by kernel_rfl) (by kernel_rfl) (by kernel_rfl) (by kernel_rfl) (fun _ _ _ h => h) (Or.inl ⟨by rfl, ?_⟩) (by assumption) ?_
  rotate_left
  · intro wq hSw; (try dsimp only at hSw); have hq := hSw.2; go_simp; (try with_reducible rfl)
  simp only [Act.put, List.getElem_toArray, List.getElem_cons_succ, List.getElem_cons_zero, List.setIfInBounds_toArray, List.set_cons_zero, List.set_cons_succ]
  refine RegionBut.but_take (i := 9) (v := ?_) rfl (by kernel_rfl) (by kernel_rfl) (by kernel_rfl) (by kernel_rfl) (fun _ _ _ h => h) (Or.inl ⟨by rfl, ?_⟩) (by assumption) ?_
  rotate_left
  · intro wq hSw; (try dsimp only at hSw); go_simp; (try with_reducible rfl)
  simp only [Act.put, List.getElem_toArray, List.getElem_cons_succ, List.getElem_cons_zero, List.setIfInBounds_toArray, List.set_cons_zero, List.set_cons_succ]
  refine RegionBut.but_take (i := 10) (v := ?_) rfl (by kernel_rfl) (by kernel_rfl) (by kernel_rfl) (by kernel_rfl) (fun _ _ _ h => h) (Or.inl ⟨by rfl, ?_⟩) (by assumption) ?_
  rotate_left
  · intro wq hSw; (try dsimp only at hSw); go_simp; (try with_reducible rfl)
  simp only [Act.put, List.getElem_toArray, List.getElem_cons_succ, List.getElem_cons_zero, List.setIfInBounds_toArray, List.set_cons_zero, List.set_cons_succ]
  refine RegionBut.but_take (i := 11) (v := ?_) rfl (by kernel_rfl) (by kernel_rfl) (by kernel_rfl) (by kernel_rfl) (fun _ _ _ h => h) (Or.inl ⟨by rfl, ?_⟩) (by assumption) ?_
  rotate_left
  · intro wq hSw; (try dsimp only at hSw); go_simp; (try with_reducible rfl)
  simp only [Act.put, List.getElem_toArray, List.getElem_cons_succ, List.getElem_cons_zero, List.setIfInBounds_toArray, List.set_cons_zero, List.set_cons_succ]
  refine RegionBut.but_take (i := 12) (v := ?_) rfl (by kernel_rfl) (by kernel_rfl) (by kernel_rfl) (by kernel_rfl) (fun _ _ _ h => h) (Or.inl ⟨by rfl, ?_⟩) (by assumption) ?_
  rotate_left
  · intro wq hSw; (try dsimp only at hSw); go_simp; (try with_reducible rfl)
  simp only [Act.put, List.getElem_toArray, List.getElem_cons_succ, List.getElem_cons_zero, List.setIfInBounds_toArray, List.set_cons_zero, List.set_cons_succ]
  refine RegionBut.but_take (i := 13) (v := ?_) rfl (by kernel_rfl) (by kernel_rfl) (by kernel_rfl) (by kernel_rfl) (fun _ _ _ h => h) (Or.inl ⟨by rfl, ?_⟩) (by assumption) ?_
  rotate_left
  · intro wq hSw; (try dsimp only at hSw); go_simp; (try with_reducible rfl)
  simp only [Act.put, List.getElem_toArray, List.getElem_cons_succ, List.getElem_cons_zero, List.setIfInBounds_toArray, List.set_cons_zero, List.set_cons_succ]
  refine RegionBut.but_take (i := 14) (v := ?_) rfl (by kernel_rfl) (by kernel_rfl) (by kernel_rfl) (by kernel_rfl) (fun _ _ _ h => h) (Or.inl ⟨by rfl, ?_⟩) (by assumption) ?_
  rotate_left
  · intro wq hSw; (try dsimp only at hSw); have hq3 := hcut wq; go_simp; (try with_reducible rfl)
  simp only [Act.put, List.getElem_toArray, List.getElem_cons_succ, List.getElem_cons_zero, List.setIfInBounds_toArray, List.set_cons_zero, List.set_cons_succ]
  refine RegionBut.but_ready (rs := [15]) (by kernel_rfl) (by simp) ?_
  refine RegionBut.Nexts.cons rfl (fun K hK => ?_) RegionBut.Nexts.nil
  go_simp
  refine HA2.out.mono ?_
  rintro e W3 ⟨g, rfl, hg, ho, hbl⟩
  obtain ⟨y1, y2, y3, y4⟩ := HE.out g W3 hg ho hbl
  have HY := Lib.hid y4
  clear hg ho hbl y4 HE HA2
  (try go_wp2_with fail)
  refine hK.out _ _ ?_ (fun hHeld => ?_)
  · exact ⟨y1, y2⟩
  clear hK K
  try simp only [Act.put, List.getElem_toArray, List.getElem_cons_succ, List.getElem_cons_zero, List.setIfInBounds_toArray, List.set_cons_zero, List.set_cons_succ]
  refine RegionBut.but_ready (rs := [16]) (by kernel_rfl) (by simp) ?_
  refine RegionBut.Nexts.cons rfl (fun K hK => ?_) RegionBut.Nexts.nil
  go_simp
  (try go_wp2_with fail)
  refine hK.out _ _ ?_ (fun hHeld => ?_)
  · exact ⟨y1, y2⟩
  clear hK K
  try simp only [Act.put, List.getElem_toArray, List.getElem_cons_succ, List.getElem_cons_zero, List.setIfInBounds_toArray, List.set_cons_zero, List.set_cons_succ]
  refine RegionBut.but_take (i := 17) (v := ?_) rfl (by kernel_rfl) (by kernel_rfl) (by kernel_rfl) (by kernel_rfl) (fun _ _ _ h => h) (Or.inl ⟨by rfl, ?_⟩) (by assumption) ?_
  rotate_left
  · intro wq hSw; (try dsimp only at hSw); go_simp; (try with_reducible rfl)
  simp only [Act.put, List.getElem_toArray, List.getElem_cons_succ, List.getElem_cons_zero, List.setIfInBounds_toArray, List.set_cons_zero, List.set_cons_succ]
  refine RegionBut.but_ready (rs := [18]) (by kernel_rfl) (by simp) ?_
  refine RegionBut.Nexts.last rfl (fun K hK => ?_)
  have yq := y1
  go_simp
  (try go_wp2_with fail)
  refine hK.out _ _ trivial (fun _ => ?_)
  clear hK K
  try simp only [Act.put, List.getElem_toArray, List.getElem_cons_succ, List.getElem_cons_zero, List.setIfInBounds_toArray, List.set_cons_zero, List.set_cons_succ]
  refine RegionBut.but_done (by kernel_rfl) ?_ _
  clear hHeld
  have HS := Lib.hid (fsync_any _ HY.out.1)
  clear yq y1 y2 y3 z1 z2 hHeld
  have HZ := Lib.hid HY.out.2
  clear HY
  generalize W3.setCell ⟨p, 0, none⟩ (.slice (some ⟨g, 0, none⟩) k k) = W4 at HS HZ ⊢
  go_wp2_with fail
  refine HS.out.mono ?_
  rintro e W5 ⟨rfl, hf5, hm5⟩
  have HV := Lib.hid (show w.heap.size ≤ g ∧ Fok W5 ⟨⟨no, bs.take k, k⟩, p, .slice (some ⟨g, 0, none⟩) k k⟩ ∧ Mut [p] w W5 from ⟨HZ.out.2, by simpa only [HKL.out] using hf5, HZ.out.1.trans hm5⟩)
  clear hf5 hm5 HZ HS
  go_wp2_with fail
  go_ret
  exact ⟨g, rfl, HV.out⟩
end Go.Proofs.Ytbfcjfeckonklaa
