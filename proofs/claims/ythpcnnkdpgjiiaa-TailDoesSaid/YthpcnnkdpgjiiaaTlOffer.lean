/-
  What Offer does, whatever is told; what Decide does.
-/
import Derived.Test.YthpcnnkdpgjiiaaTlPutW
import Derived.Test.YthpcnnkdpgjiiaaTlTell
namespace Go.Proofs.Ythpcnnkdpgjiiaa
open Go.RowKit Go.Maps Go.Proofs.HeapMath Go.Proofs.TailMath

/-- What a buffer makes of an offer: what it is then, what is told. -/
def offer (b : St) (now : Int) (s : Sp) : St × Nat × Nat :=
  if okT b now = true then
    match askK s.hi s.lo b.K with
    | some k => (at_ b now.toNat, k.ay, 0)
    | none => if tot b.L = b.sp then (at_ b now.toNat, 2, 0) else (offered (at_ b now.toNat) s, 1, 0)
  else (b, 0, 60)
theorem TbTo.after {w w6 w' : World} {bs : List Nat} {S : Nat} {b : St} (hm : Mut bs w w6) (h : TbTo w6 bs S b w') : TbTo w bs S b w' := by
  obtain ⟨bs', h1, h2, h3⟩ := h
  exact ⟨bs', h1, hm.trans h2, fun k hk => (h3 k hk).imp id fun h => Nat.le_trans hm.size h⟩
theorem TbTo.same {w w' : World} {bs : List Nat} {S : Nat} {b : St} (hm : Mut bs w w') (h : Tb w' bs S b) : TbTo w bs S b w' := ⟨bs, h, hm, Ext.refl _ _⟩
theorem Tb.S_mem {W : World} {bs : List Nat} {S : Nat} {b : St} (h : Tb W bs S b) : S ∈ bs := by
  obtain ⟨T, N, M, H, v, hbs, G, _, _, rfl⟩ := h
  simp [core]
theorem treach_no {bs : List Nat} {S : Nat} {b : St} {now : Int} (w : World) (h : Tb w bs S b) (ht : okT b now = false) : Calls Try.prog 26 #[.pointer (some ⟨S, 0, none⟩), .int .i64 now] w fun e w' => e = .returned (.int .u16 60) ∧ w = w' := by
  obtain ⟨T, N, M, H, v, hbs, G, h1, _, _⟩ := h
  exact reach_no w h1 ht
theorem treach_ok {bs : List Nat} {S : Nat} {b : St} (t : Nat) (w : World) (h : Tb w bs S b) (h1 : b.time ≤ t) (h2 : t ≤ 1099511627776) : Calls Try.prog 26 #[.pointer (some ⟨S, 0, none⟩), .int .i64 (t : Int)] w fun e w' => e = .returned (.int .u16 0) ∧ Tb w' bs S (at_ b t) ∧ Mut [S] w w' := by
  obtain ⟨T, N, M, H, v, hbs, G, k1, k2, rfl⟩ := h
  exact (reach_ok t w k1 h1 h2).mono fun e w' ⟨x, y, z⟩ => ⟨x, ⟨T, N, M, H, v, hbs, G, y, k2.at_ h1 h2, rfl⟩, z⟩

set_option linter.unusedSimpArgs false in
set_option maxRecDepth 100000 in
set_option maxHeartbeats 2000000 in
theorem toffer_no {bs : List Nat} {S : Nat} {b : St} {now : Int} (s : Sp) (w : World) (h : Tb w bs S b) (ht : okT b now = false) :
    Calls Try.prog 12 #[.pointer (some ⟨S, 0, none⟩), .int .i64 now, spV s] w fun e w' => e = .returned (.tuple #[.int .u8 0, .int .u16 60]) ∧ TbTo w bs S b w' := by
  have hB : Below w.heap.size w (w.alloc (.cells (spA s) 35)) := box_below _
  have hr := treach_no (now := now) _ (h.later hB) ht
  have ho := TbTo.same (Mut.of_below hB) (h.later hB)
  obtain ⟨w1, hw1⟩ : ∃ w1, w.alloc (.cells (spA s) 35) = w1 := ⟨_, rfl⟩
  rw [hw1] at hr ho
  have HR := Lib.hid hr
  have HO := Lib.hid ho
  clear h ht hB hr ho
  unfold spA at hw1
  unfold spV
  go_enter Try.func12, Try.ntmps12
  go_wp2_with fail
  refine HR.out.mono ?_
  rintro e w' ⟨rfl, rfl⟩
  go_wp2_with fail
  go_ret2
  exact ⟨rfl, HO.out⟩

set_option linter.unusedSimpArgs false in
set_option maxRecDepth 100000 in
set_option maxHeartbeats 2000000 in
theorem toffer_ok {bs : List Nat} {S : Nat} {b : St} (t : Nat) (s : Sp) (w : World) (h : Tb w bs S b) (h1 : b.time ≤ t) (h2 : t ≤ 1099511627776) (hu1 : u64 s.hi) (hu2 : u64 s.lo) (hcame : b.came ≤ 1000000000) :
    Calls Try.prog 12 #[.pointer (some ⟨S, 0, none⟩), .int .i64 (t : Int), spV s] w fun e w' => e = .returned (.tuple #[.int .u8 ((offer b (t : Int) s).2.1 : Int), .int .u16 ((offer b (t : Int) s).2.2 : Int)]) ∧ TbTo w bs S (offer b (t : Int) s).1 w' := by
  have hok : okT b (t : Int) = true := by simp [okT]; omega
  obtain ⟨n0, hn0⟩ : ∃ n0, w.heap.size = n0 := ⟨_, rfl⟩
  have hB : Below w.heap.size w (w.alloc (.cells (spA s) 35)) := box_below _
  have hb1 := blk_new w (spA s) 35
  have hsz1 : (w.alloc (.cells (spA s) 35)).heap.size = n0 + 1 := by rw [World.size_alloc, hn0]
  have hr := treach_ok t _ (h.later hB) h1 h2
  have hlt := h.lt
  obtain ⟨w1, hw1⟩ : ∃ w1, w.alloc (.cells (spA s) 35) = w1 := ⟨_, rfl⟩
  rw [hw1] at hr hB hb1 hsz1
  rw [hn0] at hb1 hlt
  have HR := Lib.hid hr
  have H1 := Lib.hid (show Mut bs w w1 ∧ Blk w1 n0 (spA s) 35 ∧ (∀ k ∈ bs, k < n0) ∧ S ∈ bs ∧ b.came ≤ 1000000000 ∧ w1.heap.size = n0 + 1 from ⟨Mut.of_below hB, hb1, hlt, h.S_mem, hcame, hsz1⟩)
  have HT := Lib.hid (traceOf_any s)
  have HU := Lib.hid (show u64 s.hi ∧ u64 s.lo from ⟨hu1, hu2⟩)
  have HOK := Lib.hid hok
  obtain ⟨fo, hfo⟩ : ∃ f, offer b (t : Int) s = f := ⟨_, rfl⟩
  have HFO := Lib.hid hfo
  rw [hfo]
  have hcells : ∀ W, Blk W n0 (spA s) 35 → W.cell? ⟨n0, 0, none⟩ = some (.int .u64 (s.hi : Int)) ∧ W.cell? ⟨n0, 1, none⟩ = some (.int .u64 (s.lo : Int)) ∧ W.cell? ⟨n0, 2, none⟩ = some (.int .u64 (s.id : Int)) ∧ W.cell? ⟨n0, 3, none⟩ = some (.int .u64 (s.parent : Int)) ∧ W.cell? ⟨n0, 4, none⟩ = some (.string s.name) ∧ W.cell? ⟨n0, 5, none⟩ = some (.int .i64 s.start) ∧ W.cell? ⟨n0, 6, none⟩ = some (.int .i64 s.stop) ∧ W.cell? ⟨n0, 7, none⟩ = some (.bool s.bad) ∧ W.cell? ⟨n0, 8, none⟩ = some (.slice none 0 0) ∧ W.cell? ⟨n0, 9, none⟩ = some (.int .u64 (s.rv : Int)) := fun W hW => ⟨hW.cell 0 rfl, hW.cell 1 rfl, hW.cell 2 rfl, hW.cell 3 rfl, hW.cell 4 rfl, hW.cell 5 rfl, hW.cell 6 rfl, hW.cell 7 rfl, hW.cell 8 rfl, hW.cell 9 rfl⟩
  have HCE := Lib.hid hcells
  clear hcells h h1 h2 hu1 hu2 hcame hok hB hb1 hsz1 hr hlt hfo
  unfold spA at hw1
  unfold spV at *
  go_enter Try.func12, Try.ntmps12
  go_wp2_with fail
  clear hw1
  refine HR.out.mono ?_
  rintro e w2 ⟨rfl, htb, hm2⟩
  obtain ⟨n2, hn2⟩ : ∃ n2, w2.heap.size = n2 := ⟨_, rfl⟩
  have hm12 : Mut bs w w2 := H1.out.1.trans (hm2.wider (by simpa using H1.out.2.2.2.1))
  have hbx2 : Blk w2 n0 (spA s) 35 := H1.out.2.1.mut hm2 (by have := H1.out.2.2.1 S H1.out.2.2.2.1; simp; omega)
  obtain ⟨r, hr⟩ : ∃ r, (askK s.hi s.lo b.K).isSome = r := ⟨_, rfl⟩
  obtain ⟨a0, ha0⟩ : ∃ a, ((askK s.hi s.lo b.K).map (·.ay)).getD 0 = a := ⟨_, rfl⟩
  have hfact : ∃ T, ∀ W, Below n2 w2 W → W.cell? ⟨S, 1, none⟩ = some (.map (some T)) ∧ Blk W n0 (spA s) 35 ∧ (Instr.lookup 68 (.map (some T)) (.agg #[.int .u64 (s.hi : Int), .int .u64 (s.lo : Int)]) true).run Try.prog W = .ok (.tuple #[.int .u8 (a0 : Int), .bool r]) W ∧ W.cell? ⟨S, 8, none⟩ = some (.int .i64 (b.sp : Int)) ∧ W.cell? ⟨S, 9, none⟩ = some (.int .i64 (b.wait : Int)) ∧ Tb W bs S (at_ b t) := by
    have htb2 := htb
    obtain ⟨T, N, M, H, v, hbs, G, k1, k2, k3⟩ := htb
    refine ⟨T, fun W hW => ?_⟩
    have k1' := k1.later (hn2 ▸ hW)
    have hl := told_look k1'.told k2.K HU.out.1 HU.out.2 0
    have hl2 : (Instr.lookup 68 (.map (some T)) (.agg #[.int .u64 (s.hi : Int), .int .u64 (s.lo : Int)]) true).run Try.prog W = .ok (.tuple #[.int .u8 (((askK s.hi s.lo b.K).map (·.ay)).getD 0 : Nat), .bool (askK s.hi s.lo b.K).isSome]) W := hl
    rw [hr, ha0] at hl2
    exact ⟨k1'.blk.cell 1 rfl, hbx2.later (hn2 ▸ hW), hl2, k1'.blk.cell 8 rfl, k1'.blk.cell 9 rfl, htb2.later (hn2 ▸ hW)⟩
  obtain ⟨T, hfact⟩ := hfact
  have HF := Lib.hid hfact
  have HM := Lib.hid (show Mut bs w w2 ∧ w2.heap.size = n2 ∧ Iv (at_ b t) from ⟨hm12, hn2, htb.iv⟩)
  have HRR := Lib.hid (show (askK s.hi s.lo b.K).isSome = r ∧ ((askK s.hi s.lo b.K).map (·.ay)).getD 0 = a0 from ⟨hr, ha0⟩)
  have hBd : Below n2 w2 w2.drew := Mut.below (Mut.refl [] _).drew (by rw [hn2]; exact Nat.le_refl _) (by simp)
  clear htb hm2 hm12 hbx2 hfact hr ha0 HR hn2
  go_wp2_with fail
  refine wp_region_held_drew (S := fun W => Below n2 w2 W) (by kernel_rfl) ?_ (fun hHeld => ?_)
  · exact hBd
  refine wpAnyH_take (i := 0) (v := ?_) rfl (by kernel_rfl) (by kernel_rfl) (by kernel_rfl) (fun _ _ _ h => h) (Or.inl ⟨by rfl, ?_⟩) (by assumption) ?_
  rotate_left
  · intro wq hSw; (try dsimp only at hSw); go_simp; (try with_reducible rfl)
  simp only [Act.put, List.getElem_toArray, List.getElem_cons_succ, List.getElem_cons_zero, List.setIfInBounds_toArray, List.set_cons_zero, List.set_cons_succ]
  refine wpAnyH_take (i := 1) (v := ?_) rfl (by kernel_rfl) (by kernel_rfl) (by kernel_rfl) (fun _ _ _ h => h) (Or.inl ⟨by rfl, ?_⟩) (by assumption) ?_
  rotate_left
  · intro wq hSw; (try dsimp only at hSw); go_simp; (try with_reducible rfl)
  simp only [Act.put, List.getElem_toArray, List.getElem_cons_succ, List.getElem_cons_zero, List.setIfInBounds_toArray, List.set_cons_zero, List.set_cons_succ]
  refine wpAnyH_take (i := 2) (v := ?_) rfl (by kernel_rfl) (by kernel_rfl) (by kernel_rfl) (fun _ _ _ h => h) (Or.inl ⟨by rfl, ?_⟩) (by assumption) ?_
  rotate_left
  · intro wq hSw; (try dsimp only at hSw); go_simp; (try with_reducible rfl)
  simp only [Act.put, List.getElem_toArray, List.getElem_cons_succ, List.getElem_cons_zero, List.setIfInBounds_toArray, List.set_cons_zero, List.set_cons_succ]
  refine wpAnyH_take (i := 3) (v := ?_) rfl (by kernel_rfl) (by kernel_rfl) (by kernel_rfl) (fun _ _ _ h => h) (Or.inl ⟨by rfl, ?_⟩) (by assumption) ?_
  rotate_left
  · intro wq hSw; (try dsimp only at hSw); go_simp; (try with_reducible rfl)
  simp only [Act.put, List.getElem_toArray, List.getElem_cons_succ, List.getElem_cons_zero, List.setIfInBounds_toArray, List.set_cons_zero, List.set_cons_succ]
  refine wpAnyH_take (i := 4) (v := ?_) rfl (by kernel_rfl) (by kernel_rfl) (by kernel_rfl) (fun _ _ _ h => h) (Or.inl ⟨by rfl, ?_⟩) (by assumption) ?_
  rotate_left
  · intro wq hSw; (try dsimp only at hSw); have q0 := (HF.out _ hSw).1; go_simp; (try with_reducible rfl)
  simp only [Act.put, List.getElem_toArray, List.getElem_cons_succ, List.getElem_cons_zero, List.setIfInBounds_toArray, List.set_cons_zero, List.set_cons_succ]
  refine wpAnyH_take (i := 5) (v := ?_) rfl (by kernel_rfl) (by kernel_rfl) (by kernel_rfl) (fun _ _ _ h => h) (Or.inl ⟨by rfl, ?_⟩) (by assumption) ?_
  rotate_left
  · intro wq hSw; (try dsimp only at hSw); obtain ⟨q0, q1, q2, q3, q4, q5, q6, q7, q8, q9⟩ := HCE.out _ (HF.out _ hSw).2.1; go_simp; (try with_reducible rfl)
  simp only [Act.put, List.getElem_toArray, List.getElem_cons_succ, List.getElem_cons_zero, List.setIfInBounds_toArray, List.set_cons_zero, List.set_cons_succ]
  refine wpAnyH_ready (rs := [6]) (by kernel_rfl) (by simp) ?_
  refine AllReadyH.cons rfl (fun K hK => ?_) AllReadyH.nil
  go_simp
  refine (HT.out _).mono ?_
  rintro e w5 ⟨rfl, hb5'⟩
  have hb5 : Below n2 w2 w5 := hHeld.trans (hb5'.mono (Nat.le_trans (by rw [HM.out.2.1]; exact Nat.le_refl _) hHeld.size))
  (try go_wp2_with fail)
  refine hK.out _ _ ?_ (fun hHeld => ?_)
  · exact hb5
  clear hK K
  try simp only [Act.put, List.getElem_toArray, List.getElem_cons_succ, List.getElem_cons_zero, List.setIfInBounds_toArray, List.set_cons_zero, List.set_cons_succ]
  refine wpAnyH_take (i := 7) (v := ?_) rfl (by kernel_rfl) (by kernel_rfl) (by kernel_rfl) (fun _ _ _ h => h) (Or.inl ⟨by rfl, ?_⟩) (by assumption) ?_
  rotate_left
  · intro wq hSw; (try dsimp only at hSw); have q0 := (HF.out _ hSw).2.2.1; go_simp; (try with_reducible rfl)
  simp only [Act.put, List.getElem_toArray, List.getElem_cons_succ, List.getElem_cons_zero, List.setIfInBounds_toArray, List.set_cons_zero, List.set_cons_succ]
  refine wpAnyH_take (i := 8) (v := ?_) rfl (by kernel_rfl) (by kernel_rfl) (by kernel_rfl) (fun _ _ _ h => h) (Or.inl ⟨by rfl, ?_⟩) (by assumption) ?_
  rotate_left
  · intro wq hSw; (try dsimp only at hSw); go_simp; (try with_reducible rfl)
  simp only [Act.put, List.getElem_toArray, List.getElem_cons_succ, List.getElem_cons_zero, List.setIfInBounds_toArray, List.set_cons_zero, List.set_cons_succ]
  refine wpAnyH_take (i := 9) (v := ?_) rfl (by kernel_rfl) (by kernel_rfl) (by kernel_rfl) (fun _ _ _ h => h) (Or.inl ⟨by rfl, ?_⟩) (by assumption) ?_
  rotate_left
  · intro wq hSw; (try dsimp only at hSw); go_simp; (try with_reducible rfl)
  simp only [Act.put, List.getElem_toArray, List.getElem_cons_succ, List.getElem_cons_zero, List.setIfInBounds_toArray, List.set_cons_zero, List.set_cons_succ]
  refine wpAnyH_take (i := 10) (v := ?_) rfl (by kernel_rfl) (by kernel_rfl) (by kernel_rfl) (fun _ _ _ h => h) (Or.inl ⟨by rfl, ?_⟩) (by assumption) ?_
  rotate_left
  · intro wq hSw; (try dsimp only at hSw); go_simp; (try with_reducible rfl)
  simp only [Act.put, List.getElem_toArray, List.getElem_cons_succ, List.getElem_cons_zero, List.setIfInBounds_toArray, List.set_cons_zero, List.set_cons_succ]
  refine wpAnyH_take (i := 11) (v := ?_) rfl (by kernel_rfl) (by kernel_rfl) (by kernel_rfl) (fun _ _ _ h => h) (Or.inl ⟨by rfl, ?_⟩) (by assumption) ?_
  rotate_left
  · intro wq hSw; (try dsimp only at hSw); go_simp; (try with_reducible rfl)
  simp only [Act.put, List.getElem_toArray, List.getElem_cons_succ, List.getElem_cons_zero, List.setIfInBounds_toArray, List.set_cons_zero, List.set_cons_succ]
  refine wpAnyH_take (i := 12) (v := ?_) rfl (by kernel_rfl) (by kernel_rfl) (by kernel_rfl) (fun _ _ _ h => h) (Or.inl ⟨by rfl, ?_⟩) (by assumption) ?_
  rotate_left
  · intro wq hSw; (try dsimp only at hSw); go_simp; (try with_reducible rfl)
  simp only [Act.put, List.getElem_toArray, List.getElem_cons_succ, List.getElem_cons_zero, List.setIfInBounds_toArray, List.set_cons_zero, List.set_cons_succ]
  refine wpAnyH_done (by kernel_rfl) ?_ _
  clear hHeld
  clear hHeld hb5' hBd
  have hTb5 := (HF.out _ hb5).2.2.2.2.2
  have hm5 : Mut bs w w5 := HM.out.1.trans (Mut.of_below (HM.out.2.1 ▸ hb5))
  have H5 := Lib.hid (show Tb w5 bs S (at_ b t) ∧ Mut bs w w5 from ⟨hTb5, hm5⟩)
  clear hTb5 hm5
  cases r with
  | true =>
    have hf : fo = (at_ b t, a0, 0) := by
      rw [← HFO.out]
      unfold offer
      rw [if_pos HOK.out]
      have h1 := HRR.out
      cases e : askK s.hi s.lo b.K with
      | none => rw [e] at h1; cases h1.1
      | some k => rw [e] at h1; simp at h1; simp [h1]
    subst hf
    go_wp2_with fail
    go_ret2
    exact ⟨rfl, TbTo.same H5.out.2 H5.out.1⟩
  | false =>
    have hnone : askK s.hi s.lo b.K = none := by
      have h1 := HRR.out.1
      cases e : askK s.hi s.lo b.K with
      | none => rfl
      | some k => rw [e] at h1; cases h1
    obtain ⟨q, hq⟩ : ∃ q, tot b.L = q := ⟨_, rfl⟩
    obtain ⟨sp, hsp⟩ : ∃ q, b.sp = q := ⟨_, rfl⟩
    have hlen : ∀ W, Below n2 w2 W → Calls Try.prog 15 #[.pointer (some ⟨S, 0, none⟩)] W fun e w' => e = .returned (.int .i64 (q : Int)) ∧ W = w' := fun W hW => by
      have := tlen_any W (HF.out _ hW).2.2.2.2.2
      rw [show tot (at_ b t).L = q from hq] at this
      exact this
    have HLEN := Lib.hid hlen
    have HQ := Lib.hid (show askK s.hi s.lo b.K = none ∧ tot b.L = q ∧ b.sp = sp from ⟨hnone, hq, hsp⟩)
    have hBd : Below n2 w2 w5.drew := hb5.trans (Mut.below (Mut.refl [] _).drew (HM.out.2.1 ▸ hb5.size) (by simp))
    clear hnone hlen hq hsp
    go_wp2_with fail
    refine wp_region_held_drew (S := fun W => Below n2 w2 W) (by kernel_rfl) ?_ (fun hHeld => ?_)
    · exact hBd
    refine wpAnyH_take (i := 0) (v := ?_) rfl (by kernel_rfl) (by kernel_rfl) (by kernel_rfl) (fun _ _ _ h => h) (Or.inl ⟨by rfl, ?_⟩) (by assumption) ?_
    rotate_left
    · intro wq hSw; (try dsimp only at hSw); go_simp; (try with_reducible rfl)
    simp only [Act.put, List.getElem_toArray, List.getElem_cons_succ, List.getElem_cons_zero, List.setIfInBounds_toArray, List.set_cons_zero, List.set_cons_succ]
    refine wpAnyH_take (i := 2) (v := ?_) rfl (by kernel_rfl) (by kernel_rfl) (by kernel_rfl) (fun _ _ _ h => h) (Or.inl ⟨by rfl, ?_⟩) (by assumption) ?_
    rotate_left
    · intro wq hSw; (try dsimp only at hSw); go_simp; (try with_reducible rfl)
    simp only [Act.put, List.getElem_toArray, List.getElem_cons_succ, List.getElem_cons_zero, List.setIfInBounds_toArray, List.set_cons_zero, List.set_cons_succ]
    refine wpAnyH_take (i := 3) (v := ?_) rfl (by kernel_rfl) (by kernel_rfl) (by kernel_rfl) (fun _ _ _ h => h) (Or.inl ⟨by rfl, ?_⟩) (by assumption) ?_
    rotate_left
    · intro wq hSw; (try dsimp only at hSw); go_simp; (try with_reducible rfl)
    simp only [Act.put, List.getElem_toArray, List.getElem_cons_succ, List.getElem_cons_zero, List.setIfInBounds_toArray, List.set_cons_zero, List.set_cons_succ]
    refine wpAnyH_take (i := 4) (v := ?_) rfl (by kernel_rfl) (by kernel_rfl) (by kernel_rfl) (fun _ _ _ h => h) (Or.inl ⟨by rfl, ?_⟩) (by assumption) ?_
    rotate_left
    · intro wq hSw; (try dsimp only at hSw); go_simp; (try with_reducible rfl)
    simp only [Act.put, List.getElem_toArray, List.getElem_cons_succ, List.getElem_cons_zero, List.setIfInBounds_toArray, List.set_cons_zero, List.set_cons_succ]
    refine wpAnyH_take (i := 5) (v := ?_) rfl (by kernel_rfl) (by kernel_rfl) (by kernel_rfl) (fun _ _ _ h => h) (Or.inl ⟨by rfl, ?_⟩) (by assumption) ?_
    rotate_left
    · intro wq hSw; (try dsimp only at hSw); have q0 := HQ.out.2.2 ▸ (HF.out _ hSw).2.2.2.1; go_simp; (try with_reducible rfl)
    simp only [Act.put, List.getElem_toArray, List.getElem_cons_succ, List.getElem_cons_zero, List.setIfInBounds_toArray, List.set_cons_zero, List.set_cons_succ]
    refine wpAnyH_ready (rs := [1]) (by kernel_rfl) (by simp) ?_
    refine AllReadyH.cons rfl (fun K hK => ?_) AllReadyH.nil
    go_simp
    refine (HLEN.out _ hHeld).mono ?_
    rintro e w6 ⟨rfl, rfl⟩
    (try go_wp2_with fail)
    refine hK.out _ _ ?_ (fun hHeld => ?_)
    · exact hHeld
    clear hK K
    try simp only [Act.put, List.getElem_toArray, List.getElem_cons_succ, List.getElem_cons_zero, List.setIfInBounds_toArray, List.set_cons_zero, List.set_cons_succ]
    refine wpAnyH_take (i := 6) (v := ?_) rfl (by kernel_rfl) (by kernel_rfl) (by kernel_rfl) (fun _ _ _ h => h) (Or.inl ⟨by rfl, ?_⟩) (by assumption) ?_
    rotate_left
    · intro wq hSw; (try dsimp only at hSw); go_simp; (try with_reducible rfl)
    simp only [Act.put, List.getElem_toArray, List.getElem_cons_succ, List.getElem_cons_zero, List.setIfInBounds_toArray, List.set_cons_zero, List.set_cons_succ]
    refine wpAnyH_done (by kernel_rfl) ?_ _
    clear hHeld
    by_cases hfull : q = sp
    · subst hfull
      have hf : fo = (at_ b t, 2, 0) := by
        rw [← HFO.out]
        unfold offer
        rw [if_pos HOK.out, HQ.out.1]
        simp [HQ.out.2.1, HQ.out.2.2]
      subst hf
      have hto := TbTo.same (HM.out.1.trans (Mut.of_below (HM.out.2.1 ▸ hHeld))) (HF.out _ hHeld).2.2.2.2.2
      have HTO := Lib.hid hto
      clear hto
      go_wp2_with fail
      go_ret2
      exact ⟨rfl, HTO.out⟩
    · have hne : ((q : Int) == (sp : Int)) = false := by simp; omega
      have hnen : (q == sp) = false := by simpa using hfull
      have hf : fo = (offered (at_ b t) s, 1, 0) := by
        rw [← HFO.out]
        unfold offer
        rw [if_pos HOK.out, HQ.out.1]
        simp [HQ.out.2.1, HQ.out.2.2, hfull]
      subst hf
      obtain ⟨wt, hwt⟩ : ∃ q, b.wait = q := ⟨_, rfl⟩
      have hb : ∀ W, Below n2 w2 W → Calls Try.prog 28 #[.pointer (some ⟨S, 3, none⟩), spV s, .int .i64 ((t : Int) + (wt : Int))] W fun e w' => e = .returned (.tuple #[]) ∧ TbTo w bs S (offered (at_ b t) s) w' := fun W hW => by
        have hp := put_any s W (HF.out _ hW).2.2.2.2.2 HU.out.1 HU.out.2 (by have := HM.out.2.2.tot; have h1 := HQ.out.2; show tot b.L < b.sp; have h2 : tot b.L ≤ b.sp := this; omega) H1.out.2.2.2.2.1
        have e : (((at_ b t).time + (at_ b t).wait : Nat) : Int) = (t : Int) + (wt : Int) := by rw [← hwt]; rfl
        rw [e] at hp
        exact hp.mono fun e w' ⟨x, y⟩ => ⟨x, TbTo.after (HM.out.1.trans (Mut.of_below (HM.out.2.1 ▸ hW))) y⟩
      unfold spV at hb
      have HP := Lib.hid hb
      have hwb : wt ≤ 1099511627776 ∧ t ≤ 1099511627776 := by
        have h1 := HM.out.2.2.wait
        have h2 := HM.out.2.2.time
        rw [← hwt]
        exact ⟨h1.2, h2⟩
      have HW := Lib.hid hwt
      clear hb hwt
      generalize w5.drew = w6 at hHeld ⊢
      go_wp2_with fail
      have c9 := HW.out ▸ (HF.out _ hHeld).2.2.2.2.1
      obtain ⟨q0, q1, q2, q3, q4, q5, q6, q7, q8, q9⟩ := HCE.out _ (HF.out _ hHeld).2.1
      have hd6 : Below n2 w2 w6.drew := hHeld.trans (Mut.below (Mut.refl [] _).drew (HM.out.2.1 ▸ hHeld.size) (by simp))
      go_still_tail 10, (by kernel_rfl)
      change wpList _ _ _ _ _ w6.drew
      have HC := Lib.hid (HP.out _ hd6)
      clear c9 q0 q1 q2 q3 q4 q5 q6 q7 q8 q9 hHeld hd6
      go_wp2_with fail
      refine HC.out.mono ?_
      rintro e w7 ⟨rfl, hto⟩
      have HTO := Lib.hid hto
      clear hto
      go_wp2_with fail
      go_ret2
      exact ⟨rfl, HTO.out⟩

/-- Whatever the time. -/
theorem toffer_any {bs : List Nat} {S : Nat} {b : St} (now : Int) (s : Sp) (w : World) (h : Tb w bs S b) (hu1 : u64 s.hi) (hu2 : u64 s.lo) (hcame : b.came ≤ 1000000000) :
    Calls Try.prog 12 #[.pointer (some ⟨S, 0, none⟩), .int .i64 now, spV s] w fun e w' => e = .returned (.tuple #[.int .u8 ((offer b now s).2.1 : Int), .int .u16 ((offer b now s).2.2 : Int)]) ∧ TbTo w bs S (offer b now s).1 w' := by
  cases ht : okT b now with
  | false =>
    have e : offer b now s = (b, 0, 60) := by unfold offer; rw [ht]; rfl
    rw [e]
    exact toffer_no s w h ht
  | true =>
    have h2 : (b.time : Int) ≤ now ∧ now ≤ 1099511627776 := by simpa [okT] using ht
    obtain ⟨t, rfl⟩ : ∃ t : Nat, now = (t : Int) := ⟨now.toNat, by omega⟩
    exact toffer_ok t s w h (by omega) (by omega) hu1 hu2 hcame

def ayOf (keep : Bool) : Nat := if keep then 4 else 3
set_option maxRecDepth 100000 in
set_option maxHeartbeats 1000000 in
theorem tdecide_any {bs : List Nat} {S : Nat} {b : St} (hi lo : Nat) (keep : Bool) (w : World) (h : Tb w bs S b) (h1 : u64 hi) (h2 : u64 lo) :
    Calls Try.prog 14 #[.pointer (some ⟨S, 0, none⟩), .int .u64 (hi : Int), .int .u64 (lo : Int), .bool keep] w fun e w' => e = .returned (.tuple #[]) ∧ TbTo w bs S (decided b hi lo (ayOf keep)) w' := by
  have ht : ∀ ay : Nat, ay = 3 ∨ ay = 4 → Calls Try.prog 31 #[.pointer (some ⟨S, 0, none⟩), .agg #[.int .u64 (hi : Int), .int .u64 (lo : Int)], .int .u8 (ay : Int)] w fun e w' => e = .returned (.tuple #[]) ∧ TbTo w bs S (decided b hi lo ay) w' := fun ay hay => by
    obtain ⟨T, N, M, H, v, hbs, G, k1, k2, rfl⟩ := h
    refine (tell_any hi lo ay w k1 k2 h1 h2 hay).mono fun e w' ⟨x, v', y1, y2, y3⟩ => ⟨x, core S T N M v' G ++ hbs, ⟨T, N, M, H, v', hbs, G, y1, k2.decided h1 h2 hay, rfl⟩, y2.wider fun k hk => ?_, fun k hk => ?_⟩
    · simp only [core, List.mem_cons, List.mem_append] at hk ⊢
      rcases hk with e | e | e
      · exact .inl (.inl e)
      · exact .inl (.inr (.inl e))
      · exact .inl (.inr (.inr (.inr (.inr (.inl e)))))
    · simp only [core, List.mem_cons, List.mem_append] at hk ⊢
      rcases hk with (e | e | e | e | e | e) | e
      · exact .inl (.inl (.inl e))
      · exact .inl (.inl (.inr (.inl e)))
      · exact .inl (.inl (.inr (.inr (.inl e))))
      · exact .inl (.inl (.inr (.inr (.inr (.inl e)))))
      · rcases y3 k (by simpa using e) with e2 | e2
        · exact .inl (.inl (.inr (.inr (.inr (.inr (.inl (by simpa using e2)))))))
        · exact .inr e2
      · exact .inl (.inl (.inr (.inr (.inr (.inr (.inr e))))))
      · exact .inl (.inr e)
  have HT := Lib.hid ht
  clear ht h h1 h2
  cases keep with
  | false =>
    have HC := Lib.hid (HT.out 3 (.inl rfl))
    go_enter Try.func14, Try.ntmps14
    go_wp2_with fail
    refine HC.out.mono ?_
    rintro e w' ⟨rfl, hto⟩
    have HTO := Lib.hid hto
    clear hto
    go_wp2_with fail
    go_end0
    exact ⟨rfl, HTO.out⟩
  | true =>
    have HC := Lib.hid (HT.out 4 (.inr rfl))
    go_enter Try.func14, Try.ntmps14
    go_wp2_with fail
    refine HC.out.mono ?_
    rintro e w' ⟨rfl, hto⟩
    have HTO := Lib.hid hto
    clear hto
    go_wp2_with fail
    go_end0
    exact ⟨rfl, HTO.out⟩
end Go.Proofs.Ythpcnnkdpgjiiaa
