/-
  What the source of package item does: number and text, read where they stand. No condition.
-/
import Derived.Test.YtklgggolkclebaaItemField
import Derived.Test.YtklgggolkclebaaItemLay
namespace Go.Proofs.Ytklgggolkclebaa
open Go.RowKit Go.Proofs.NumMath Go.Proofs.ItemMath

theorem blk_at (W : World) (n : Nat) (hn : W.heap.size = n) (C : Array Value) (T : TypeId) : Blk (W.alloc (.cells C T)) n C T := by
  subst hn
  exact blk_new W C T

set_option linter.unusedSimpArgs false in
set_option linter.unusedVariables false in
set_option maxRecDepth 100000 in
set_option maxHeartbeats 4000000 in
/-- **number, read.** -/
theorem number_read (gr k i : Nat) (C : Array Value) (A : Option Addr) (cs : List UInt8) (len cap : Nat) (W : World) (hk : k < 100) (hlen : cs.length = len) (hl : len ≤ cap) (hcap : cap ≤ 9223372036854775807)
    (hg : Blk W gr C 79) (hC0 : C[0]? = some (.slice A len cap)) (hC1 : C[1]? = some (.int .i64 (i : Int))) (hr : Holds8 W.heap.size W A cs) :
    Calls Try.prog 52 #[.pointer (some ⟨gr, 0, none⟩), .int .u64 (k : Int)] W fun e W' =>
      e = .returned (.int .u64 ((readN cs k i).1 : Int)) ∧ Blk W' gr (C.setIfInBounds 1 (.int .i64 ((readN cs k i).2 : Int))) 79 ∧ Kept W W' (· = gr) := by
  have hgl := hg.lt
  obtain ⟨X, hX⟩ : ∃ X, ((W.alloc (.cells #[.pointer (some ⟨gr, 0, none⟩)] 105)).alloc (.cells #[.int .u64 0] 23)) = X := ⟨_, rfl⟩
  have hbX : Below W.heap.size W X := by rw [← hX]; exact ((Below.refl _ W).alloc (Nat.le_refl _) _).alloc (by simp) _
  have hgX : Blk X gr C 79 := hg.same (hbX.block _ hgl)
  have hbs : Blk X W.heap.size #[.pointer (some ⟨gr, 0, none⟩)] 105 := by rw [← hX]; exact (blk_new W _ _).same (Below.heap_alloc _ _ _ (by simp))
  
  have hbn : Blk X (W.heap.size + 1) #[.int .u64 0] 23 := by rw [← hX]; exact blk_at _ _ (by simp) _ _
  have hF := fun (w : World) (h : Below X.heap.size X w) => field_num 0 gr W.heap.size (W.heap.size + 1) k i C A cs len cap w hk hlen hl hcap (hgX.same (h.block _ hgX.lt)) hC0 hC1 (hbs.same (h.block _ hbs.lt)) (hbn.same (h.block _ hbn.lt)) ((hr.later hbX).later h) (by omega)
  have hT := fun w => numberTag_any k (by omega) w
  generalize readN cs k i = g at hF ⊢
  obtain ⟨res, up⟩ := g
  dsimp only at hF ⊢
  
  have HF := Lib.hid hF
  have HT := Lib.hid hT
  have HB := Lib.hid hbX
  have hs0 : X.cell? ⟨W.heap.size, 0, none⟩ = some (.pointer (some ⟨gr, 0, none⟩)) := hbs.cell 0 rfl
  have hsl := hbs.lt
  have HBS := Lib.hid hbs
  have hnl := hbn.lt
  clear hF hT hbX hbs hbn hgX hr hg hC0 hC1 hlen
  go_enter Try.func52, Try.ntmps52
  go_wp2_with fail
  refine wp_region_held_drew (S := fun w => w.cell? ⟨W.heap.size, 0, none⟩ = some (.pointer (some ⟨gr, 0, none⟩))) (by kernel_rfl) ?_ (fun hHeld => ?_)
  · exact hs0
  refine wpAnyH_take (i := 0) (v := ?_) rfl (by kernel_rfl) (by kernel_rfl) (by kernel_rfl) (fun _ _ _ h => h) (Or.inl ⟨by rfl, ?_⟩) (by assumption) ?_
  rotate_left
  · intro wq hSw; (try dsimp only at hSw); have hq := hSw; go_simp; (try with_reducible rfl)
  simp only [Act.put, List.getElem_toArray, List.getElem_cons_succ, List.getElem_cons_zero, List.setIfInBounds_toArray, List.set_cons_zero, List.set_cons_succ]
  refine wpAnyH_take (i := 1) (v := ?_) rfl (by kernel_rfl) (by kernel_rfl) (by kernel_rfl) (fun _ _ _ h => h) (Or.inl ⟨by rfl, ?_⟩) (by assumption) ?_
  rotate_left
  · intro wq hSw; (try dsimp only at hSw); go_simp; (try with_reducible rfl)
  simp only [Act.put, List.getElem_toArray, List.getElem_cons_succ, List.getElem_cons_zero, List.setIfInBounds_toArray, List.set_cons_zero, List.set_cons_succ]
  refine wpAnyH_take (i := 3) (v := ?_) rfl (by kernel_rfl) (by kernel_rfl) (by kernel_rfl) (fun _ _ _ h => h) (Or.inl ⟨by rfl, ?_⟩) (by assumption) ?_
  rotate_left
  · intro wq hSw; (try dsimp only at hSw); go_simp; (try with_reducible rfl)
  simp only [Act.put, List.getElem_toArray, List.getElem_cons_succ, List.getElem_cons_zero, List.setIfInBounds_toArray, List.set_cons_zero, List.set_cons_succ]
  refine wpAnyH_ready (rs := [2]) (by kernel_rfl) (by simp) ?_
  refine AllReadyH.cons rfl (fun K hK => ?_) AllReadyH.nil
  go_simp
  refine (HT.out _).mono ?_
  rintro e w' ⟨rfl, rfl⟩
  (try go_wp2_with fail)
  refine hK.out _ _ ?_ (fun hHeld => ?_)
  · exact hHeld
  clear hK K
  try simp only [Act.put, List.getElem_toArray, List.getElem_cons_succ, List.getElem_cons_zero, List.setIfInBounds_toArray, List.set_cons_zero, List.set_cons_succ]
  refine wpAnyH_ready (rs := [4]) (by kernel_rfl) (by simp) ?_
  refine AllReadyH.cons rfl (fun K hK => ?_) AllReadyH.nil
  go_simp
  refine (HF.out _ (Below.refl _ X).drew).mono ?_
  rintro e w2 ⟨rfl, hbn2, hg2, hk2⟩
  have HN2 := Lib.hid hbn2
  have HG2 := Lib.hid hg2
  have HK2 : Hid (Kept X w2 (fun b => b = gr ∨ b = W.heap.size + 1)) := Lib.hid ⟨hk2.os, hk2.tape, hk2.output, hk2.size, hk2.block⟩
  clear hbn2 hg2 hk2
  (try go_wp2_with fail)
  refine hK.out _ _ ?_ (fun hHeld => ?_)
  · exact (HK2.out.blk HBS.out (by omega)).cell 0 rfl
  clear hK K
  try simp only [Act.put, List.getElem_toArray, List.getElem_cons_succ, List.getElem_cons_zero, List.setIfInBounds_toArray, List.set_cons_zero, List.set_cons_succ]
  refine wpAnyH_done (by kernel_rfl) ?_ _
  clear hHeld
  have y0 := HN2.out.free 0
  have y1 : w2.cell? ⟨W.heap.size + 1, 0, none⟩ = some (.int .u64 (res : Int)) := HN2.out.cell 0 rfl
  have hgn : gr ≠ W.heap.size + 1 := by omega
  have HG3 := Lib.hid (HG2.out.same (Below.heap_setCell w2 ⟨W.heap.size + 1, 0, none⟩ (.int .u64 (res : Int)) gr hgn))
  have HK3 := Lib.hid (((Kept.of_below HB.out (fun b => b = gr ∨ W.heap.size ≤ b)).trans (HK2.out.mono (fun b _ h => by omega))).set (p := ⟨W.heap.size + 1, 0, none⟩) (.inr (by show W.heap.size ≤ W.heap.size + 1; omega)) (.int .u64 (res : Int)))
  go_wp2_with fail
  exact bodyPost_ret (v := .int .u64 (res : Int)) (by simp [results, Try.results52, go_sem, y1]) rfl ⟨rfl, HG3.out, HK3.out.mono (fun b hb h => by omega)⟩

set_option linter.unusedSimpArgs false in
set_option linter.unusedVariables false in
set_option maxRecDepth 100000 in
set_option maxHeartbeats 4000000 in
/-- **text, read.** -/
theorem text_read (gr k i : Nat) (C : Array Value) (A : Option Addr) (cs : List UInt8) (len cap : Nat) (W : World) (most : Nat) (hmost : most ≤ 1000) (hk : k < 100) (hlen : cs.length = len) (hl : len ≤ cap) (hcap : cap ≤ 9223372036854775807)
    (hg : Blk W gr C 79) (hC0 : C[0]? = some (.slice A len cap)) (hC1 : C[1]? = some (.int .i64 (i : Int))) (hr : Holds8 W.heap.size W A cs) :
    Calls Try.prog 53 #[.pointer (some ⟨gr, 0, none⟩), .int .u64 (k : Int), .int .i64 (most : Int)] W fun e W' =>
      e = .returned (.string ⟨(readT cs k most i).1.toArray⟩) ∧ Blk W' gr (C.setIfInBounds 1 (.int .i64 ((readT cs k most i).2 : Int))) 79 ∧ Kept W W' (· = gr) := by
  have hgl := hg.lt
  obtain ⟨X, hX⟩ : ∃ X, (((W.alloc (.cells #[.pointer (some ⟨gr, 0, none⟩)] 105)).alloc (.cells #[.int .i64 (most : Int)] 3)).alloc (.cells #[.string ⟨#[]⟩] 9)) = X := ⟨_, rfl⟩
  have hbX : Below W.heap.size W X := by rw [← hX]; exact (((Below.refl _ W).alloc (Nat.le_refl _) _).alloc (by simp) _).alloc (by simp; omega) _
  have hgX : Blk X gr C 79 := hg.same (hbX.block _ hgl)
  have hbs : Blk X W.heap.size #[.pointer (some ⟨gr, 0, none⟩)] 105 := by rw [← hX]; exact (blk_new W _ _).same ((Below.heap_alloc _ _ _ (by simp; omega)).trans (Below.heap_alloc _ _ _ (by simp)))
  have hbm : Blk X (W.heap.size + 1) #[.int .i64 (most : Int)] 3 := by rw [← hX]; exact (blk_at _ _ (by simp) _ _).same (Below.heap_alloc _ _ _ (by simp))
  have hbn : Blk X (W.heap.size + 1 + 1) #[.string ⟨#[]⟩] 9 := by rw [← hX]; exact blk_at _ _ (by simp) _ _
  have hF := fun (w : World) (h : Below X.heap.size X w) => field_text 0 gr W.heap.size (W.heap.size + 1 + 1) k i C A cs len cap w most (W.heap.size + 1) hmost (hbm.same (h.block _ hbm.lt)) hk hlen hl hcap (hgX.same (h.block _ hgX.lt)) hC0 hC1 (hbs.same (h.block _ hbs.lt)) (hbn.same (h.block _ hbn.lt)) ((hr.later hbX).later h) (by omega)
  have hT := fun w => textTag_any k (by omega) w
  generalize readT cs k most i = g at hF ⊢
  obtain ⟨res, up⟩ := g
  dsimp only at hF ⊢
  generalize (⟨res.toArray⟩ : ByteArray) = tb at hF ⊢
  have HF := Lib.hid hF
  have HT := Lib.hid hT
  have HB := Lib.hid hbX
  have hs0 : X.cell? ⟨W.heap.size, 0, none⟩ = some (.pointer (some ⟨gr, 0, none⟩)) := hbs.cell 0 rfl
  have hsl := hbs.lt
  have HBS := Lib.hid hbs
  have hnl := hbn.lt
  clear hF hT hbX hbs hbn hgX hr hg hC0 hC1 hlen hbm
  go_enter Try.func53, Try.ntmps53
  go_wp2_with fail
  refine wp_region_held_drew (S := fun w => w.cell? ⟨W.heap.size, 0, none⟩ = some (.pointer (some ⟨gr, 0, none⟩))) (by kernel_rfl) ?_ (fun hHeld => ?_)
  · exact hs0
  refine wpAnyH_take (i := 0) (v := ?_) rfl (by kernel_rfl) (by kernel_rfl) (by kernel_rfl) (fun _ _ _ h => h) (Or.inl ⟨by rfl, ?_⟩) (by assumption) ?_
  rotate_left
  · intro wq hSw; (try dsimp only at hSw); have hq := hSw; go_simp; (try with_reducible rfl)
  simp only [Act.put, List.getElem_toArray, List.getElem_cons_succ, List.getElem_cons_zero, List.setIfInBounds_toArray, List.set_cons_zero, List.set_cons_succ]
  refine wpAnyH_take (i := 1) (v := ?_) rfl (by kernel_rfl) (by kernel_rfl) (by kernel_rfl) (fun _ _ _ h => h) (Or.inl ⟨by rfl, ?_⟩) (by assumption) ?_
  rotate_left
  · intro wq hSw; (try dsimp only at hSw); go_simp; (try with_reducible rfl)
  simp only [Act.put, List.getElem_toArray, List.getElem_cons_succ, List.getElem_cons_zero, List.setIfInBounds_toArray, List.set_cons_zero, List.set_cons_succ]
  refine wpAnyH_take (i := 3) (v := ?_) rfl (by kernel_rfl) (by kernel_rfl) (by kernel_rfl) (fun _ _ _ h => h) (Or.inl ⟨by rfl, ?_⟩) (by assumption) ?_
  rotate_left
  · intro wq hSw; (try dsimp only at hSw); go_simp; (try with_reducible rfl)
  simp only [Act.put, List.getElem_toArray, List.getElem_cons_succ, List.getElem_cons_zero, List.setIfInBounds_toArray, List.set_cons_zero, List.set_cons_succ]
  refine wpAnyH_ready (rs := [2]) (by kernel_rfl) (by simp) ?_
  refine AllReadyH.cons rfl (fun K hK => ?_) AllReadyH.nil
  go_simp
  refine (HT.out _).mono ?_
  rintro e w' ⟨rfl, rfl⟩
  (try go_wp2_with fail)
  refine hK.out _ _ ?_ (fun hHeld => ?_)
  · exact hHeld
  clear hK K
  try simp only [Act.put, List.getElem_toArray, List.getElem_cons_succ, List.getElem_cons_zero, List.setIfInBounds_toArray, List.set_cons_zero, List.set_cons_succ]
  refine wpAnyH_ready (rs := [4]) (by kernel_rfl) (by simp) ?_
  refine AllReadyH.cons rfl (fun K hK => ?_) AllReadyH.nil
  go_simp
  refine (HF.out _ (Below.refl _ X).drew).mono ?_
  rintro e w2 ⟨rfl, hbn2, hg2, hk2⟩
  have HN2 := Lib.hid hbn2
  have HG2 := Lib.hid hg2
  have HK2 : Hid (Kept X w2 (fun b => b = gr ∨ b = W.heap.size + 1 + 1)) := Lib.hid ⟨hk2.os, hk2.tape, hk2.output, hk2.size, hk2.block⟩
  clear hbn2 hg2 hk2
  (try go_wp2_with fail)
  refine hK.out _ _ ?_ (fun hHeld => ?_)
  · exact (HK2.out.blk HBS.out (by omega)).cell 0 rfl
  clear hK K
  try simp only [Act.put, List.getElem_toArray, List.getElem_cons_succ, List.getElem_cons_zero, List.setIfInBounds_toArray, List.set_cons_zero, List.set_cons_succ]
  refine wpAnyH_done (by kernel_rfl) ?_ _
  clear hHeld
  have y0 := HN2.out.free 0
  have y1 : w2.cell? ⟨W.heap.size + 1 + 1, 0, none⟩ = some (.string tb) := HN2.out.cell 0 rfl
  have hgn : gr ≠ W.heap.size + 1 + 1 := by omega
  have HG3 := Lib.hid (HG2.out.same (Below.heap_setCell w2 ⟨W.heap.size + 1 + 1, 0, none⟩ (.string tb) gr hgn))
  have HK3 := Lib.hid (((Kept.of_below HB.out (fun b => b = gr ∨ W.heap.size ≤ b)).trans (HK2.out.mono (fun b _ h => by omega))).set (p := ⟨W.heap.size + 1 + 1, 0, none⟩) (.inr (by show W.heap.size ≤ W.heap.size + 1 + 1; omega)) (.string tb))
  go_wp2_with fail
  exact bodyPost_ret (v := .string tb) (by simp [results, Try.results53, go_sem, y1]) rfl ⟨rfl, HG3.out, HK3.out.mono (fun b hb h => by omega)⟩

end Go.Proofs.Ytklgggolkclebaa
