/-
  What the source of package item does: a field's number, a field's text, read at the place where it stands. No condition.
-/
import Derived.Test.YtklgggolkclebaaNumTexts
import Derived.Test.YtklgggolkclebaaItemSpan
namespace Go.Proofs.Ytklgggolkclebaa
open Go.RowKit Go.Proofs.NumMath Go.Proofs.ItemMath

/-- Of the blocks that were there only those that may have turned. -/
structure Kept (W W' : World) (may : Nat → Prop) : Prop where
  os : W'.os = W.os
  tape : W'.tape = W.tape
  output : W'.output = W.output
  size : W.heap.size ≤ W'.heap.size
  block : ∀ b, b < W.heap.size → ¬ may b → W'.heap[b]? = W.heap[b]?
theorem Kept.refl (W : World) (may : Nat → Prop) : Kept W W may := ⟨rfl, rfl, rfl, Nat.le_refl _, fun _ _ _ => rfl⟩
theorem Kept.of_below {W W' : World} (h : Below W.heap.size W W') (may : Nat → Prop) : Kept W W' may := ⟨h.os, h.tape, h.output, h.size, fun b hb _ => h.block b hb⟩
theorem Kept.trans {W W1 W2 : World} {may : Nat → Prop} (h : Kept W W1 may) (k : Kept W1 W2 may) : Kept W W2 may :=
  ⟨k.os.trans h.os, k.tape.trans h.tape, k.output.trans h.output, Nat.le_trans h.size k.size, fun b hb hm => (k.block b (Nat.lt_of_lt_of_le hb h.size) hm).trans (h.block b hb hm)⟩
theorem Kept.mono {W W' : World} {may may' : Nat → Prop} (h : Kept W W' may) (hm : ∀ b, b < W.heap.size → may b → may' b) : Kept W W' may' :=
  ⟨h.os, h.tape, h.output, h.size, fun b hb hn => h.block b hb (fun hx => hn (hm b hb hx))⟩
theorem Kept.drew {W W' : World} {may : Nat → Prop} (h : Kept W W' may) : Kept W W'.drew may := ⟨h.os, h.tape, h.output, h.size, h.block⟩
theorem Kept.set {W W' : World} {may : Nat → Prop} (h : Kept W W' may) {p : Addr} (hp : may p.block) (u : Value) : Kept W (W'.setCell p u) may :=
  ⟨h.os, h.tape, h.output, by rw [World.size_setCell]; exact h.size, fun b hb hn => (Below.heap_setCell _ _ _ _ (fun e => hn (by rw [e]; exact hp))).trans (h.block b hb hn)⟩
theorem Kept.low {W W' : World} {may : Nat → Prop} (h : Kept W W' may) {B : Nat} (hB : B ≤ W.heap.size) (hm : ∀ b, b < B → ¬ may b) : Below B W W' := ⟨h.os, h.tape, h.output, h.size, fun b hb => h.block b (by omega) (hm b hb)⟩
theorem Kept.blk {W W' : World} {may : Nat → Prop} (h : Kept W W' may) {g : Nat} {C : Array Value} {T : TypeId} (hb : Blk W g C T) (hm : ¬ may g) : Blk W' g C T := hb.same (h.block g hb.lt hm)
theorem getAt_cs_bounds {cs : List UInt8} {i : Int} : (getAt cs i).1 < 18446744073709551616 ∧ (getAt cs i).2.1 ≤ cs.length ∧ (getAt cs i).2.2 ≤ 65535 := by
  by_cases he : (getAt cs i).2.2 = 0
  · have hh : getAt cs i = ((getAt cs i).1, (getAt cs i).2.1, 0) := by rw [← he]
    have h := getAt_le hh
    exact ⟨h.2, h.1, by omega⟩
  · have hz : (getAt cs i).1 = 0 ∧ (getAt cs i).2.1 = 0 := by
      unfold getAt at he ⊢
      by_cases h0 : i < 0 ∨ (cs.length : Int) < i
      · rw [if_pos h0]; simp
      · rw [if_neg h0] at he ⊢
        by_cases h1 : (scan 0 0 (cs.drop i.toNat)).2.2 = 0
        · rw [if_pos h1] at he; simp at he
        · rw [if_neg h1]; simp
    refine ⟨by omega, by omega, ?_⟩
    have hs : ∀ (r : List UInt8) (k acc : Nat), (scan k acc r).2.2 ≤ 31 := by
      intro r
      induction r with
      | nil => intro k acc; simp [scan]
      | cons c r ih =>
        intro k acc
        have := ih (k + 1) (acc + (c.toNat - 128) * 128 ^ k)
        unfold scan
        split
        · split <;> simp
        · split
          · simp
          · exact this
    have := hs (cs.drop i.toNat) 0 0
    unfold getAt
    split
    · simp
    · split
      · simp
      · simp only; omega

set_option linter.unusedSimpArgs false in
set_option maxRecDepth 100000 in
set_option maxHeartbeats 2000000 in
/-- The closure that reads a number. -/
theorem numberAt_any (gr bs bn : Nat) (C : Array Value) (A : Option Addr) (cs : List UInt8) (len cap : Nat) (i : Int) (W : World) (u : Value) (hlen : cs.length = len) (hl : len ≤ cap) (hcap : cap ≤ 9223372036854775807)
    (hg : Blk W gr C 79) (hC0 : C[0]? = some (.slice A len cap)) (hb : Blk W bs #[.pointer (some ⟨gr, 0, none⟩)] 105) (hn : Blk W bn #[u] 23) (hr : Holds8 W.heap.size W A cs) :
    Calls Try.prog 59 #[.int .i64 i, .pointer (some ⟨bs, 0, none⟩), .pointer (some ⟨bn, 0, none⟩)] W fun e W' =>
      e = .returned (.tuple #[.int .i64 ((getAt cs i).2.1 : Int), .int .u16 ((getAt cs i).2.2 : Int)]) ∧ Blk W' bn #[.int .u64 ((getAt cs i).1 : Int)] 23 ∧ Kept W W' (· = bn) := by
  have x0 := hg.cell 0 hC0
  have x1 : W.cell? ⟨bs, 0, none⟩ = some (.pointer (some ⟨gr, 0, none⟩)) := hb.cell 0 rfl
  subst hlen
  have hG := get_any A cs cap i W hl hcap hr
  obtain ⟨len, hlen⟩ : ∃ len, cs.length = len := ⟨_, rfl⟩
  rw [hlen] at x0 hG
  generalize getAt cs i = g at hG ⊢
  obtain ⟨n, up, e0⟩ := g
  dsimp only at hG ⊢
  have HG := Lib.hid hG
  have HN := Lib.hid hn
  clear hG hn hr hg hb hlen hl hC0
  go_enter Try.func59, Try.ntmps59
  go_wp2_with fail
  refine HG.out.mono ?_
  rintro e w1 ⟨rfl, hb1⟩
  have hk1 := Kept.of_below hb1 (· = bn)
  have hn1 : Blk w1 bn #[u] 23 := HN.out.same (hb1.block _ HN.out.lt)
  have y0 := hn1.free 0
  have y1 : w1.cell? ⟨bn, 0, none⟩ = some u := hn1.cell 0 rfl
  have HK := Lib.hid (hk1.set (p := ⟨bn, 0, none⟩) rfl (.int .u64 (n : Int)))
  have HB := Lib.hid (hn1.set 0 (.int .u64 (n : Int)))
  clear hk1 hn1 hb1
  go_wp2_with fail
  go_ret2
  exact ⟨rfl, HB.out, HK.out⟩

set_option linter.unusedSimpArgs false in
set_option maxRecDepth 100000 in
set_option maxHeartbeats 2000000 in
/-- The closure that reads a text. -/
theorem textAt_any (gr bs bm bt : Nat) (C : Array Value) (A : Option Addr) (cs : List UInt8) (len cap : Nat) (i most : Int) (W : World) (u : Value) (hlen : cs.length = len) (hl : len ≤ cap) (hcap : cap ≤ 9223372036854775807) (hm : most ≤ 9223372036854775807)
    (hg : Blk W gr C 79) (hC0 : C[0]? = some (.slice A len cap)) (hb : Blk W bs #[.pointer (some ⟨gr, 0, none⟩)] 105) (hbm : Blk W bm #[.int .i64 most] 3) (hn : Blk W bt #[u] 9) (hr : Holds8 W.heap.size W A cs) :
    Calls Try.prog 61 #[.int .i64 i, .pointer (some ⟨bs, 0, none⟩), .pointer (some ⟨bm, 0, none⟩), .pointer (some ⟨bt, 0, none⟩)] W fun e W' =>
      e = .returned (.tuple #[.int .i64 ((getText cs i most).2.1 : Int), .int .u16 ((getText cs i most).2.2 : Int)]) ∧ Blk W' bt #[.string ⟨(getText cs i most).1.toArray⟩] 9 ∧ Kept W W' (· = bt) := by
  have n1 : gr ≠ bt := fun e => by subst e; unfold Blk at hg hn; rw [hg] at hn; injection hn with h; injection h with _ h _; exact absurd h (by decide)
  have n2 : bs ≠ bt := fun e => by subst e; unfold Blk at hb hn; rw [hb] at hn; injection hn with h; injection h with _ h _; exact absurd h (by decide)
  have n3 : bm ≠ bt := fun e => by subst e; unfold Blk at hbm hn; rw [hbm] at hn; injection hn with h; injection h with _ h _; exact absurd h (by decide)
  have x0 : W.cell? ⟨gr, 0, none⟩ = some (.slice A len cap) := hg.cell 0 hC0
  have x1 : W.cell? ⟨bs, 0, none⟩ = some (.pointer (some ⟨gr, 0, none⟩)) := hb.cell 0 rfl
  have x2 : W.cell? ⟨bm, 0, none⟩ = some (.int .i64 most) := hbm.cell 0 rfl
  have l0 := hg.lt
  have l1 := hb.lt
  have l2 := hbm.lt
  subst hlen
  have hG := fun (w : World) (h : Below W.heap.size W w) => getText_any A cs cap i most w hl hcap hm (hr.later h)
  obtain ⟨len, hlen⟩ : ∃ len, cs.length = len := ⟨_, rfl⟩
  rw [hlen] at x0 hG
  generalize getText cs i most = g at hG ⊢
  obtain ⟨t, up, e0⟩ := g
  dsimp only at hG ⊢
  generalize (⟨t.toArray⟩ : ByteArray) = tb at hG ⊢
  have HG := Lib.hid hG
  have HN := Lib.hid hn
  clear hG hn hr hg hb hbm hlen hl hC0
  go_enter Try.func61, Try.ntmps61
  go_wp2_with fail
  refine wp_region_held_drew (S := fun w => w.cell? ⟨bs, 0, none⟩ = some (.pointer (some ⟨gr, 0, none⟩)) ∧ w.cell? ⟨gr, 0, none⟩ = some (.slice A len cap) ∧ w.cell? ⟨bm, 0, none⟩ = some (.int .i64 most)) (by kernel_rfl) ?_ (fun hHeld => ?_)
  · exact ⟨x1, x0, x2⟩
  refine wpAnyH_take (i := 0) (v := ?_) rfl (by kernel_rfl) (by kernel_rfl) (by kernel_rfl) (fun _ _ _ h => h) (Or.inl ⟨by rfl, ?_⟩) (by assumption) ?_
  rotate_left
  · intro wq hSw; (try dsimp only at hSw); have hq := hSw.1; go_simp; (try with_reducible rfl)
  simp only [Act.put, List.getElem_toArray, List.getElem_cons_succ, List.getElem_cons_zero, List.setIfInBounds_toArray, List.set_cons_zero, List.set_cons_succ]
  refine wpAnyH_take (i := 1) (v := ?_) rfl (by kernel_rfl) (by kernel_rfl) (by kernel_rfl) (fun _ _ _ h => h) (Or.inl ⟨by rfl, ?_⟩) (by assumption) ?_
  rotate_left
  · intro wq hSw; (try dsimp only at hSw); go_simp; (try with_reducible rfl)
  simp only [Act.put, List.getElem_toArray, List.getElem_cons_succ, List.getElem_cons_zero, List.setIfInBounds_toArray, List.set_cons_zero, List.set_cons_succ]
  refine wpAnyH_take (i := 2) (v := ?_) rfl (by kernel_rfl) (by kernel_rfl) (by kernel_rfl) (fun _ _ _ h => h) (Or.inl ⟨by rfl, ?_⟩) (by assumption) ?_
  rotate_left
  · intro wq hSw; (try dsimp only at hSw); go_simp; (try with_reducible rfl)
  simp only [Act.put, List.getElem_toArray, List.getElem_cons_succ, List.getElem_cons_zero, List.setIfInBounds_toArray, List.set_cons_zero, List.set_cons_succ]
  refine wpAnyH_take (i := 3) (v := ?_) rfl (by kernel_rfl) (by kernel_rfl) (by kernel_rfl) (fun _ _ _ h => h) (Or.inl ⟨by rfl, ?_⟩) (by assumption) ?_
  rotate_left
  · intro wq hSw; (try dsimp only at hSw); have hq := hSw.2.1; go_simp; (try with_reducible rfl)
  simp only [Act.put, List.getElem_toArray, List.getElem_cons_succ, List.getElem_cons_zero, List.setIfInBounds_toArray, List.set_cons_zero, List.set_cons_succ]
  refine wpAnyH_take (i := 4) (v := ?_) rfl (by kernel_rfl) (by kernel_rfl) (by kernel_rfl) (fun _ _ _ h => h) (Or.inl ⟨by rfl, ?_⟩) (by assumption) ?_
  rotate_left
  · intro wq hSw; (try dsimp only at hSw); go_simp; (try with_reducible rfl)
  simp only [Act.put, List.getElem_toArray, List.getElem_cons_succ, List.getElem_cons_zero, List.setIfInBounds_toArray, List.set_cons_zero, List.set_cons_succ]
  refine wpAnyH_take (i := 5) (v := ?_) rfl (by kernel_rfl) (by kernel_rfl) (by kernel_rfl) (fun _ _ _ h => h) (Or.inl ⟨by rfl, ?_⟩) (by assumption) ?_
  rotate_left
  · intro wq hSw; (try dsimp only at hSw); have hq := hSw.2.2; go_simp; (try with_reducible rfl)
  simp only [Act.put, List.getElem_toArray, List.getElem_cons_succ, List.getElem_cons_zero, List.setIfInBounds_toArray, List.set_cons_zero, List.set_cons_succ]
  refine wpAnyH_ready (rs := [6]) (by kernel_rfl) (by simp) ?_
  refine AllReadyH.cons rfl (fun K hK => ?_) AllReadyH.nil
  go_simp
  refine (HG.out _ (Below.refl _ W).drew).mono ?_
  rintro e w1 ⟨rfl, hb1'⟩
  have hb1 : Below W.heap.size W w1 := undrewn hb1'
  clear hb1'
  (try go_wp2_with fail)
  refine hK.out _ _ ?_ (fun hHeld => ?_)
  · exact ⟨(hb1.cell (p := ⟨bs, 0, none⟩) l1).trans x1, (hb1.cell (p := ⟨gr, 0, none⟩) l0).trans x0, (hb1.cell (p := ⟨bm, 0, none⟩) l2).trans x2⟩
  clear hK K
  try simp only [Act.put, List.getElem_toArray, List.getElem_cons_succ, List.getElem_cons_zero, List.setIfInBounds_toArray, List.set_cons_zero, List.set_cons_succ]
  refine wpAnyH_take (i := 7) (v := ?_) rfl (by kernel_rfl) (by kernel_rfl) (by kernel_rfl) (fun _ _ _ h => h) (Or.inl ⟨by rfl, ?_⟩) (by assumption) ?_
  rotate_left
  · intro wq hSw; (try dsimp only at hSw); go_simp; (try with_reducible rfl)
  simp only [Act.put, List.getElem_toArray, List.getElem_cons_succ, List.getElem_cons_zero, List.setIfInBounds_toArray, List.set_cons_zero, List.set_cons_succ]
  refine wpAnyH_take (i := 8) (v := ?_) rfl (by kernel_rfl) (by kernel_rfl) (by kernel_rfl) (fun _ _ _ h => h) (Or.inl ⟨by rfl, ?_⟩) (by assumption) ?_
  rotate_left
  · intro wq hSw; (try dsimp only at hSw); go_simp; (try with_reducible rfl)
  simp only [Act.put, List.getElem_toArray, List.getElem_cons_succ, List.getElem_cons_zero, List.setIfInBounds_toArray, List.set_cons_zero, List.set_cons_succ]
  refine wpAnyH_take (i := 9) (v := ?_) rfl (by kernel_rfl) (by kernel_rfl) (by kernel_rfl) (fun _ _ _ h => h) (Or.inl ⟨by rfl, ?_⟩) (by assumption) ?_
  rotate_left
  · intro wq hSw; (try dsimp only at hSw); go_simp; (try with_reducible rfl)
  simp only [Act.put, List.getElem_toArray, List.getElem_cons_succ, List.getElem_cons_zero, List.setIfInBounds_toArray, List.set_cons_zero, List.set_cons_succ]
  refine wpAnyH_take (i := 10) (v := ?_) rfl (by kernel_rfl) (by kernel_rfl) (by kernel_rfl) (fun _ _ _ h => h) (Or.inl ⟨by rfl, ?_⟩) (by assumption) ?_
  rotate_left
  · intro wq hSw; (try dsimp only at hSw); go_simp; (try with_reducible rfl)
  simp only [Act.put, List.getElem_toArray, List.getElem_cons_succ, List.getElem_cons_zero, List.setIfInBounds_toArray, List.set_cons_zero, List.set_cons_succ]
  refine wpAnyH_ready (rs := [11]) (by kernel_rfl) (by simp) ?_
  refine AllReadyH.cons rfl (fun K hK => ?_) AllReadyH.nil
  have hn1 : Blk w1 bt #[u] 9 := HN.out.same (hb1.block _ HN.out.lt)
  have y0 := hn1.free 0
  have y1 : w1.cell? ⟨bt, 0, none⟩ = some u := hn1.cell 0 rfl
  have HK := Lib.hid ((Kept.of_below hb1 (· = bt)).set (p := ⟨bt, 0, none⟩) rfl (.string tb))
  have HB := Lib.hid (hn1.set 0 (.string tb))
  go_simp
  (try go_wp2_with fail)
  refine hK.out _ _ ?_ (fun hHeld => ?_)
  · exact ⟨(World.cell?_setCell_other _ _ _ _ (by intro h; injection h with h _; exact n2 h.symm)).trans hHeld.1, (World.cell?_setCell_other _ _ _ _ (by intro h; injection h with h _; exact n1 h.symm)).trans hHeld.2.1, (World.cell?_setCell_other _ _ _ _ (by intro h; injection h with h _; exact n3 h.symm)).trans hHeld.2.2⟩
  clear hK K
  try simp only [Act.put, List.getElem_toArray, List.getElem_cons_succ, List.getElem_cons_zero, List.setIfInBounds_toArray, List.set_cons_zero, List.set_cons_succ]
  refine wpAnyH_take (i := 12) (v := ?_) rfl (by kernel_rfl) (by kernel_rfl) (by kernel_rfl) (fun _ _ _ h => h) (Or.inl ⟨by rfl, ?_⟩) (by assumption) ?_
  rotate_left
  · intro wq hSw; (try dsimp only at hSw); go_simp; (try with_reducible rfl)
  simp only [Act.put, List.getElem_toArray, List.getElem_cons_succ, List.getElem_cons_zero, List.setIfInBounds_toArray, List.set_cons_zero, List.set_cons_succ]
  refine wpAnyH_take (i := 13) (v := ?_) rfl (by kernel_rfl) (by kernel_rfl) (by kernel_rfl) (fun _ _ _ h => h) (Or.inl ⟨by rfl, ?_⟩) (by assumption) ?_
  rotate_left
  · intro wq hSw; (try dsimp only at hSw); go_simp; (try with_reducible rfl)
  simp only [Act.put, List.getElem_toArray, List.getElem_cons_succ, List.getElem_cons_zero, List.setIfInBounds_toArray, List.set_cons_zero, List.set_cons_succ]
  refine wpAnyH_done (by kernel_rfl) ?_ _
  clear hHeld
  go_wp2_with fail
  go_ret2
  exact ⟨rfl, HB.out, HK.out⟩

end Go.Proofs.Ytklgggolkclebaa
