/-
  telemeterlaw03.Item of a span: its attributes are a row of the call's own. No condition.
-/
import Derived.Test.YtfmdjopcpbcajaaItemArg
import Derived.Test.YtfmdjopcpbcajaaItemItem
import Derived.Laws.OwnMore
namespace Go.Proofs.Ytfmdjopcpbcajaa
open Go.RowKit Go.Proofs.NumMath Go.Proofs.ItemMath

theorem lower_own {W : World} {b b' n : Nat} {v : Value} {xs : List Value} {e : TypeId} (h : W.ownsRow b e 2 v n xs) (hb : b' ≤ b) : W.ownsRow b' e 2 v n xs := by
  refine ⟨h.1, ?_⟩
  rcases h.2 with hv | ⟨g, c, cur, hv, hg, r⟩
  · exact Or.inl hv
  · exact Or.inr ⟨g, c, cur, hv, Nat.le_trans hb hg, r⟩


set_option linter.unusedSimpArgs false in
set_option linter.unusedVariables false in
set_option maxRecDepth 100000 in
set_option maxHeartbeats 4000000 in
theorem ownm_none (A : Option Addr) (cs : List UInt8) (len cap : Nat) (w : World) (hlen : cs.length = len) (hl : len ≤ cap) (hcap : cap ≤ 9223372036854775807) (hr : Holds8 w.heap.size w A cs) (h0 : len = 0) :
    Calls Try.prog 15 #[.slice A len cap] w fun e w' => ∃ A' n' c', e = .returned (.agg #[.int .u8 1, .int .u64 ((spanOf cs).hi : Int), .int .u64 ((spanOf cs).lo : Int), .int .u64 ((spanOf cs).id : Int), .int .u64 ((spanOf cs).par : Int), .string (spanOf cs).name, .int .i64 (spanOf cs).start, .int .i64 (spanOf cs).stop, .bool (spanOf cs).bad, .slice A' n' c', .int .u64 ((spanOf cs).rv : Int), .string ⟨#[]⟩, .int .u64 0, .int .i64 0, .string ⟨#[]⟩]) ∧ n' = (spanOf cs).attrs.length ∧ w'.ownsRow w.heap.size 36 2 (.slice A' n' c') n' (aCells (spanOf cs).attrs) ∧ Below w.heap.size w w' := by
  have hS := fun (W : World) (h : Below w.heap.size w W) => span_any A cs len cap W hlen (hr.later h)
  have d0 : decide ((0 : Int) < (len : Int)) = false := by simp; omega
  have d0n : decide (0 < len) = false := by simp; omega
  clear h0
  have hsz := (fun a ha => ((right_parts (spanOf_right cs)).2.2.2.2.2.2.2 a ha).2 : ∀ a ∈ (spanOf cs).attrs, a.1.size ≤ 60 ∧ a.2.size ≤ 60)
  obtain ⟨sp, hsp⟩ : ∃ sp, spanOf cs = sp := ⟨_, rfl⟩
  rw [hsp] at hS hsz ⊢
  obtain ⟨hi, lo, id, par, name, start, stop, bad, l, rv⟩ := sp
  dsimp only at hS hsz ⊢
  unfold spCells at hS
  have HS := Lib.hid hS
  have HZ := Lib.hid hsz
  have hbX : Below w.heap.size w (w.alloc (.cells #[.int .u8 0, .int .u64 0, .int .u64 0, .int .u64 0, .int .u64 0, .string ⟨#[]⟩, .int .i64 0, .int .i64 0, .bool false, .slice none 0 0, .int .u64 0, .string ⟨#[]⟩, .int .u64 0, .int .i64 0, .string ⟨#[]⟩] 38)) := (Below.refl _ w).alloc (Nat.le_refl _) _
  have HBX := Lib.hid hbX
  have HR0 : Hid (Blk (w.alloc (.cells #[.int .u8 0, .int .u64 0, .int .u64 0, .int .u64 0, .int .u64 0, .string ⟨#[]⟩, .int .i64 0, .int .i64 0, .bool false, .slice none 0 0, .int .u64 0, .string ⟨#[]⟩, .int .u64 0, .int .i64 0, .string ⟨#[]⟩] 38)) w.heap.size #[.int .u8 0, .int .u64 0, .int .u64 0, .int .u64 0, .int .u64 0, .string ⟨#[]⟩, .int .i64 0, .int .i64 0, .bool false, .slice none 0 0, .int .u64 0, .string ⟨#[]⟩, .int .u64 0, .int .i64 0, .string ⟨#[]⟩] 38) := Lib.hid (blk_new _ _ _)
  clear hS hsz hsp hr hlen hbX
  go_enter Try.func15, Try.ntmps15
  go_wp2_with fail
  refine (HS.out _ HBX.out).mono ?_
  rintro e w1 ⟨A1, n1, c1, rfl, hn1, hown, hb1⟩
  have HRS : Hid (Blk w1 w.heap.size #[.int .u8 0, .int .u64 0, .int .u64 0, .int .u64 0, .int .u64 0, .string ⟨#[]⟩, .int .i64 0, .int .i64 0, .bool false, .slice none 0 0, .int .u64 0, .string ⟨#[]⟩, .int .u64 0, .int .i64 0, .string ⟨#[]⟩] 38) := Lib.hid (HR0.out.same (hb1.block _ HR0.out.lt))
  have HB1 := Lib.hid (HBX.out.trans (hb1.mono HBX.out.size))
  have hne : (Value.slice A1 n1 c1).ownBlock ≠ some w.heap.size := fun h => by
    rcases hown.2 with ⟨e, _⟩ | ⟨g, _, _, e, hg, _⟩
    · rw [e] at h; simp [Value.ownBlock] at h
    · rw [e] at h; simp [Value.ownBlock] at h; rw [World.size_alloc] at hg; omega
  have HOW := Lib.hid hown
  have HN1 := Lib.hid hn1
  clear hb1 hn1 hown
  have r0 : w1.cell? ⟨w.heap.size, 0, none⟩ = some (.int .u8 0) := HRS.out.cell 0 rfl
  have f0 := HRS.out.free 0
  have r1 : w1.cell? ⟨w.heap.size, 1, none⟩ = some (.int .u64 0) := HRS.out.cell 1 rfl
  have f1 := HRS.out.free 1
  have r2 : w1.cell? ⟨w.heap.size, 2, none⟩ = some (.int .u64 0) := HRS.out.cell 2 rfl
  have f2 := HRS.out.free 2
  have r3 : w1.cell? ⟨w.heap.size, 3, none⟩ = some (.int .u64 0) := HRS.out.cell 3 rfl
  have f3 := HRS.out.free 3
  have r4 : w1.cell? ⟨w.heap.size, 4, none⟩ = some (.int .u64 0) := HRS.out.cell 4 rfl
  have f4 := HRS.out.free 4
  have r5 : w1.cell? ⟨w.heap.size, 5, none⟩ = some (.string ⟨#[]⟩) := HRS.out.cell 5 rfl
  have f5 := HRS.out.free 5
  have r6 : w1.cell? ⟨w.heap.size, 6, none⟩ = some (.int .i64 0) := HRS.out.cell 6 rfl
  have f6 := HRS.out.free 6
  have r7 : w1.cell? ⟨w.heap.size, 7, none⟩ = some (.int .i64 0) := HRS.out.cell 7 rfl
  have f7 := HRS.out.free 7
  have r8 : w1.cell? ⟨w.heap.size, 8, none⟩ = some (.bool false) := HRS.out.cell 8 rfl
  have f8 := HRS.out.free 8
  have r9 : w1.cell? ⟨w.heap.size, 9, none⟩ = some (.slice none 0 0) := HRS.out.cell 9 rfl
  have f9 := HRS.out.free 9
  have r10 : w1.cell? ⟨w.heap.size, 10, none⟩ = some (.int .u64 0) := HRS.out.cell 10 rfl
  have f10 := HRS.out.free 10
  have r11 : w1.cell? ⟨w.heap.size, 11, none⟩ = some (.string ⟨#[]⟩) := HRS.out.cell 11 rfl
  have f11 := HRS.out.free 11
  have r12 : w1.cell? ⟨w.heap.size, 12, none⟩ = some (.int .u64 0) := HRS.out.cell 12 rfl
  have f12 := HRS.out.free 12
  have r13 : w1.cell? ⟨w.heap.size, 13, none⟩ = some (.int .i64 0) := HRS.out.cell 13 rfl
  have f13 := HRS.out.free 13
  have r14 : w1.cell? ⟨w.heap.size, 14, none⟩ = some (.string ⟨#[]⟩) := HRS.out.cell 14 rfl
  have f14 := HRS.out.free 14
  go_wp2_with fail
  exact bodyPost_ret (v := .agg #[.int .u8 1, .int .u64 (hi : Int), .int .u64 (lo : Int), .int .u64 (id : Int), .int .u64 (par : Int), .string name, .int .i64 start, .int .i64 stop, .bool bad, .slice A1 n1 c1, .int .u64 (rv : Int), .string ⟨#[]⟩, .int .u64 0, .int .i64 0, .string ⟨#[]⟩]) (by simp [results, Try.results15, go_sem, r0, r1, r2, r3, r4, r5, r6, r7, r8, r9, r10, r11, r12, r13, r14]) rfl ⟨A1, n1, c1, rfl, HN1.out, lower_own (ownsRow_setCell_other (ownsRow_setCell_other (ownsRow_setCell_other (ownsRow_setCell_other (ownsRow_setCell_other (ownsRow_setCell_other (ownsRow_setCell_other (ownsRow_setCell_other (ownsRow_setCell_other (ownsRow_setCell_other (ownsRow_setCell_other (ownsRow_setCell_other (ownsRow_setCell_other (ownsRow_setCell_other (ownsRow_setCell_other HOW.out (a := ⟨w.heap.size, 0, none⟩) hne _) (a := ⟨w.heap.size, 1, none⟩) hne _) (a := ⟨w.heap.size, 2, none⟩) hne _) (a := ⟨w.heap.size, 3, none⟩) hne _) (a := ⟨w.heap.size, 4, none⟩) hne _) (a := ⟨w.heap.size, 5, none⟩) hne _) (a := ⟨w.heap.size, 6, none⟩) hne _) (a := ⟨w.heap.size, 7, none⟩) hne _) (a := ⟨w.heap.size, 8, none⟩) hne _) (a := ⟨w.heap.size, 9, none⟩) hne _) (a := ⟨w.heap.size, 10, none⟩) hne _) (a := ⟨w.heap.size, 11, none⟩) hne _) (a := ⟨w.heap.size, 12, none⟩) hne _) (a := ⟨w.heap.size, 13, none⟩) hne _) (a := ⟨w.heap.size, 14, none⟩) hne _) (by simp), (((((((((((((((HB1.out.setCell (p := ⟨w.heap.size, 0, none⟩) (Nat.le_refl _) _).setCell (p := ⟨w.heap.size, 1, none⟩) (Nat.le_refl _) _).setCell (p := ⟨w.heap.size, 2, none⟩) (Nat.le_refl _) _).setCell (p := ⟨w.heap.size, 3, none⟩) (Nat.le_refl _) _).setCell (p := ⟨w.heap.size, 4, none⟩) (Nat.le_refl _) _).setCell (p := ⟨w.heap.size, 5, none⟩) (Nat.le_refl _) _).setCell (p := ⟨w.heap.size, 6, none⟩) (Nat.le_refl _) _).setCell (p := ⟨w.heap.size, 7, none⟩) (Nat.le_refl _) _).setCell (p := ⟨w.heap.size, 8, none⟩) (Nat.le_refl _) _).setCell (p := ⟨w.heap.size, 9, none⟩) (Nat.le_refl _) _).setCell (p := ⟨w.heap.size, 10, none⟩) (Nat.le_refl _) _).setCell (p := ⟨w.heap.size, 11, none⟩) (Nat.le_refl _) _).setCell (p := ⟨w.heap.size, 12, none⟩) (Nat.le_refl _) _).setCell (p := ⟨w.heap.size, 13, none⟩) (Nat.le_refl _) _).setCell (p := ⟨w.heap.size, 14, none⟩) (Nat.le_refl _) _)⟩

set_option linter.unusedSimpArgs false in
set_option linter.unusedVariables false in
set_option maxRecDepth 100000 in
set_option maxHeartbeats 4000000 in
theorem ownm_some (A : Option Addr) (cs : List UInt8) (len cap : Nat) (w : World) (hlen : cs.length = len) (hl : len ≤ cap) (hcap : cap ≤ 9223372036854775807) (hr : Holds8 w.heap.size w A cs) (hpos : 0 < len) (h3 : at8 cs 0 % 3 ≠ 0) :
    Calls Try.prog 15 #[.slice A len cap] w fun e w' => ∃ A' n' c', e = .returned (.agg #[.int .u8 1, .int .u64 ((spanOf cs).hi : Int), .int .u64 ((spanOf cs).lo : Int), .int .u64 ((spanOf cs).id : Int), .int .u64 ((spanOf cs).par : Int), .string (spanOf cs).name, .int .i64 (spanOf cs).start, .int .i64 (spanOf cs).stop, .bool (spanOf cs).bad, .slice A' n' c', .int .u64 ((spanOf cs).rv : Int), .string ⟨#[]⟩, .int .u64 0, .int .i64 0, .string ⟨#[]⟩]) ∧ n' = (spanOf cs).attrs.length ∧ w'.ownsRow w.heap.size 36 2 (.slice A' n' c') n' (aCells (spanOf cs).attrs) ∧ Below w.heap.size w w' := by
  have hS := fun (W : World) (h : Below w.heap.size w W) => span_any A cs len cap W hlen (hr.later h)
  obtain ⟨b, off, rfl, hbl, hcell⟩ := hr (by omega)
  have x0 := hcell 0 (by omega)
  unfold Go.Proofs.Ytfmdjopcpbcajaa.b8 at x0
  have hx : (cs.getD 0 0).toNat = at8 cs 0 := rfl
  rw [hx, Nat.add_zero] at x0
  have l0 := at8_lt cs 0
  obtain ⟨x, hxq⟩ : ∃ x, at8 cs 0 = x := ⟨_, rfl⟩
  rw [hxq] at x0 l0 h3
  obtain ⟨y, hy⟩ : ∃ y, x % 3 = y := ⟨_, rfl⟩
  have t0 : (x : Int).tmod 3 = (y : Int) := by rw [Int.tmod_eq_emod_of_nonneg (by omega)]; omega
  have t1 : ((y : Int) == 0) = false := by simp; omega
  have d0 : decide ((0 : Int) < (len : Int)) = true := by simp; omega
  have d0n : decide (0 < len) = true := by simp; omega
  clear hy hxq hx hcell
  have hsz := (fun a ha => ((right_parts (spanOf_right cs)).2.2.2.2.2.2.2 a ha).2 : ∀ a ∈ (spanOf cs).attrs, a.1.size ≤ 60 ∧ a.2.size ≤ 60)
  obtain ⟨sp, hsp⟩ : ∃ sp, spanOf cs = sp := ⟨_, rfl⟩
  rw [hsp] at hS hsz ⊢
  obtain ⟨hi, lo, id, par, name, start, stop, bad, l, rv⟩ := sp
  dsimp only at hS hsz ⊢
  unfold spCells at hS
  have HS := Lib.hid hS
  have HZ := Lib.hid hsz
  have hbX : Below w.heap.size w (w.alloc (.cells #[.int .u8 0, .int .u64 0, .int .u64 0, .int .u64 0, .int .u64 0, .string ⟨#[]⟩, .int .i64 0, .int .i64 0, .bool false, .slice none 0 0, .int .u64 0, .string ⟨#[]⟩, .int .u64 0, .int .i64 0, .string ⟨#[]⟩] 38)) := (Below.refl _ w).alloc (Nat.le_refl _) _
  have HBX := Lib.hid hbX
  have HR0 : Hid (Blk (w.alloc (.cells #[.int .u8 0, .int .u64 0, .int .u64 0, .int .u64 0, .int .u64 0, .string ⟨#[]⟩, .int .i64 0, .int .i64 0, .bool false, .slice none 0 0, .int .u64 0, .string ⟨#[]⟩, .int .u64 0, .int .i64 0, .string ⟨#[]⟩] 38)) w.heap.size #[.int .u8 0, .int .u64 0, .int .u64 0, .int .u64 0, .int .u64 0, .string ⟨#[]⟩, .int .i64 0, .int .i64 0, .bool false, .slice none 0 0, .int .u64 0, .string ⟨#[]⟩, .int .u64 0, .int .i64 0, .string ⟨#[]⟩] 38) := Lib.hid (blk_new _ _ _)
  clear hS hsz hsp hr hlen hbX
  go_enter Try.func15, Try.ntmps15
  go_wp2_with fail
  refine (HS.out _ HBX.out).mono ?_
  rintro e w1 ⟨A1, n1, c1, rfl, hn1, hown, hb1⟩
  have HRS : Hid (Blk w1 w.heap.size #[.int .u8 0, .int .u64 0, .int .u64 0, .int .u64 0, .int .u64 0, .string ⟨#[]⟩, .int .i64 0, .int .i64 0, .bool false, .slice none 0 0, .int .u64 0, .string ⟨#[]⟩, .int .u64 0, .int .i64 0, .string ⟨#[]⟩] 38) := Lib.hid (HR0.out.same (hb1.block _ HR0.out.lt))
  have HB1 := Lib.hid (HBX.out.trans (hb1.mono HBX.out.size))
  have hne : (Value.slice A1 n1 c1).ownBlock ≠ some w.heap.size := fun h => by
    rcases hown.2 with ⟨e, _⟩ | ⟨g, _, _, e, hg, _⟩
    · rw [e] at h; simp [Value.ownBlock] at h
    · rw [e] at h; simp [Value.ownBlock] at h; rw [World.size_alloc] at hg; omega
  have HOW := Lib.hid hown
  have HN1 := Lib.hid hn1
  clear hb1 hn1 hown
  have r0 : w1.cell? ⟨w.heap.size, 0, none⟩ = some (.int .u8 0) := HRS.out.cell 0 rfl
  have f0 := HRS.out.free 0
  have r1 : w1.cell? ⟨w.heap.size, 1, none⟩ = some (.int .u64 0) := HRS.out.cell 1 rfl
  have f1 := HRS.out.free 1
  have r2 : w1.cell? ⟨w.heap.size, 2, none⟩ = some (.int .u64 0) := HRS.out.cell 2 rfl
  have f2 := HRS.out.free 2
  have r3 : w1.cell? ⟨w.heap.size, 3, none⟩ = some (.int .u64 0) := HRS.out.cell 3 rfl
  have f3 := HRS.out.free 3
  have r4 : w1.cell? ⟨w.heap.size, 4, none⟩ = some (.int .u64 0) := HRS.out.cell 4 rfl
  have f4 := HRS.out.free 4
  have r5 : w1.cell? ⟨w.heap.size, 5, none⟩ = some (.string ⟨#[]⟩) := HRS.out.cell 5 rfl
  have f5 := HRS.out.free 5
  have r6 : w1.cell? ⟨w.heap.size, 6, none⟩ = some (.int .i64 0) := HRS.out.cell 6 rfl
  have f6 := HRS.out.free 6
  have r7 : w1.cell? ⟨w.heap.size, 7, none⟩ = some (.int .i64 0) := HRS.out.cell 7 rfl
  have f7 := HRS.out.free 7
  have r8 : w1.cell? ⟨w.heap.size, 8, none⟩ = some (.bool false) := HRS.out.cell 8 rfl
  have f8 := HRS.out.free 8
  have r9 : w1.cell? ⟨w.heap.size, 9, none⟩ = some (.slice none 0 0) := HRS.out.cell 9 rfl
  have f9 := HRS.out.free 9
  have r10 : w1.cell? ⟨w.heap.size, 10, none⟩ = some (.int .u64 0) := HRS.out.cell 10 rfl
  have f10 := HRS.out.free 10
  have r11 : w1.cell? ⟨w.heap.size, 11, none⟩ = some (.string ⟨#[]⟩) := HRS.out.cell 11 rfl
  have f11 := HRS.out.free 11
  have r12 : w1.cell? ⟨w.heap.size, 12, none⟩ = some (.int .u64 0) := HRS.out.cell 12 rfl
  have f12 := HRS.out.free 12
  have r13 : w1.cell? ⟨w.heap.size, 13, none⟩ = some (.int .i64 0) := HRS.out.cell 13 rfl
  have f13 := HRS.out.free 13
  have r14 : w1.cell? ⟨w.heap.size, 14, none⟩ = some (.string ⟨#[]⟩) := HRS.out.cell 14 rfl
  have f14 := HRS.out.free 14
  go_wp2_with fail
  exact bodyPost_ret (v := .agg #[.int .u8 1, .int .u64 (hi : Int), .int .u64 (lo : Int), .int .u64 (id : Int), .int .u64 (par : Int), .string name, .int .i64 start, .int .i64 stop, .bool bad, .slice A1 n1 c1, .int .u64 (rv : Int), .string ⟨#[]⟩, .int .u64 0, .int .i64 0, .string ⟨#[]⟩]) (by simp [results, Try.results15, go_sem, r0, r1, r2, r3, r4, r5, r6, r7, r8, r9, r10, r11, r12, r13, r14]) rfl ⟨A1, n1, c1, rfl, HN1.out, lower_own (ownsRow_setCell_other (ownsRow_setCell_other (ownsRow_setCell_other (ownsRow_setCell_other (ownsRow_setCell_other (ownsRow_setCell_other (ownsRow_setCell_other (ownsRow_setCell_other (ownsRow_setCell_other (ownsRow_setCell_other (ownsRow_setCell_other (ownsRow_setCell_other (ownsRow_setCell_other (ownsRow_setCell_other (ownsRow_setCell_other HOW.out (a := ⟨w.heap.size, 0, none⟩) hne _) (a := ⟨w.heap.size, 1, none⟩) hne _) (a := ⟨w.heap.size, 2, none⟩) hne _) (a := ⟨w.heap.size, 3, none⟩) hne _) (a := ⟨w.heap.size, 4, none⟩) hne _) (a := ⟨w.heap.size, 5, none⟩) hne _) (a := ⟨w.heap.size, 6, none⟩) hne _) (a := ⟨w.heap.size, 7, none⟩) hne _) (a := ⟨w.heap.size, 8, none⟩) hne _) (a := ⟨w.heap.size, 9, none⟩) hne _) (a := ⟨w.heap.size, 10, none⟩) hne _) (a := ⟨w.heap.size, 11, none⟩) hne _) (a := ⟨w.heap.size, 12, none⟩) hne _) (a := ⟨w.heap.size, 13, none⟩) hne _) (a := ⟨w.heap.size, 14, none⟩) hne _) (by simp), (((((((((((((((HB1.out.setCell (p := ⟨w.heap.size, 0, none⟩) (Nat.le_refl _) _).setCell (p := ⟨w.heap.size, 1, none⟩) (Nat.le_refl _) _).setCell (p := ⟨w.heap.size, 2, none⟩) (Nat.le_refl _) _).setCell (p := ⟨w.heap.size, 3, none⟩) (Nat.le_refl _) _).setCell (p := ⟨w.heap.size, 4, none⟩) (Nat.le_refl _) _).setCell (p := ⟨w.heap.size, 5, none⟩) (Nat.le_refl _) _).setCell (p := ⟨w.heap.size, 6, none⟩) (Nat.le_refl _) _).setCell (p := ⟨w.heap.size, 7, none⟩) (Nat.le_refl _) _).setCell (p := ⟨w.heap.size, 8, none⟩) (Nat.le_refl _) _).setCell (p := ⟨w.heap.size, 9, none⟩) (Nat.le_refl _) _).setCell (p := ⟨w.heap.size, 10, none⟩) (Nat.le_refl _) _).setCell (p := ⟨w.heap.size, 11, none⟩) (Nat.le_refl _) _).setCell (p := ⟨w.heap.size, 12, none⟩) (Nat.le_refl _) _).setCell (p := ⟨w.heap.size, 13, none⟩) (Nat.le_refl _) _).setCell (p := ⟨w.heap.size, 14, none⟩) (Nat.le_refl _) _)⟩

theorem ownm_span (A : Option Addr) (cs : List UInt8) (len cap : Nat) (w : World) (hlen : cs.length = len) (hl : len ≤ cap) (hcap : cap ≤ 9223372036854775807) (hr : Holds8 w.heap.size w A cs) (hlog : isLog cs = false) :
    Calls Try.prog 15 #[.slice A len cap] w fun e w' => ∃ A' n' c', e = .returned (.agg #[.int .u8 1, .int .u64 ((spanOf cs).hi : Int), .int .u64 ((spanOf cs).lo : Int), .int .u64 ((spanOf cs).id : Int), .int .u64 ((spanOf cs).par : Int), .string (spanOf cs).name, .int .i64 (spanOf cs).start, .int .i64 (spanOf cs).stop, .bool (spanOf cs).bad, .slice A' n' c', .int .u64 ((spanOf cs).rv : Int), .string ⟨#[]⟩, .int .u64 0, .int .i64 0, .string ⟨#[]⟩]) ∧ n' = (spanOf cs).attrs.length ∧ w'.ownsRow w.heap.size 36 2 (.slice A' n' c') n' (aCells (spanOf cs).attrs) ∧ Below w.heap.size w w' := by
  by_cases h0 : len = 0
  · exact ownm_none A cs len cap w hlen hl hcap hr h0
  · refine ownm_some A cs len cap w hlen hl hcap hr (by omega) (fun h => ?_)
    unfold isLog at hlog
    rw [decide_eq_true (by omega), decide_eq_true h] at hlog
    cases hlog

theorem holdsA_own {W : World} {base n c : Nat} {A : Option Addr} {l : List Attr} (h : W.ownsRow base 36 2 (.slice A n c) n (aCells l)) (hn : n = l.length) (hall : ∀ a ∈ l, a.1.size ≤ 100 ∧ a.2.size ≤ 100) : HoldsA W.heap.size W A l := fun h0 => by
  rcases h.2 with ⟨hv, hz⟩ | ⟨g, cap, cur, hv, hb, hg, _⟩
  · omega
  · injection hv with e1 e2 e3
    subst e1
    refine ⟨g, 0, rfl, lt_of_block hg, fun j hj => ?_⟩
    obtain ⟨h1, h2⟩ := aCells_get l j hj
    have hl := aCells_len l
    have c1 := h.cellAt (j * 2) (by omega)
    have c2 := h.cellAt (j * 2 + 1) (by omega)
    have hm := hall (l.getD j (none8, none8)) (by simp [List.getD_eq_getElem?_getD, hj])
    refine ⟨?_, ?_, by omega, by omega⟩
    · rw [Nat.zero_add, ← h1]; exact c1
    · rw [Nat.zero_add, ← h2]; exact c2

/-- An item of choices: typed, its attributes a row of the call's own. -/
def MadeOwn (W : World) (e : Ending) (W' : World) : Prop :=
  ∃ (k hi lo id par rv weight : Nat) (name key body : ByteArray) (start stop at_ : Int) (bad : Bool) (A : Option Addr) (l : List Attr) (n c : Nat),
    e = .returned (.agg #[.int .u8 (k : Int), .int .u64 (hi : Int), .int .u64 (lo : Int), .int .u64 (id : Int), .int .u64 (par : Int), .string name, .int .i64 start, .int .i64 stop, .bool bad, .slice A n c, .int .u64 (rv : Int), .string key, .int .u64 (weight : Int), .int .i64 at_, .string body]) ∧
      (k < 256 ∧ hi < 18446744073709551616 ∧ lo < 18446744073709551616 ∧ id < 18446744073709551616 ∧ par < 18446744073709551616) ∧ name.size ≤ 9223372036854775807 ∧ key.size ≤ 9223372036854775807 ∧ body.size ≤ 9223372036854775807 ∧
      n = l.length ∧ n ≤ 8 ∧ (∀ a ∈ l, a.1.size ≤ 100 ∧ a.2.size ≤ 100) ∧ W'.ownsRow W.heap.size 36 2 (.slice A n c) n (aCells l) ∧ Below W.heap.size W W'
theorem madeOwn_any (A : Option Addr) (cs : List UInt8) (len cap : Nat) (w : World) (hlen : cs.length = len) (hl : len ≤ cap) (hcap : cap ≤ 9223372036854775807) (hr : Holds8 w.heap.size w A cs) :
    Calls Try.prog 15 #[.slice A len cap] w (MadeOwn w) := by
  cases hk : isLog cs with
  | true =>
    have hD := item_log A cs len cap w hlen hl hcap hr hk
    have hright := logOf_right (cs.drop 1)
    generalize logOf (cs.drop 1) = l at hD hright
    obtain ⟨key, weight, a, body⟩ := l
    dsimp only at hD
    refine hD.mono fun e W' ⟨he, hb⟩ => ?_
    obtain ⟨p1, p2, p3, p4, p5, p6⟩ := rightLog_parts hright
    dsimp only at p1 p2 p3 p4 p5 p6
    exact ⟨2, 0, 0, 0, 0, 0, weight, ⟨#[]⟩, key, body, 0, 0, a, false, none, [], 0, 0, he, by omega, Nat.zero_le _, by omega, by omega, rfl, by omega, by simp, World.ownsRow_nil _ _ _ _, hb⟩
  | false =>
    have hD := ownm_span A cs len cap w hlen hl hcap hr hk
    have hright := right_parts (spanOf_right cs)
    obtain ⟨f1, f2, f3, f4, _⟩ := spanOf_fits cs
    generalize spanOf cs = l at hD hright f1 f2 f3 f4
    obtain ⟨hi, lo, id, par, name, start, stop, bad, al, rv⟩ := l
    dsimp only at hD f1 f2 f3 f4 hright
    obtain ⟨p1, p2, p3, p4, p5, p6, p7, p8⟩ := hright
    refine hD.mono fun e W' ⟨A', n', c', he, hn, hA, hb⟩ => ?_
    exact ⟨1, hi, lo, id, par, rv, 0, name, ⟨#[]⟩, ⟨#[]⟩, start, stop, 0, bad, A', al, n', c', he, by omega, by omega, Nat.zero_le _, Nat.zero_le _, hn, by omega, fun a ha => by have := (p8 a ha).2; omega, hA, hb⟩

end Go.Proofs.Ytfmdjopcpbcajaa
