/-
  What telemeterlaw03.Item does, at every choice. No condition.
-/
import Derived.Test.YtklgggolkclebaaItemOf
namespace Go.Proofs.Ytklgggolkclebaa
open Go.RowKit Go.Proofs.NumMath Go.Proofs.ItemMath

/-- Is it a log? -/
def isLog (cs : List UInt8) : Bool := decide (0 < cs.length) && decide (at8 cs 0 % 3 = 0)

set_option linter.unusedSimpArgs false in
set_option linter.unusedVariables false in
set_option maxRecDepth 100000 in
set_option maxHeartbeats 4000000 in
theorem item_log (A : Option Addr) (cs : List UInt8) (len cap : Nat) (w : World) (hlen : cs.length = len) (hl : len ≤ cap) (hcap : cap ≤ 9223372036854775807) (hr : Holds8 w.heap.size w A cs) (hlog : isLog cs = true) :
    Calls Try.prog 15 #[.slice A len cap] w fun e w' => e = .returned (.agg #[.int .u8 2, .int .u64 0, .int .u64 0, .int .u64 0, .int .u64 0, .string ⟨#[]⟩, .int .i64 0, .int .i64 0, .bool false, .slice none 0 0, .int .u64 0, .string (logOf (cs.drop 1)).key, .int .u64 ((logOf (cs.drop 1)).weight : Int), .int .i64 (logOf (cs.drop 1)).at_, .string (logOf (cs.drop 1)).body]) ∧ Below w.heap.size w w' := by
  unfold isLog at hlog
  simp only [Bool.and_eq_true, decide_eq_true_eq] at hlog
  obtain ⟨h0, h3⟩ := hlog
  have hpos : 0 < len := by omega
  obtain ⟨A1, hsl0, hA1⟩ := cut_run A len cap 1 (by omega) hl
  have hsl : ∀ W : World, (Instr.slice 22 (.slice A len cap) (some (.int .i64 1)) none none).run Try.prog W = .ok (.slice A1 (len - 1) (cap - 1)) W := hsl0
  obtain ⟨b, off, rfl, hbl, hcell⟩ := hr h0
  have x0 := hcell 0 h0
  unfold Go.Proofs.Ytklgggolkclebaa.b8 at x0
  have hx : (cs.getD 0 0).toNat = at8 cs 0 := rfl
  rw [hx, Nat.add_zero] at x0
  have l0 := at8_lt cs 0
  obtain ⟨x, hxq⟩ : ∃ x, at8 cs 0 = x := ⟨_, rfl⟩
  rw [hxq] at x0 l0 h3
  have t0 : (x : Int).tmod 3 = 0 := by rw [Int.tmod_eq_emod_of_nonneg (by omega)]; omega
  have d0 : decide ((0 : Int) < (len : Int)) = true := by simp; omega
  have d0n : decide (0 < len) = true := by simp; omega
  have hdl : (cs.drop 1).length = len - 1 := by simp; omega
  have hH : Holds8 w.heap.size w A1 (cs.drop 1) := fun hp => by
    rw [hdl] at hp
    refine ⟨b, off + 1, hA1 (by omega) b off rfl, hbl, fun j hj => ?_⟩
    rw [hdl] at hj
    have h := hcell (1 + j) (by omega)
    rw [← Nat.add_assoc] at h
    rw [h]
    simp [List.getD_eq_getElem?_getD, Nat.add_comm 1 j]
  have hG := fun (W : World) (h : Below w.heap.size w W) => log_any A1 (cs.drop 1) (len - 1) (cap - 1) W hdl (hH.later h)
  have hlq : logOf (cs.drop 1) = ⟨nameOf (at8 (cs.drop 1) 0), at8 (cs.drop 1) 1 + 1, (at8 (cs.drop 1) 2 : Int), bodyOf (at8 (cs.drop 1) 3)⟩ := rfl
  rw [hlq]
  dsimp only
  obtain ⟨key, hkey⟩ : ∃ key, nameOf (at8 (cs.drop 1) 0) = key := ⟨_, rfl⟩
  obtain ⟨weight, hweight⟩ : ∃ n, at8 (cs.drop 1) 1 + 1 = n := ⟨_, rfl⟩
  obtain ⟨a, ha⟩ : ∃ a : Int, (at8 (cs.drop 1) 2 : Int) = a := ⟨_, rfl⟩
  obtain ⟨body, hbody⟩ : ∃ s, bodyOf (at8 (cs.drop 1) 3) = s := ⟨_, rfl⟩
  rw [hkey, hweight, ha, hbody] at hG ⊢
  unfold lgCells at hG
  obtain ⟨m, hm⟩ : ∃ m, len - 1 = m := ⟨_, rfl⟩
  obtain ⟨c, hc⟩ : ∃ c, cap - 1 = c := ⟨_, rfl⟩
  rw [hm, hc] at hsl hG
  have HG := Lib.hid hG
  have hbX : Below w.heap.size w (w.alloc (.cells #[.int .u8 0, .int .u64 0, .int .u64 0, .int .u64 0, .int .u64 0, .string ⟨#[]⟩, .int .i64 0, .int .i64 0, .bool false, .slice none 0 0, .int .u64 0, .string ⟨#[]⟩, .int .u64 0, .int .i64 0, .string ⟨#[]⟩] 38)) := (Below.refl _ w).alloc (Nat.le_refl _) _
  have HBX := Lib.hid hbX
  have HR0 : Hid (Blk (w.alloc (.cells #[.int .u8 0, .int .u64 0, .int .u64 0, .int .u64 0, .int .u64 0, .string ⟨#[]⟩, .int .i64 0, .int .i64 0, .bool false, .slice none 0 0, .int .u64 0, .string ⟨#[]⟩, .int .u64 0, .int .i64 0, .string ⟨#[]⟩] 38)) w.heap.size #[.int .u8 0, .int .u64 0, .int .u64 0, .int .u64 0, .int .u64 0, .string ⟨#[]⟩, .int .i64 0, .int .i64 0, .bool false, .slice none 0 0, .int .u64 0, .string ⟨#[]⟩, .int .u64 0, .int .i64 0, .string ⟨#[]⟩] 38) := Lib.hid (blk_new _ _ _)
  clear hG hH hdl hlq hkey hweight ha hbody hm hc hsl0 hA1 hcell hxq hx hr hlen hbX
  go_enter Try.func15, Try.ntmps15
  go_wp2_with fail
  refine (HG.out _ HBX.out).mono ?_
  rintro e w1 ⟨rfl, hb1⟩
  have HRS : Hid (Blk w1 w.heap.size #[.int .u8 0, .int .u64 0, .int .u64 0, .int .u64 0, .int .u64 0, .string ⟨#[]⟩, .int .i64 0, .int .i64 0, .bool false, .slice none 0 0, .int .u64 0, .string ⟨#[]⟩, .int .u64 0, .int .i64 0, .string ⟨#[]⟩] 38) := Lib.hid (HR0.out.same (hb1.block _ HR0.out.lt))
  have HB1 := Lib.hid (HBX.out.trans (hb1.mono HBX.out.size))
  clear hb1
  have r0 : w1.cell? ⟨w.heap.size, 0, none⟩ = some (.int .u8 0) := HRS.out.cell 0 rfl
  have f0 := HRS.out.free 0
  have r1 : w1.cell? ⟨w.heap.size, 1, none⟩ = some (.int .u64 0) := HRS.out.cell 1 rfl
  have f1 := HRS.out.free 1
  have r2 : w1.cell? ⟨w.heap.size, 2, none⟩ = some (.int .u64 0) := HRS.out.cell 2 rfl
  have f2 := HRS.out.free 2
  have r3 : w1.cell? ⟨w.heap.size, 3, none⟩ = some (.int .u64 0) := HRS.out.cell 3 rfl
  have f3 := HRS.out.free 3
  have r4 : w1.cell? ⟨w.heap.size, 4, none⟩ = some (.int .u64 0) := HRS.out.cell 4 rfl
  have f4 := HRS.out.free 4
  have r5 : w1.cell? ⟨w.heap.size, 5, none⟩ = some (.string ⟨#[]⟩) := HRS.out.cell 5 rfl
  have f5 := HRS.out.free 5
  have r6 : w1.cell? ⟨w.heap.size, 6, none⟩ = some (.int .i64 0) := HRS.out.cell 6 rfl
  have f6 := HRS.out.free 6
  have r7 : w1.cell? ⟨w.heap.size, 7, none⟩ = some (.int .i64 0) := HRS.out.cell 7 rfl
  have f7 := HRS.out.free 7
  have r8 : w1.cell? ⟨w.heap.size, 8, none⟩ = some (.bool false) := HRS.out.cell 8 rfl
  have f8 := HRS.out.free 8
  have r9 : w1.cell? ⟨w.heap.size, 9, none⟩ = some (.slice none 0 0) := HRS.out.cell 9 rfl
  have f9 := HRS.out.free 9
  have r10 : w1.cell? ⟨w.heap.size, 10, none⟩ = some (.int .u64 0) := HRS.out.cell 10 rfl
  have f10 := HRS.out.free 10
  have r11 : w1.cell? ⟨w.heap.size, 11, none⟩ = some (.string ⟨#[]⟩) := HRS.out.cell 11 rfl
  have f11 := HRS.out.free 11
  have r12 : w1.cell? ⟨w.heap.size, 12, none⟩ = some (.int .u64 0) := HRS.out.cell 12 rfl
  have f12 := HRS.out.free 12
  have r13 : w1.cell? ⟨w.heap.size, 13, none⟩ = some (.int .i64 0) := HRS.out.cell 13 rfl
  have f13 := HRS.out.free 13
  have r14 : w1.cell? ⟨w.heap.size, 14, none⟩ = some (.string ⟨#[]⟩) := HRS.out.cell 14 rfl
  have f14 := HRS.out.free 14
  go_wp2_with fail
  exact bodyPost_ret (v := .agg #[.int .u8 2, .int .u64 0, .int .u64 0, .int .u64 0, .int .u64 0, .string ⟨#[]⟩, .int .i64 0, .int .i64 0, .bool false, .slice none 0 0, .int .u64 0, .string key, .int .u64 (weight : Int), .int .i64 a, .string body]) (by simp [results, Try.results15, go_sem, r0, r1, r2, r3, r4, r5, r6, r7, r8, r9, r10, r11, r12, r13, r14]) rfl ⟨rfl, (((((((((((((((HB1.out.setCell (p := ⟨w.heap.size, 0, none⟩) (Nat.le_refl _) _).setCell (p := ⟨w.heap.size, 1, none⟩) (Nat.le_refl _) _).setCell (p := ⟨w.heap.size, 2, none⟩) (Nat.le_refl _) _).setCell (p := ⟨w.heap.size, 3, none⟩) (Nat.le_refl _) _).setCell (p := ⟨w.heap.size, 4, none⟩) (Nat.le_refl _) _).setCell (p := ⟨w.heap.size, 5, none⟩) (Nat.le_refl _) _).setCell (p := ⟨w.heap.size, 6, none⟩) (Nat.le_refl _) _).setCell (p := ⟨w.heap.size, 7, none⟩) (Nat.le_refl _) _).setCell (p := ⟨w.heap.size, 8, none⟩) (Nat.le_refl _) _).setCell (p := ⟨w.heap.size, 9, none⟩) (Nat.le_refl _) _).setCell (p := ⟨w.heap.size, 10, none⟩) (Nat.le_refl _) _).setCell (p := ⟨w.heap.size, 11, none⟩) (Nat.le_refl _) _).setCell (p := ⟨w.heap.size, 12, none⟩) (Nat.le_refl _) _).setCell (p := ⟨w.heap.size, 13, none⟩) (Nat.le_refl _) _).setCell (p := ⟨w.heap.size, 14, none⟩) (Nat.le_refl _) _)⟩

set_option linter.unusedSimpArgs false in
set_option linter.unusedVariables false in
set_option maxRecDepth 100000 in
set_option maxHeartbeats 4000000 in
theorem item_none (A : Option Addr) (cs : List UInt8) (len cap : Nat) (w : World) (hlen : cs.length = len) (hl : len ≤ cap) (hcap : cap ≤ 9223372036854775807) (hr : Holds8 w.heap.size w A cs) (h0 : len = 0) :
    Calls Try.prog 15 #[.slice A len cap] w fun e w' => ∃ A' n' c', e = .returned (.agg #[.int .u8 1, .int .u64 ((spanOf cs).hi : Int), .int .u64 ((spanOf cs).lo : Int), .int .u64 ((spanOf cs).id : Int), .int .u64 ((spanOf cs).par : Int), .string (spanOf cs).name, .int .i64 (spanOf cs).start, .int .i64 (spanOf cs).stop, .bool (spanOf cs).bad, .slice A' n' c', .int .u64 ((spanOf cs).rv : Int), .string ⟨#[]⟩, .int .u64 0, .int .i64 0, .string ⟨#[]⟩]) ∧ n' = (spanOf cs).attrs.length ∧ HoldsA w'.heap.size w' A' (spanOf cs).attrs ∧ Below w.heap.size w w' := by
  have hS := fun (W : World) (h : Below w.heap.size w W) => span_any A cs len cap W hlen (hr.later h)
  have d0 : decide ((0 : Int) < (len : Int)) = false := by simp; omega
  have d0n : decide (0 < len) = false := by simp; omega
  clear h0
  have hsz := (fun a ha => ((right_parts (spanOf_right cs)).2.2.2.2.2.2.2 a ha).2 : ∀ a ∈ (spanOf cs).attrs, a.1.size ≤ 60 ∧ a.2.size ≤ 60)
  obtain ⟨sp, hsp⟩ : ∃ sp, spanOf cs = sp := ⟨_, rfl⟩
  rw [hsp] at hS hsz ⊢
  obtain ⟨hi, lo, id, par, name, start, stop, bad, l, rv⟩ := sp
  dsimp only at hS hsz ⊢
  unfold spCells at hS
  have HS := Lib.hid hS
  have HZ := Lib.hid hsz
  have hbX : Below w.heap.size w (w.alloc (.cells #[.int .u8 0, .int .u64 0, .int .u64 0, .int .u64 0, .int .u64 0, .string ⟨#[]⟩, .int .i64 0, .int .i64 0, .bool false, .slice none 0 0, .int .u64 0, .string ⟨#[]⟩, .int .u64 0, .int .i64 0, .string ⟨#[]⟩] 38)) := (Below.refl _ w).alloc (Nat.le_refl _) _
  have HBX := Lib.hid hbX
  have HR0 : Hid (Blk (w.alloc (.cells #[.int .u8 0, .int .u64 0, .int .u64 0, .int .u64 0, .int .u64 0, .string ⟨#[]⟩, .int .i64 0, .int .i64 0, .bool false, .slice none 0 0, .int .u64 0, .string ⟨#[]⟩, .int .u64 0, .int .i64 0, .string ⟨#[]⟩] 38)) w.heap.size #[.int .u8 0, .int .u64 0, .int .u64 0, .int .u64 0, .int .u64 0, .string ⟨#[]⟩, .int .i64 0, .int .i64 0, .bool false, .slice none 0 0, .int .u64 0, .string ⟨#[]⟩, .int .u64 0, .int .i64 0, .string ⟨#[]⟩] 38) := Lib.hid (blk_new _ _ _)
  clear hS hsz hsp hr hlen hbX
  go_enter Try.func15, Try.ntmps15
  go_wp2_with fail
  refine (HS.out _ HBX.out).mono ?_
  rintro e w1 ⟨A1, n1, c1, rfl, hn1, hown, hb1⟩
  have HRS : Hid (Blk w1 w.heap.size #[.int .u8 0, .int .u64 0, .int .u64 0, .int .u64 0, .int .u64 0, .string ⟨#[]⟩, .int .i64 0, .int .i64 0, .bool false, .slice none 0 0, .int .u64 0, .string ⟨#[]⟩, .int .u64 0, .int .i64 0, .string ⟨#[]⟩] 38) := Lib.hid (HR0.out.same (hb1.block _ HR0.out.lt))
  have HB1 := Lib.hid (HBX.out.trans (hb1.mono HBX.out.size))
  have hne : (Value.slice A1 n1 c1).ownBlock ≠ some w.heap.size := fun h => by
    rcases hown.2 with ⟨e, _⟩ | ⟨g, _, _, e, hg, _⟩
    · rw [e] at h; simp [Value.ownBlock] at h
    · rw [e] at h; simp [Value.ownBlock] at h; rw [World.size_alloc] at hg; omega
  have HOW := Lib.hid hown
  have HN1 := Lib.hid hn1
  clear hb1 hn1 hown
  have r0 : w1.cell? ⟨w.heap.size, 0, none⟩ = some (.int .u8 0) := HRS.out.cell 0 rfl
  have f0 := HRS.out.free 0
  have r1 : w1.cell? ⟨w.heap.size, 1, none⟩ = some (.int .u64 0) := HRS.out.cell 1 rfl
  have f1 := HRS.out.free 1
  have r2 : w1.cell? ⟨w.heap.size, 2, none⟩ = some (.int .u64 0) := HRS.out.cell 2 rfl
  have f2 := HRS.out.free 2
  have r3 : w1.cell? ⟨w.heap.size, 3, none⟩ = some (.int .u64 0) := HRS.out.cell 3 rfl
  have f3 := HRS.out.free 3
  have r4 : w1.cell? ⟨w.heap.size, 4, none⟩ = some (.int .u64 0) := HRS.out.cell 4 rfl
  have f4 := HRS.out.free 4
  have r5 : w1.cell? ⟨w.heap.size, 5, none⟩ = some (.string ⟨#[]⟩) := HRS.out.cell 5 rfl
  have f5 := HRS.out.free 5
  have r6 : w1.cell? ⟨w.heap.size, 6, none⟩ = some (.int .i64 0) := HRS.out.cell 6 rfl
  have f6 := HRS.out.free 6
  have r7 : w1.cell? ⟨w.heap.size, 7, none⟩ = some (.int .i64 0) := HRS.out.cell 7 rfl
  have f7 := HRS.out.free 7
  have r8 : w1.cell? ⟨w.heap.size, 8, none⟩ = some (.bool false) := HRS.out.cell 8 rfl
  have f8 := HRS.out.free 8
  have r9 : w1.cell? ⟨w.heap.size, 9, none⟩ = some (.slice none 0 0) := HRS.out.cell 9 rfl
  have f9 := HRS.out.free 9
  have r10 : w1.cell? ⟨w.heap.size, 10, none⟩ = some (.int .u64 0) := HRS.out.cell 10 rfl
  have f10 := HRS.out.free 10
  have r11 : w1.cell? ⟨w.heap.size, 11, none⟩ = some (.string ⟨#[]⟩) := HRS.out.cell 11 rfl
  have f11 := HRS.out.free 11
  have r12 : w1.cell? ⟨w.heap.size, 12, none⟩ = some (.int .u64 0) := HRS.out.cell 12 rfl
  have f12 := HRS.out.free 12
  have r13 : w1.cell? ⟨w.heap.size, 13, none⟩ = some (.int .i64 0) := HRS.out.cell 13 rfl
  have f13 := HRS.out.free 13
  have r14 : w1.cell? ⟨w.heap.size, 14, none⟩ = some (.string ⟨#[]⟩) := HRS.out.cell 14 rfl
  have f14 := HRS.out.free 14
  go_wp2_with fail
  exact bodyPost_ret (v := .agg #[.int .u8 1, .int .u64 (hi : Int), .int .u64 (lo : Int), .int .u64 (id : Int), .int .u64 (par : Int), .string name, .int .i64 start, .int .i64 stop, .bool bad, .slice A1 n1 c1, .int .u64 (rv : Int), .string ⟨#[]⟩, .int .u64 0, .int .i64 0, .string ⟨#[]⟩]) (by simp [results, Try.results15, go_sem, r0, r1, r2, r3, r4, r5, r6, r7, r8, r9, r10, r11, r12, r13, r14]) rfl ⟨A1, n1, c1, rfl, HN1.out, holdsA_of_own (ownsRow_setCell_other (ownsRow_setCell_other (ownsRow_setCell_other (ownsRow_setCell_other (ownsRow_setCell_other (ownsRow_setCell_other (ownsRow_setCell_other (ownsRow_setCell_other (ownsRow_setCell_other (ownsRow_setCell_other (ownsRow_setCell_other (ownsRow_setCell_other (ownsRow_setCell_other (ownsRow_setCell_other (ownsRow_setCell_other HOW.out (a := ⟨w.heap.size, 0, none⟩) hne _) (a := ⟨w.heap.size, 1, none⟩) hne _) (a := ⟨w.heap.size, 2, none⟩) hne _) (a := ⟨w.heap.size, 3, none⟩) hne _) (a := ⟨w.heap.size, 4, none⟩) hne _) (a := ⟨w.heap.size, 5, none⟩) hne _) (a := ⟨w.heap.size, 6, none⟩) hne _) (a := ⟨w.heap.size, 7, none⟩) hne _) (a := ⟨w.heap.size, 8, none⟩) hne _) (a := ⟨w.heap.size, 9, none⟩) hne _) (a := ⟨w.heap.size, 10, none⟩) hne _) (a := ⟨w.heap.size, 11, none⟩) hne _) (a := ⟨w.heap.size, 12, none⟩) hne _) (a := ⟨w.heap.size, 13, none⟩) hne _) (a := ⟨w.heap.size, 14, none⟩) hne _) HN1.out HZ.out, (((((((((((((((HB1.out.setCell (p := ⟨w.heap.size, 0, none⟩) (Nat.le_refl _) _).setCell (p := ⟨w.heap.size, 1, none⟩) (Nat.le_refl _) _).setCell (p := ⟨w.heap.size, 2, none⟩) (Nat.le_refl _) _).setCell (p := ⟨w.heap.size, 3, none⟩) (Nat.le_refl _) _).setCell (p := ⟨w.heap.size, 4, none⟩) (Nat.le_refl _) _).setCell (p := ⟨w.heap.size, 5, none⟩) (Nat.le_refl _) _).setCell (p := ⟨w.heap.size, 6, none⟩) (Nat.le_refl _) _).setCell (p := ⟨w.heap.size, 7, none⟩) (Nat.le_refl _) _).setCell (p := ⟨w.heap.size, 8, none⟩) (Nat.le_refl _) _).setCell (p := ⟨w.heap.size, 9, none⟩) (Nat.le_refl _) _).setCell (p := ⟨w.heap.size, 10, none⟩) (Nat.le_refl _) _).setCell (p := ⟨w.heap.size, 11, none⟩) (Nat.le_refl _) _).setCell (p := ⟨w.heap.size, 12, none⟩) (Nat.le_refl _) _).setCell (p := ⟨w.heap.size, 13, none⟩) (Nat.le_refl _) _).setCell (p := ⟨w.heap.size, 14, none⟩) (Nat.le_refl _) _)⟩

set_option linter.unusedSimpArgs false in
set_option linter.unusedVariables false in
set_option maxRecDepth 100000 in
set_option maxHeartbeats 4000000 in
theorem item_some (A : Option Addr) (cs : List UInt8) (len cap : Nat) (w : World) (hlen : cs.length = len) (hl : len ≤ cap) (hcap : cap ≤ 9223372036854775807) (hr : Holds8 w.heap.size w A cs) (hpos : 0 < len) (h3 : at8 cs 0 % 3 ≠ 0) :
    Calls Try.prog 15 #[.slice A len cap] w fun e w' => ∃ A' n' c', e = .returned (.agg #[.int .u8 1, .int .u64 ((spanOf cs).hi : Int), .int .u64 ((spanOf cs).lo : Int), .int .u64 ((spanOf cs).id : Int), .int .u64 ((spanOf cs).par : Int), .string (spanOf cs).name, .int .i64 (spanOf cs).start, .int .i64 (spanOf cs).stop, .bool (spanOf cs).bad, .slice A' n' c', .int .u64 ((spanOf cs).rv : Int), .string ⟨#[]⟩, .int .u64 0, .int .i64 0, .string ⟨#[]⟩]) ∧ n' = (spanOf cs).attrs.length ∧ HoldsA w'.heap.size w' A' (spanOf cs).attrs ∧ Below w.heap.size w w' := by
  have hS := fun (W : World) (h : Below w.heap.size w W) => span_any A cs len cap W hlen (hr.later h)
  obtain ⟨b, off, rfl, hbl, hcell⟩ := hr (by omega)
  have x0 := hcell 0 (by omega)
  unfold Go.Proofs.Ytklgggolkclebaa.b8 at x0
  have hx : (cs.getD 0 0).toNat = at8 cs 0 := rfl
  rw [hx, Nat.add_zero] at x0
  have l0 := at8_lt cs 0
  obtain ⟨x, hxq⟩ : ∃ x, at8 cs 0 = x := ⟨_, rfl⟩
  rw [hxq] at x0 l0 h3
  obtain ⟨y, hy⟩ : ∃ y, x % 3 = y := ⟨_, rfl⟩
  have t0 : (x : Int).tmod 3 = (y : Int) := by rw [Int.tmod_eq_emod_of_nonneg (by omega)]; omega
  have t1 : ((y : Int) == 0) = false := by simp; omega
  have d0 : decide ((0 : Int) < (len : Int)) = true := by simp; omega
  have d0n : decide (0 < len) = true := by simp; omega
  clear hy hxq hx hcell
  have hsz := (fun a ha => ((right_parts (spanOf_right cs)).2.2.2.2.2.2.2 a ha).2 : ∀ a ∈ (spanOf cs).attrs, a.1.size ≤ 60 ∧ a.2.size ≤ 60)
  obtain ⟨sp, hsp⟩ : ∃ sp, spanOf cs = sp := ⟨_, rfl⟩
  rw [hsp] at hS hsz ⊢
  obtain ⟨hi, lo, id, par, name, start, stop, bad, l, rv⟩ := sp
  dsimp only at hS hsz ⊢
  unfold spCells at hS
  have HS := Lib.hid hS
  have HZ := Lib.hid hsz
  have hbX : Below w.heap.size w (w.alloc (.cells #[.int .u8 0, .int .u64 0, .int .u64 0, .int .u64 0, .int .u64 0, .string ⟨#[]⟩, .int .i64 0, .int .i64 0, .bool false, .slice none 0 0, .int .u64 0, .string ⟨#[]⟩, .int .u64 0, .int .i64 0, .string ⟨#[]⟩] 38)) := (Below.refl _ w).alloc (Nat.le_refl _) _
  have HBX := Lib.hid hbX
  have HR0 : Hid (Blk (w.alloc (.cells #[.int .u8 0, .int .u64 0, .int .u64 0, .int .u64 0, .int .u64 0, .string ⟨#[]⟩, .int .i64 0, .int .i64 0, .bool false, .slice none 0 0, .int .u64 0, .string ⟨#[]⟩, .int .u64 0, .int .i64 0, .string ⟨#[]⟩] 38)) w.heap.size #[.int .u8 0, .int .u64 0, .int .u64 0, .int .u64 0, .int .u64 0, .string ⟨#[]⟩, .int .i64 0, .int .i64 0, .bool false, .slice none 0 0, .int .u64 0, .string ⟨#[]⟩, .int .u64 0, .int .i64 0, .string ⟨#[]⟩] 38) := Lib.hid (blk_new _ _ _)
  clear hS hsz hsp hr hlen hbX
  go_enter Try.func15, Try.ntmps15
  go_wp2_with fail
  refine (HS.out _ HBX.out).mono ?_
  rintro e w1 ⟨A1, n1, c1, rfl, hn1, hown, hb1⟩
  have HRS : Hid (Blk w1 w.heap.size #[.int .u8 0, .int .u64 0, .int .u64 0, .int .u64 0, .int .u64 0, .string ⟨#[]⟩, .int .i64 0, .int .i64 0, .bool false, .slice none 0 0, .int .u64 0, .string ⟨#[]⟩, .int .u64 0, .int .i64 0, .string ⟨#[]⟩] 38) := Lib.hid (HR0.out.same (hb1.block _ HR0.out.lt))
  have HB1 := Lib.hid (HBX.out.trans (hb1.mono HBX.out.size))
  have hne : (Value.slice A1 n1 c1).ownBlock ≠ some w.heap.size := fun h => by
    rcases hown.2 with ⟨e, _⟩ | ⟨g, _, _, e, hg, _⟩
    · rw [e] at h; simp [Value.ownBlock] at h
    · rw [e] at h; simp [Value.ownBlock] at h; rw [World.size_alloc] at hg; omega
  have HOW := Lib.hid hown
  have HN1 := Lib.hid hn1
  clear hb1 hn1 hown
  have r0 : w1.cell? ⟨w.heap.size, 0, none⟩ = some (.int .u8 0) := HRS.out.cell 0 rfl
  have f0 := HRS.out.free 0
  have r1 : w1.cell? ⟨w.heap.size, 1, none⟩ = some (.int .u64 0) := HRS.out.cell 1 rfl
  have f1 := HRS.out.free 1
  have r2 : w1.cell? ⟨w.heap.size, 2, none⟩ = some (.int .u64 0) := HRS.out.cell 2 rfl
  have f2 := HRS.out.free 2
  have r3 : w1.cell? ⟨w.heap.size, 3, none⟩ = some (.int .u64 0) := HRS.out.cell 3 rfl
  have f3 := HRS.out.free 3
  have r4 : w1.cell? ⟨w.heap.size, 4, none⟩ = some (.int .u64 0) := HRS.out.cell 4 rfl
  have f4 := HRS.out.free 4
  have r5 : w1.cell? ⟨w.heap.size, 5, none⟩ = some (.string ⟨#[]⟩) := HRS.out.cell 5 rfl
  have f5 := HRS.out.free 5
  have r6 : w1.cell? ⟨w.heap.size, 6, none⟩ = some (.int .i64 0) := HRS.out.cell 6 rfl
  have f6 := HRS.out.free 6
  have r7 : w1.cell? ⟨w.heap.size, 7, none⟩ = some (.int .i64 0) := HRS.out.cell 7 rfl
  have f7 := HRS.out.free 7
  have r8 : w1.cell? ⟨w.heap.size, 8, none⟩ = some (.bool false) := HRS.out.cell 8 rfl
  have f8 := HRS.out.free 8
  have r9 : w1.cell? ⟨w.heap.size, 9, none⟩ = some (.slice none 0 0) := HRS.out.cell 9 rfl
  have f9 := HRS.out.free 9
  have r10 : w1.cell? ⟨w.heap.size, 10, none⟩ = some (.int .u64 0) := HRS.out.cell 10 rfl
  have f10 := HRS.out.free 10
  have r11 : w1.cell? ⟨w.heap.size, 11, none⟩ = some (.string ⟨#[]⟩) := HRS.out.cell 11 rfl
  have f11 := HRS.out.free 11
  have r12 : w1.cell? ⟨w.heap.size, 12, none⟩ = some (.int .u64 0) := HRS.out.cell 12 rfl
  have f12 := HRS.out.free 12
  have r13 : w1.cell? ⟨w.heap.size, 13, none⟩ = some (.int .i64 0) := HRS.out.cell 13 rfl
  have f13 := HRS.out.free 13
  have r14 : w1.cell? ⟨w.heap.size, 14, none⟩ = some (.string ⟨#[]⟩) := HRS.out.cell 14 rfl
  have f14 := HRS.out.free 14
  go_wp2_with fail
  exact bodyPost_ret (v := .agg #[.int .u8 1, .int .u64 (hi : Int), .int .u64 (lo : Int), .int .u64 (id : Int), .int .u64 (par : Int), .string name, .int .i64 start, .int .i64 stop, .bool bad, .slice A1 n1 c1, .int .u64 (rv : Int), .string ⟨#[]⟩, .int .u64 0, .int .i64 0, .string ⟨#[]⟩]) (by simp [results, Try.results15, go_sem, r0, r1, r2, r3, r4, r5, r6, r7, r8, r9, r10, r11, r12, r13, r14]) rfl ⟨A1, n1, c1, rfl, HN1.out, holdsA_of_own (ownsRow_setCell_other (ownsRow_setCell_other (ownsRow_setCell_other (ownsRow_setCell_other (ownsRow_setCell_other (ownsRow_setCell_other (ownsRow_setCell_other (ownsRow_setCell_other (ownsRow_setCell_other (ownsRow_setCell_other (ownsRow_setCell_other (ownsRow_setCell_other (ownsRow_setCell_other (ownsRow_setCell_other (ownsRow_setCell_other HOW.out (a := ⟨w.heap.size, 0, none⟩) hne _) (a := ⟨w.heap.size, 1, none⟩) hne _) (a := ⟨w.heap.size, 2, none⟩) hne _) (a := ⟨w.heap.size, 3, none⟩) hne _) (a := ⟨w.heap.size, 4, none⟩) hne _) (a := ⟨w.heap.size, 5, none⟩) hne _) (a := ⟨w.heap.size, 6, none⟩) hne _) (a := ⟨w.heap.size, 7, none⟩) hne _) (a := ⟨w.heap.size, 8, none⟩) hne _) (a := ⟨w.heap.size, 9, none⟩) hne _) (a := ⟨w.heap.size, 10, none⟩) hne _) (a := ⟨w.heap.size, 11, none⟩) hne _) (a := ⟨w.heap.size, 12, none⟩) hne _) (a := ⟨w.heap.size, 13, none⟩) hne _) (a := ⟨w.heap.size, 14, none⟩) hne _) HN1.out HZ.out, (((((((((((((((HB1.out.setCell (p := ⟨w.heap.size, 0, none⟩) (Nat.le_refl _) _).setCell (p := ⟨w.heap.size, 1, none⟩) (Nat.le_refl _) _).setCell (p := ⟨w.heap.size, 2, none⟩) (Nat.le_refl _) _).setCell (p := ⟨w.heap.size, 3, none⟩) (Nat.le_refl _) _).setCell (p := ⟨w.heap.size, 4, none⟩) (Nat.le_refl _) _).setCell (p := ⟨w.heap.size, 5, none⟩) (Nat.le_refl _) _).setCell (p := ⟨w.heap.size, 6, none⟩) (Nat.le_refl _) _).setCell (p := ⟨w.heap.size, 7, none⟩) (Nat.le_refl _) _).setCell (p := ⟨w.heap.size, 8, none⟩) (Nat.le_refl _) _).setCell (p := ⟨w.heap.size, 9, none⟩) (Nat.le_refl _) _).setCell (p := ⟨w.heap.size, 10, none⟩) (Nat.le_refl _) _).setCell (p := ⟨w.heap.size, 11, none⟩) (Nat.le_refl _) _).setCell (p := ⟨w.heap.size, 12, none⟩) (Nat.le_refl _) _).setCell (p := ⟨w.heap.size, 13, none⟩) (Nat.le_refl _) _).setCell (p := ⟨w.heap.size, 14, none⟩) (Nat.le_refl _) _)⟩

theorem item_span (A : Option Addr) (cs : List UInt8) (len cap : Nat) (w : World) (hlen : cs.length = len) (hl : len ≤ cap) (hcap : cap ≤ 9223372036854775807) (hr : Holds8 w.heap.size w A cs) (hlog : isLog cs = false) :
    Calls Try.prog 15 #[.slice A len cap] w fun e w' => ∃ A' n' c', e = .returned (.agg #[.int .u8 1, .int .u64 ((spanOf cs).hi : Int), .int .u64 ((spanOf cs).lo : Int), .int .u64 ((spanOf cs).id : Int), .int .u64 ((spanOf cs).par : Int), .string (spanOf cs).name, .int .i64 (spanOf cs).start, .int .i64 (spanOf cs).stop, .bool (spanOf cs).bad, .slice A' n' c', .int .u64 ((spanOf cs).rv : Int), .string ⟨#[]⟩, .int .u64 0, .int .i64 0, .string ⟨#[]⟩]) ∧ n' = (spanOf cs).attrs.length ∧ HoldsA w'.heap.size w' A' (spanOf cs).attrs ∧ Below w.heap.size w w' := by
  by_cases h0 : len = 0
  · exact item_none A cs len cap w hlen hl hcap hr h0
  · refine item_some A cs len cap w hlen hl hcap hr (by omega) (fun h => ?_)
    unfold isLog at hlog
    rw [decide_eq_true (by omega), decide_eq_true h] at hlog
    cases hlog

end Go.Proofs.Ytklgggolkclebaa
