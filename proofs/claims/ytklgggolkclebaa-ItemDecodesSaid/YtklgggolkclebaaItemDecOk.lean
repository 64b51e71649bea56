/-
  What item.Decode does, at bytes that are a span's, and at bytes of no kind. No condition.
-/
import Derived.Test.YtklgggolkclebaaItemDecSpan
namespace Go.Proofs.Ytklgggolkclebaa
open Go.RowKit Go.Proofs.NumMath Go.Proofs.ItemMath

theorem own_later3 {base : Nat} {w w' : World} {e : TypeId} {v : Value} {n : Nat} {xs : List Value} (ho : w.ownsRow base e 2 v n xs) (hb : Below w.heap.size w w') : w'.ownsRow base e 2 v n xs := by
  refine ho.kept (row := none) ⟨hb.os, hb.tape, hb.output, hb.size, fun i hi _ => hb.block i hi⟩ ?_
  cases v.ownBlock <;> simp
theorem own_past {W : World} {base k : Nat} {e : TypeId} {v : Value} {n : Nat} {xs : List Value} (ho : W.ownsRow base e 2 v n xs) (hk : k < base) : v.ownBlock ≠ some k := fun h => by
  rcases ho.2 with ⟨rfl, _⟩ | ⟨g, _, _, rfl, hg, _⟩
  · simp [Value.ownBlock] at h
  · obtain rfl : g = k := by simpa [Value.ownBlock] using h
    omega

set_option linter.unusedSimpArgs false in
set_option linter.unusedVariables false in
set_option maxRecDepth 100000 in
set_option maxHeartbeats 4000000 in
/-- **A span told back.** -/
theorem decode_span (A : Option Addr) (cs : List UInt8) (len cap : Nat) (W : World) (hlen : cs.length = len) (hpos : 0 < len) (hl : len ≤ cap) (hcap : cap ≤ 9223372036854775807) (hr : Holds8 W.heap.size W A cs) (hfirst : cs.getD 0 0 = 1) (hright : rightSpan (readSpan cs) = true) (heq : (1 : UInt8) :: encSpan (readSpan cs) = cs) :
    Calls Try.prog 20 #[.slice A len cap] W fun e W' => ∃ A' n' c', e = .returned (.tuple #[.agg #[.int .u8 1, .int .u64 ((readSpan cs).hi : Int), .int .u64 ((readSpan cs).lo : Int), .int .u64 ((readSpan cs).id : Int), .int .u64 ((readSpan cs).par : Int), .string (readSpan cs).name, .int .i64 (readSpan cs).start, .int .i64 (readSpan cs).stop, .bool (readSpan cs).bad, .slice A' n' c', .int .u64 ((readSpan cs).rv : Int), .string ⟨#[]⟩, .int .u64 0, .int .i64 0, .string ⟨#[]⟩], .int .u16 0]) ∧ n' = (readSpan cs).attrs.length ∧ HoldsA W'.heap.size W' A' (readSpan cs).attrs ∧ Below W.heap.size W W' := by
  have hc0 : cs.getD 0 0 = 1 := hfirst
  have hfit := readSpan_fits cs
  obtain ⟨sp, hsp⟩ : ∃ sp, readSpan cs = sp := ⟨_, rfl⟩
  have hL := fun (B gr : Nat) (w : World) (A' : Option Addr) (hB : B ≤ gr) (h : Holds8 B w A' cs) => readSpan_any B gr (.int .u8 1) (.string ⟨#[]⟩) (.int .u64 0) (.int .i64 0) (.string ⟨#[]⟩) A' cs len cap w hlen hl hcap hB h
  rw [hsp] at hL hfit hright heq ⊢
  obtain ⟨hi, lo, id, par, name, start, stop, bad, l, rv⟩ := sp
  dsimp only at hfit
  obtain ⟨g1, g2, g3, g4, g5, g6, g7, g8⟩ := hfit
  unfold SpanRead at hL
  dsimp only at hL ⊢
  obtain ⟨b, off, rfl, hbl, hcell⟩ := hr (by omega)
  have x0 : W.cell? ⟨b, off, none⟩ = some (.int .u8 1) := by
    have h := hcell 0 (by omega)
    rw [hc0] at h
    exact h
  have d0 : ((len : Int) == 0) = false := by simp; omega
  have HL := Lib.hid hL
  have HR := Lib.hid hr
  have HLN := Lib.hid hlen
  have HG8 := Lib.hid g8
  obtain ⟨z, hz⟩ : ∃ z, (1 : UInt8) :: encSpan ⟨hi, lo, id, par, name, start, stop, bad, l, rv⟩ = z := ⟨_, rfl⟩
  rw [hz] at heq
  obtain ⟨m, hm⟩ : ∃ m, z.length = m := ⟨_, rfl⟩
  have HZ := Lib.hid hz
  have HM := Lib.hid hm
  have HEQ := Lib.hid heq
  have HE := Lib.hid hright
  clear hright hz hm heq
  clear hL hlen hcell hc0 hfirst hsp hr g8
  go_enter Try.func20, Try.ntmps20
  go_wp2_with fail
  generalize hX : (W.alloc (.cells #[.int .u8 0, .int .u64 0, .int .u64 0, .int .u64 0, .int .u64 0, .string ⟨#[]⟩, .int .i64 0, .int .i64 0, .bool false, .slice none 0 0, .int .u64 0, .string ⟨#[]⟩, .int .u64 0, .int .i64 0, .string ⟨#[]⟩] 38)).alloc (.cells #[.slice (some ⟨b, off, none⟩) len cap, .int .i64 1, .int .u8 1, .int .u64 0, .int .u64 0, .int .u64 0, .int .u64 0, .string ⟨#[]⟩, .int .i64 0, .int .i64 0, .bool false, .slice none 0 0, .int .u64 0, .string ⟨#[]⟩, .int .u64 0, .int .i64 0, .string ⟨#[]⟩] 79) = X
  have HB : Hid (Below W.heap.size W X) := Lib.hid (by rw [← hX]; exact ((Below.refl _ W).alloc (Nat.le_refl _) _).alloc (by simp) _)
  have HRS0 : Hid (Blk X W.heap.size #[.int .u8 0, .int .u64 0, .int .u64 0, .int .u64 0, .int .u64 0, .string ⟨#[]⟩, .int .i64 0, .int .i64 0, .bool false, .slice none 0 0, .int .u64 0, .string ⟨#[]⟩, .int .u64 0, .int .i64 0, .string ⟨#[]⟩] 38) := Lib.hid (by rw [← hX]; exact (blk_new W _ _).same (Below.heap_alloc _ _ _ (by simp)))
  have HGR : Hid (Blk X (W.heap.size + 1) #[.slice (some ⟨b, off, none⟩) len cap, .int .i64 1, .int .u8 1, .int .u64 0, .int .u64 0, .int .u64 0, .int .u64 0, .string ⟨#[]⟩, .int .i64 0, .int .i64 0, .bool false, .slice none 0 0, .int .u64 0, .string ⟨#[]⟩, .int .u64 0, .int .i64 0, .string ⟨#[]⟩] 79) := Lib.hid (by rw [← hX]; exact blk_at _ _ (by simp) _ _)
  have hXW : W.heap.size < X.heap.size := by rw [← hX]; simp; omega
  clear hX
  refine (HL.out W.heap.size (W.heap.size + 1) X (some ⟨b, off, none⟩) (by omega) (HR.out.below HB.out) HGR.out).mono ?_
  rintro e w1 ⟨rfl, ⟨up, n1, c1, A1, hn1, hg1, hown1⟩, hk1⟩
  have HRS1 : Hid (Blk w1 W.heap.size #[.int .u8 0, .int .u64 0, .int .u64 0, .int .u64 0, .int .u64 0, .string ⟨#[]⟩, .int .i64 0, .int .i64 0, .bool false, .slice none 0 0, .int .u64 0, .string ⟨#[]⟩, .int .u64 0, .int .i64 0, .string ⟨#[]⟩] 38) := Lib.hid (hk1.blk HRS0.out (by omega))
  have HB1 : Hid (Below W.heap.size W w1) := Lib.hid (HB.out.trans (hk1.low HB.out.size (fun b hb e => by omega)))
  have HG1 := Lib.hid hg1
  have hn8 : n1 ≤ 8 := by omega
  have HA1 := Lib.hid (holdsA_own hown1 hn1 HG8.out)
  have HOW := Lib.hid hown1
  have HN1 := Lib.hid hn1.symm
  have y0 : w1.cell? ⟨W.heap.size + 1, 2, none⟩ = some (.int .u8 1) := hg1.cell 2 rfl
  have y1 : w1.cell? ⟨W.heap.size + 1, 3, none⟩ = some (.int .u64 (hi : Int)) := hg1.cell 3 rfl
  have y2 : w1.cell? ⟨W.heap.size + 1, 4, none⟩ = some (.int .u64 (lo : Int)) := hg1.cell 4 rfl
  have y3 : w1.cell? ⟨W.heap.size + 1, 5, none⟩ = some (.int .u64 (id : Int)) := hg1.cell 5 rfl
  have y4 : w1.cell? ⟨W.heap.size + 1, 6, none⟩ = some (.int .u64 (par : Int)) := hg1.cell 6 rfl
  have y5 : w1.cell? ⟨W.heap.size + 1, 7, none⟩ = some (.string name) := hg1.cell 7 rfl
  have y6 : w1.cell? ⟨W.heap.size + 1, 8, none⟩ = some (.int .i64 start) := hg1.cell 8 rfl
  have y7 : w1.cell? ⟨W.heap.size + 1, 9, none⟩ = some (.int .i64 stop) := hg1.cell 9 rfl
  have y8 : w1.cell? ⟨W.heap.size + 1, 10, none⟩ = some (.bool bad) := hg1.cell 10 rfl
  have y9 : w1.cell? ⟨W.heap.size + 1, 11, none⟩ = some (.slice A1 n1 c1) := hg1.cell 11 rfl
  have y10 : w1.cell? ⟨W.heap.size + 1, 12, none⟩ = some (.int .u64 (rv : Int)) := hg1.cell 12 rfl
  have y11 : w1.cell? ⟨W.heap.size + 1, 13, none⟩ = some (.string ⟨#[]⟩) := hg1.cell 13 rfl
  have y12 : w1.cell? ⟨W.heap.size + 1, 14, none⟩ = some (.int .u64 0) := hg1.cell 14 rfl
  have y13 : w1.cell? ⟨W.heap.size + 1, 15, none⟩ = some (.int .i64 0) := hg1.cell 15 rfl
  have y14 : w1.cell? ⟨W.heap.size + 1, 16, none⟩ = some (.string ⟨#[]⟩) := hg1.cell 16 rfl
  clear hg1 hk1 hn1 hown1
  go_wp2_with fail
  refine (encode_span hi lo id par rv name start stop bad A1 l n1 c1 w1 g1 g2 g3 g4 HN1.out HA1.out HE.out z m HZ.out HM.out).mono ?_
  rintro e w2 ⟨A2, c2, rfl, hown, hb2⟩
  have HRS : Hid (Blk w2 W.heap.size #[.int .u8 0, .int .u64 0, .int .u64 0, .int .u64 0, .int .u64 0, .string ⟨#[]⟩, .int .i64 0, .int .i64 0, .bool false, .slice none 0 0, .int .u64 0, .string ⟨#[]⟩, .int .u64 0, .int .i64 0, .string ⟨#[]⟩] 38) := Lib.hid (HRS1.out.same (hb2.block _ HRS1.out.lt))
  have HB2 : Hid (Below W.heap.size W w2) := Lib.hid (HB1.out.trans (hb2.mono HB1.out.size))
  have HG2 := Lib.hid (HG1.out.same (hb2.block _ HG1.out.lt))
  have HO := Lib.hid (own_facts hown).2.2
  have HOW2 := Lib.hid (own_later3 HOW.out hb2)
  have hne := own_past HOW2.out hXW
  clear hb2 hown y0 y1 y2 y3 y4 y5 y6 y7 y8 y9 y10 y11 y12 y13 y14
  go_wp2_with fail
  refine (equal_any A2 (some ⟨b, off, none⟩) z cs m len c2 cap w2 true HM.out HLN.out HO.out ((HR.out.below HB2.out).mono HB2.out.size) (by rw [HEQ.out]; simp)).mono ?_
  rintro e w3 ⟨rfl, rfl⟩
  have r0 : w2.cell? ⟨W.heap.size, 0, none⟩ = some (.int .u8 0) := HRS.out.cell 0 rfl
  have f0 := HRS.out.free 0
  have r1 : w2.cell? ⟨W.heap.size, 1, none⟩ = some (.int .u64 0) := HRS.out.cell 1 rfl
  have f1 := HRS.out.free 1
  have r2 : w2.cell? ⟨W.heap.size, 2, none⟩ = some (.int .u64 0) := HRS.out.cell 2 rfl
  have f2 := HRS.out.free 2
  have r3 : w2.cell? ⟨W.heap.size, 3, none⟩ = some (.int .u64 0) := HRS.out.cell 3 rfl
  have f3 := HRS.out.free 3
  have r4 : w2.cell? ⟨W.heap.size, 4, none⟩ = some (.int .u64 0) := HRS.out.cell 4 rfl
  have f4 := HRS.out.free 4
  have r5 : w2.cell? ⟨W.heap.size, 5, none⟩ = some (.string ⟨#[]⟩) := HRS.out.cell 5 rfl
  have f5 := HRS.out.free 5
  have r6 : w2.cell? ⟨W.heap.size, 6, none⟩ = some (.int .i64 0) := HRS.out.cell 6 rfl
  have f6 := HRS.out.free 6
  have r7 : w2.cell? ⟨W.heap.size, 7, none⟩ = some (.int .i64 0) := HRS.out.cell 7 rfl
  have f7 := HRS.out.free 7
  have r8 : w2.cell? ⟨W.heap.size, 8, none⟩ = some (.bool false) := HRS.out.cell 8 rfl
  have f8 := HRS.out.free 8
  have r9 : w2.cell? ⟨W.heap.size, 9, none⟩ = some (.slice none 0 0) := HRS.out.cell 9 rfl
  have f9 := HRS.out.free 9
  have r10 : w2.cell? ⟨W.heap.size, 10, none⟩ = some (.int .u64 0) := HRS.out.cell 10 rfl
  have f10 := HRS.out.free 10
  have r11 : w2.cell? ⟨W.heap.size, 11, none⟩ = some (.string ⟨#[]⟩) := HRS.out.cell 11 rfl
  have f11 := HRS.out.free 11
  have r12 : w2.cell? ⟨W.heap.size, 12, none⟩ = some (.int .u64 0) := HRS.out.cell 12 rfl
  have f12 := HRS.out.free 12
  have r13 : w2.cell? ⟨W.heap.size, 13, none⟩ = some (.int .i64 0) := HRS.out.cell 13 rfl
  have f13 := HRS.out.free 13
  have r14 : w2.cell? ⟨W.heap.size, 14, none⟩ = some (.string ⟨#[]⟩) := HRS.out.cell 14 rfl
  have f14 := HRS.out.free 14
  have y0 : w2.cell? ⟨W.heap.size + 1, 2, none⟩ = some (.int .u8 1) := HG2.out.cell 2 rfl
  have y1 : w2.cell? ⟨W.heap.size + 1, 3, none⟩ = some (.int .u64 (hi : Int)) := HG2.out.cell 3 rfl
  have y2 : w2.cell? ⟨W.heap.size + 1, 4, none⟩ = some (.int .u64 (lo : Int)) := HG2.out.cell 4 rfl
  have y3 : w2.cell? ⟨W.heap.size + 1, 5, none⟩ = some (.int .u64 (id : Int)) := HG2.out.cell 5 rfl
  have y4 : w2.cell? ⟨W.heap.size + 1, 6, none⟩ = some (.int .u64 (par : Int)) := HG2.out.cell 6 rfl
  have y5 : w2.cell? ⟨W.heap.size + 1, 7, none⟩ = some (.string name) := HG2.out.cell 7 rfl
  have y6 : w2.cell? ⟨W.heap.size + 1, 8, none⟩ = some (.int .i64 start) := HG2.out.cell 8 rfl
  have y7 : w2.cell? ⟨W.heap.size + 1, 9, none⟩ = some (.int .i64 stop) := HG2.out.cell 9 rfl
  have y8 : w2.cell? ⟨W.heap.size + 1, 10, none⟩ = some (.bool bad) := HG2.out.cell 10 rfl
  have y9 : w2.cell? ⟨W.heap.size + 1, 11, none⟩ = some (.slice A1 n1 c1) := HG2.out.cell 11 rfl
  have y10 : w2.cell? ⟨W.heap.size + 1, 12, none⟩ = some (.int .u64 (rv : Int)) := HG2.out.cell 12 rfl
  have y11 : w2.cell? ⟨W.heap.size + 1, 13, none⟩ = some (.string ⟨#[]⟩) := HG2.out.cell 13 rfl
  have y12 : w2.cell? ⟨W.heap.size + 1, 14, none⟩ = some (.int .u64 0) := HG2.out.cell 14 rfl
  have y13 : w2.cell? ⟨W.heap.size + 1, 15, none⟩ = some (.int .i64 0) := HG2.out.cell 15 rfl
  have y14 : w2.cell? ⟨W.heap.size + 1, 16, none⟩ = some (.string ⟨#[]⟩) := HG2.out.cell 16 rfl
  go_wp2_with fail
  exact bodyPost_ret (v := .tuple #[.agg #[.int .u8 1, .int .u64 (hi : Int), .int .u64 (lo : Int), .int .u64 (id : Int), .int .u64 (par : Int), .string name, .int .i64 start, .int .i64 stop, .bool bad, .slice A1 n1 c1, .int .u64 (rv : Int), .string ⟨#[]⟩, .int .u64 0, .int .i64 0, .string ⟨#[]⟩], .int .u16 0]) (by simp [results, Try.results20, go_sem, r0, r1, r2, r3, r4, r5, r6, r7, r8, r9, r10, r11, r12, r13, r14]) rfl ⟨A1, n1, c1, rfl, HN1.out.symm, holdsA_own (ownsRow_setCell_other (ownsRow_setCell_other (ownsRow_setCell_other (ownsRow_setCell_other (ownsRow_setCell_other (ownsRow_setCell_other (ownsRow_setCell_other (ownsRow_setCell_other (ownsRow_setCell_other (ownsRow_setCell_other (ownsRow_setCell_other (ownsRow_setCell_other (ownsRow_setCell_other (ownsRow_setCell_other (ownsRow_setCell_other HOW2.out (a := ⟨W.heap.size, 0, none⟩) hne _) (a := ⟨W.heap.size, 1, none⟩) hne _) (a := ⟨W.heap.size, 2, none⟩) hne _) (a := ⟨W.heap.size, 3, none⟩) hne _) (a := ⟨W.heap.size, 4, none⟩) hne _) (a := ⟨W.heap.size, 5, none⟩) hne _) (a := ⟨W.heap.size, 6, none⟩) hne _) (a := ⟨W.heap.size, 7, none⟩) hne _) (a := ⟨W.heap.size, 8, none⟩) hne _) (a := ⟨W.heap.size, 9, none⟩) hne _) (a := ⟨W.heap.size, 10, none⟩) hne _) (a := ⟨W.heap.size, 11, none⟩) hne _) (a := ⟨W.heap.size, 12, none⟩) hne _) (a := ⟨W.heap.size, 13, none⟩) hne _) (a := ⟨W.heap.size, 14, none⟩) hne _) HN1.out.symm HG8.out, (((((((((((((((HB2.out.setCell (p := ⟨W.heap.size, 0, none⟩) (Nat.le_refl _) _).setCell (p := ⟨W.heap.size, 1, none⟩) (Nat.le_refl _) _).setCell (p := ⟨W.heap.size, 2, none⟩) (Nat.le_refl _) _).setCell (p := ⟨W.heap.size, 3, none⟩) (Nat.le_refl _) _).setCell (p := ⟨W.heap.size, 4, none⟩) (Nat.le_refl _) _).setCell (p := ⟨W.heap.size, 5, none⟩) (Nat.le_refl _) _).setCell (p := ⟨W.heap.size, 6, none⟩) (Nat.le_refl _) _).setCell (p := ⟨W.heap.size, 7, none⟩) (Nat.le_refl _) _).setCell (p := ⟨W.heap.size, 8, none⟩) (Nat.le_refl _) _).setCell (p := ⟨W.heap.size, 9, none⟩) (Nat.le_refl _) _).setCell (p := ⟨W.heap.size, 10, none⟩) (Nat.le_refl _) _).setCell (p := ⟨W.heap.size, 11, none⟩) (Nat.le_refl _) _).setCell (p := ⟨W.heap.size, 12, none⟩) (Nat.le_refl _) _).setCell (p := ⟨W.heap.size, 13, none⟩) (Nat.le_refl _) _).setCell (p := ⟨W.heap.size, 14, none⟩) (Nat.le_refl _) _)⟩

set_option linter.unusedSimpArgs false in
set_option linter.unusedVariables false in
set_option maxRecDepth 100000 in
set_option maxHeartbeats 4000000 in
/-- A kind that is none. -/
theorem decode_kind (k : Nat) (A : Option Addr) (cs : List UInt8) (len cap : Nat) (W : World) (hlen : cs.length = len) (hpos : 0 < len) (hl : len ≤ cap) (hcap : cap ≤ 9223372036854775807) (hr : Holds8 W.heap.size W A cs) (hfirst : (cs.getD 0 0).toNat = k) (h1 : k ≠ 1) (h2 : k ≠ 2) :
    Calls Try.prog 20 #[.slice A len cap] W fun e W' => e = .returned (.tuple #[.agg #[.int .u8 0, .int .u64 0, .int .u64 0, .int .u64 0, .int .u64 0, .string ⟨#[]⟩, .int .i64 0, .int .i64 0, .bool false, .slice none 0 0, .int .u64 0, .string ⟨#[]⟩, .int .u64 0, .int .i64 0, .string ⟨#[]⟩], .int .u16 40]) ∧ Below W.heap.size W W' := by
  have hk := (cs.getD 0 0).toNat_lt
  rw [hfirst] at hk
  obtain ⟨b, off, rfl, hbl, hcell⟩ := hr (by omega)
  have x0 : W.cell? ⟨b, off, none⟩ = some (.int .u8 (k : Int)) := by
    have h := hcell 0 (by omega)
    unfold b8 at h
    rw [hfirst] at h
    exact h
  have d0 : ((len : Int) == 0) = false := by simp; omega
  have d1 : ((k : Int) == 1) = false := by simp; omega
  have d2 : ((k : Int) == 2) = false := by simp; omega
  have HK : Hid (k ≠ 1 ∧ k ≠ 2 ∧ k < 256) := Lib.hid ⟨h1, h2, by omega⟩
  clear hlen hcell hfirst hr h1 h2
  go_enter Try.func20, Try.ntmps20
  go_wp2_with fail
  generalize hX : (W.alloc (.cells #[.int .u8 0, .int .u64 0, .int .u64 0, .int .u64 0, .int .u64 0, .string ⟨#[]⟩, .int .i64 0, .int .i64 0, .bool false, .slice none 0 0, .int .u64 0, .string ⟨#[]⟩, .int .u64 0, .int .i64 0, .string ⟨#[]⟩] 38)).alloc (.cells #[.slice (some ⟨b, off, none⟩) len cap, .int .i64 1, .int .u8 (k : Int), .int .u64 0, .int .u64 0, .int .u64 0, .int .u64 0, .string ⟨#[]⟩, .int .i64 0, .int .i64 0, .bool false, .slice none 0 0, .int .u64 0, .string ⟨#[]⟩, .int .u64 0, .int .i64 0, .string ⟨#[]⟩] 79) = X
  have HB : Hid (Below W.heap.size W X) := Lib.hid (by rw [← hX]; exact ((Below.refl _ W).alloc (Nat.le_refl _) _).alloc (by simp) _)
  have HRS0 : Hid (Blk X W.heap.size #[.int .u8 0, .int .u64 0, .int .u64 0, .int .u64 0, .int .u64 0, .string ⟨#[]⟩, .int .i64 0, .int .i64 0, .bool false, .slice none 0 0, .int .u64 0, .string ⟨#[]⟩, .int .u64 0, .int .i64 0, .string ⟨#[]⟩] 38) := Lib.hid (by rw [← hX]; exact (blk_new W _ _).same (Below.heap_alloc _ _ _ (by simp)))
  clear hX
  refine (encode_kind k 0 0 0 0 0 ⟨#[]⟩ 0 0 false none [] 0 0 ⟨#[]⟩ ⟨#[]⟩ 0 0 X HK.out.1 HK.out.2.1 HK.out.2.2).mono ?_
  rintro e w2 ⟨rfl, hb2⟩
  have HRS : Hid (Blk w2 W.heap.size #[.int .u8 0, .int .u64 0, .int .u64 0, .int .u64 0, .int .u64 0, .string ⟨#[]⟩, .int .i64 0, .int .i64 0, .bool false, .slice none 0 0, .int .u64 0, .string ⟨#[]⟩, .int .u64 0, .int .i64 0, .string ⟨#[]⟩] 38) := Lib.hid (HRS0.out.same (hb2.block _ HRS0.out.lt))
  have HB2 : Hid (Below W.heap.size W w2) := Lib.hid (HB.out.trans (hb2.mono HB.out.size))
  clear hb2
  have r0 : w2.cell? ⟨W.heap.size, 0, none⟩ = some (.int .u8 0) := HRS.out.cell 0 rfl
  have f0 := HRS.out.free 0
  have r1 : w2.cell? ⟨W.heap.size, 1, none⟩ = some (.int .u64 0) := HRS.out.cell 1 rfl
  have f1 := HRS.out.free 1
  have r2 : w2.cell? ⟨W.heap.size, 2, none⟩ = some (.int .u64 0) := HRS.out.cell 2 rfl
  have f2 := HRS.out.free 2
  have r3 : w2.cell? ⟨W.heap.size, 3, none⟩ = some (.int .u64 0) := HRS.out.cell 3 rfl
  have f3 := HRS.out.free 3
  have r4 : w2.cell? ⟨W.heap.size, 4, none⟩ = some (.int .u64 0) := HRS.out.cell 4 rfl
  have f4 := HRS.out.free 4
  have r5 : w2.cell? ⟨W.heap.size, 5, none⟩ = some (.string ⟨#[]⟩) := HRS.out.cell 5 rfl
  have f5 := HRS.out.free 5
  have r6 : w2.cell? ⟨W.heap.size, 6, none⟩ = some (.int .i64 0) := HRS.out.cell 6 rfl
  have f6 := HRS.out.free 6
  have r7 : w2.cell? ⟨W.heap.size, 7, none⟩ = some (.int .i64 0) := HRS.out.cell 7 rfl
  have f7 := HRS.out.free 7
  have r8 : w2.cell? ⟨W.heap.size, 8, none⟩ = some (.bool false) := HRS.out.cell 8 rfl
  have f8 := HRS.out.free 8
  have r9 : w2.cell? ⟨W.heap.size, 9, none⟩ = some (.slice none 0 0) := HRS.out.cell 9 rfl
  have f9 := HRS.out.free 9
  have r10 : w2.cell? ⟨W.heap.size, 10, none⟩ = some (.int .u64 0) := HRS.out.cell 10 rfl
  have f10 := HRS.out.free 10
  have r11 : w2.cell? ⟨W.heap.size, 11, none⟩ = some (.string ⟨#[]⟩) := HRS.out.cell 11 rfl
  have f11 := HRS.out.free 11
  have r12 : w2.cell? ⟨W.heap.size, 12, none⟩ = some (.int .u64 0) := HRS.out.cell 12 rfl
  have f12 := HRS.out.free 12
  have r13 : w2.cell? ⟨W.heap.size, 13, none⟩ = some (.int .i64 0) := HRS.out.cell 13 rfl
  have f13 := HRS.out.free 13
  have r14 : w2.cell? ⟨W.heap.size, 14, none⟩ = some (.string ⟨#[]⟩) := HRS.out.cell 14 rfl
  have f14 := HRS.out.free 14
  go_wp2_with fail
  exact bodyPost_ret (v := .tuple #[.agg #[.int .u8 0, .int .u64 0, .int .u64 0, .int .u64 0, .int .u64 0, .string ⟨#[]⟩, .int .i64 0, .int .i64 0, .bool false, .slice none 0 0, .int .u64 0, .string ⟨#[]⟩, .int .u64 0, .int .i64 0, .string ⟨#[]⟩], .int .u16 40]) (by simp [results, Try.results20, go_sem, r0, r1, r2, r3, r4, r5, r6, r7, r8, r9, r10, r11, r12, r13, r14]) rfl ⟨rfl, (((((((((((((((HB2.out.setCell (p := ⟨W.heap.size, 0, none⟩) (Nat.le_refl _) _).setCell (p := ⟨W.heap.size, 1, none⟩) (Nat.le_refl _) _).setCell (p := ⟨W.heap.size, 2, none⟩) (Nat.le_refl _) _).setCell (p := ⟨W.heap.size, 3, none⟩) (Nat.le_refl _) _).setCell (p := ⟨W.heap.size, 4, none⟩) (Nat.le_refl _) _).setCell (p := ⟨W.heap.size, 5, none⟩) (Nat.le_refl _) _).setCell (p := ⟨W.heap.size, 6, none⟩) (Nat.le_refl _) _).setCell (p := ⟨W.heap.size, 7, none⟩) (Nat.le_refl _) _).setCell (p := ⟨W.heap.size, 8, none⟩) (Nat.le_refl _) _).setCell (p := ⟨W.heap.size, 9, none⟩) (Nat.le_refl _) _).setCell (p := ⟨W.heap.size, 10, none⟩) (Nat.le_refl _) _).setCell (p := ⟨W.heap.size, 11, none⟩) (Nat.le_refl _) _).setCell (p := ⟨W.heap.size, 12, none⟩) (Nat.le_refl _) _).setCell (p := ⟨W.heap.size, 13, none⟩) (Nat.le_refl _) _).setCell (p := ⟨W.heap.size, 14, none⟩) (Nat.le_refl _) _)⟩

end Go.Proofs.Ytklgggolkclebaa
