/-
  What item.Decode does, at bytes that begin as a span's, and as nothing's. No condition.
-/
import Derived.Test.YtklgggolkclebaaItemDecode
import Derived.Test.YtklgggolkclebaaItemReadSpan
import Derived.Test.YtklgggolkclebaaItemOf
namespace Go.Proofs.Ytklgggolkclebaa
open Go.RowKit Go.Proofs.NumMath Go.Proofs.ItemMath

theorem readA_fits (cs : List UInt8) : ∀ (k i : Nat), (readA cs k i).1.length ≤ k ∧ ∀ p ∈ (readA cs k i).1, p.1.length ≤ 60 ∧ p.2.length ≤ 121
  | 0, i => by simp [readA]
  | k + 1, i => by
    obtain ⟨h1, h2⟩ := readA_fits cs k (readT cs 10 121 i).2
    have h3 := readT_len cs 10 121 i
    unfold readA
    split
    · simp
    · refine ⟨by simp; omega, fun p hp => ?_⟩
      rcases List.mem_cons.1 hp with rfl | hp
      · have h4 := getText_len (readT cs 10 121 i).1 0 60
        unfold ItemMath.attrOf
        exact ⟨h4, by simp; omega⟩
      · exact h2 p hp
theorem readSpan_fits (cs : List UInt8) : (readSpan cs).hi < 18446744073709551616 ∧ (readSpan cs).lo < 18446744073709551616 ∧ (readSpan cs).id < 18446744073709551616 ∧ (readSpan cs).par < 18446744073709551616 ∧ (readSpan cs).name.size ≤ 60 ∧ (readSpan cs).rv < 18446744073709551616 ∧ (readSpan cs).attrs.length ≤ 8 ∧ ∀ a ∈ (readSpan cs).attrs, a.1.size ≤ 1000 ∧ a.2.size ≤ 1000 := by
  have h5 := readT_len cs 5 60 (rN4 cs).2
  obtain ⟨h8, hall⟩ := readA_fits cs 8 (rN9 cs).2
  have r1 : (rN1 cs).1 < 18446744073709551616 := readN_lt cs 1 1
  have r2 : (rN2 cs).1 < 18446744073709551616 := readN_lt cs 2 (rN1 cs).2
  have r3 : (rN3 cs).1 < 18446744073709551616 := readN_lt cs 3 (rN2 cs).2
  have r4 : (rN4 cs).1 < 18446744073709551616 := readN_lt cs 4 (rN3 cs).2
  have r9 : (rN9 cs).1 < 18446744073709551616 := readN_lt cs 9 (rN8 cs).2
  have n5 : (bytesOf (rT5 cs).1).size ≤ 60 := by rw [← size_list, list_bytesOf]; exact h5
  have n10 : ((rA10 cs).1.map pairOf).length ≤ 8 := by rw [List.length_map]; exact h8
  have hal : ∀ a ∈ (rA10 cs).1.map pairOf, a.1.size ≤ 1000 ∧ a.2.size ≤ 1000 := fun a ha => by
    obtain ⟨p, hp, rfl⟩ := List.mem_map.1 ha
    obtain ⟨h1, h2⟩ := hall p hp
    show (bytesOf p.1).size ≤ 1000 ∧ (bytesOf p.2).size ≤ 1000
    rw [← size_list, ← size_list, list_bytesOf, list_bytesOf]
    omega
  unfold readSpan
  dsimp only
  exact ⟨r1, r2, r3, r4, n5, r9, n10, hal⟩
/-- Own attributes lie somewhere. -/
theorem holdsA_own {W : World} {base n c : Nat} {A : Option Addr} {l : List Attr} (h : W.ownsRow base 36 2 (.slice A n c) n (aCells l)) (hn : n = l.length) (hall : ∀ a ∈ l, a.1.size ≤ 1000 ∧ a.2.size ≤ 1000) : HoldsA W.heap.size W A l := fun h0 => by
  rcases h.2 with ⟨hv, hz⟩ | ⟨g, cap, cur, hv, hb, hg, _⟩
  · omega
  · injection hv with e1 e2 e3
    subst e1
    refine ⟨g, 0, rfl, lt_of_block hg, fun j hj => ?_⟩
    obtain ⟨h1, h2⟩ := aCells_get l j hj
    have hl := aCells_len l
    have c1 := h.cellAt (j * 2) (by omega)
    have c2 := h.cellAt (j * 2 + 1) (by omega)
    have hm := hall (l.getD j (none8, none8)) (by simp [List.getD_eq_getElem?_getD, hj])
    refine ⟨?_, ?_, by omega, by omega⟩
    · rw [Nat.zero_add, ← h1]; exact c1
    · rw [Nat.zero_add, ← h2]; exact c2

set_option linter.unusedSimpArgs false in
set_option linter.unusedVariables false in
set_option maxRecDepth 100000 in
set_option maxHeartbeats 4000000 in
/-- A span that may not be. -/
theorem decode_span_bad (A : Option Addr) (cs : List UInt8) (len cap : Nat) (W : World) (hlen : cs.length = len) (hpos : 0 < len) (hl : len ≤ cap) (hcap : cap ≤ 9223372036854775807) (hr : Holds8 W.heap.size W A cs) (hfirst : cs.getD 0 0 = 1) (hright : rightSpan (readSpan cs) = false) :
    Calls Try.prog 20 #[.slice A len cap] W fun e W' => e = .returned (.tuple #[.agg #[.int .u8 0, .int .u64 0, .int .u64 0, .int .u64 0, .int .u64 0, .string ⟨#[]⟩, .int .i64 0, .int .i64 0, .bool false, .slice none 0 0, .int .u64 0, .string ⟨#[]⟩, .int .u64 0, .int .i64 0, .string ⟨#[]⟩], .int .u16 40]) ∧ Below W.heap.size W W' := by
  have hc0 : cs.getD 0 0 = 1 := hfirst
  have hfit := readSpan_fits cs
  obtain ⟨sp, hsp⟩ : ∃ sp, readSpan cs = sp := ⟨_, rfl⟩
  have hL := fun (B gr : Nat) (w : World) (A' : Option Addr) (hB : B ≤ gr) (h : Holds8 B w A' cs) => readSpan_any B gr (.int .u8 1) (.string ⟨#[]⟩) (.int .u64 0) (.int .i64 0) (.string ⟨#[]⟩) A' cs len cap w hlen hl hcap hB h
  rw [hsp] at hL hfit hright
  obtain ⟨hi, lo, id, par, name, start, stop, bad, l, rv⟩ := sp
  dsimp only at hfit
  obtain ⟨g1, g2, g3, g4, g5, g6, g7, g8⟩ := hfit
  unfold SpanRead at hL
  dsimp only at hL
  obtain ⟨b, off, rfl, hbl, hcell⟩ := hr (by omega)
  have x0 : W.cell? ⟨b, off, none⟩ = some (.int .u8 1) := by
    have h := hcell 0 (by omega)
    rw [hc0] at h
    exact h
  have d0 : ((len : Int) == 0) = false := by simp; omega
  have HL := Lib.hid hL
  have HR := Lib.hid hr
  have HLN := Lib.hid hlen
  have HG8 := Lib.hid g8
  have HE := Lib.hid hright
  clear hright
  clear hL hlen hcell hc0 hfirst hsp hr g8
  go_enter Try.func20, Try.ntmps20
  go_wp2_with fail
  generalize hX : (W.alloc (.cells #[.int .u8 0, .int .u64 0, .int .u64 0, .int .u64 0, .int .u64 0, .string ⟨#[]⟩, .int .i64 0, .int .i64 0, .bool false, .slice none 0 0, .int .u64 0, .string ⟨#[]⟩, .int .u64 0, .int .i64 0, .string ⟨#[]⟩] 38)).alloc (.cells #[.slice (some ⟨b, off, none⟩) len cap, .int .i64 1, .int .u8 1, .int .u64 0, .int .u64 0, .int .u64 0, .int .u64 0, .string ⟨#[]⟩, .int .i64 0, .int .i64 0, .bool false, .slice none 0 0, .int .u64 0, .string ⟨#[]⟩, .int .u64 0, .int .i64 0, .string ⟨#[]⟩] 79) = X
  have HB : Hid (Below W.heap.size W X) := Lib.hid (by rw [← hX]; exact ((Below.refl _ W).alloc (Nat.le_refl _) _).alloc (by simp) _)
  have HRS0 : Hid (Blk X W.heap.size #[.int .u8 0, .int .u64 0, .int .u64 0, .int .u64 0, .int .u64 0, .string ⟨#[]⟩, .int .i64 0, .int .i64 0, .bool false, .slice none 0 0, .int .u64 0, .string ⟨#[]⟩, .int .u64 0, .int .i64 0, .string ⟨#[]⟩] 38) := Lib.hid (by rw [← hX]; exact (blk_new W _ _).same (Below.heap_alloc _ _ _ (by simp)))
  have HGR : Hid (Blk X (W.heap.size + 1) #[.slice (some ⟨b, off, none⟩) len cap, .int .i64 1, .int .u8 1, .int .u64 0, .int .u64 0, .int .u64 0, .int .u64 0, .string ⟨#[]⟩, .int .i64 0, .int .i64 0, .bool false, .slice none 0 0, .int .u64 0, .string ⟨#[]⟩, .int .u64 0, .int .i64 0, .string ⟨#[]⟩] 79) := Lib.hid (by rw [← hX]; exact blk_at _ _ (by simp) _ _)
  clear hX
  refine (HL.out W.heap.size (W.heap.size + 1) X (some ⟨b, off, none⟩) (by omega) (HR.out.below HB.out) HGR.out).mono ?_
  rintro e w1 ⟨rfl, ⟨up, n1, c1, A1, hn1, hg1, hown1⟩, hk1⟩
  have HRS1 : Hid (Blk w1 W.heap.size #[.int .u8 0, .int .u64 0, .int .u64 0, .int .u64 0, .int .u64 0, .string ⟨#[]⟩, .int .i64 0, .int .i64 0, .bool false, .slice none 0 0, .int .u64 0, .string ⟨#[]⟩, .int .u64 0, .int .i64 0, .string ⟨#[]⟩] 38) := Lib.hid (hk1.blk HRS0.out (by omega))
  have HB1 : Hid (Below W.heap.size W w1) := Lib.hid (HB.out.trans (hk1.low HB.out.size (fun b hb e => by omega)))
  have HG1 := Lib.hid hg1
  have hn8 : n1 ≤ 8 := by omega
  have HA1 := Lib.hid (holdsA_own hown1 hn1 HG8.out)
  have HN1 := Lib.hid hn1.symm
  have y0 : w1.cell? ⟨W.heap.size + 1, 2, none⟩ = some (.int .u8 1) := hg1.cell 2 rfl
  have y1 : w1.cell? ⟨W.heap.size + 1, 3, none⟩ = some (.int .u64 (hi : Int)) := hg1.cell 3 rfl
  have y2 : w1.cell? ⟨W.heap.size + 1, 4, none⟩ = some (.int .u64 (lo : Int)) := hg1.cell 4 rfl
  have y3 : w1.cell? ⟨W.heap.size + 1, 5, none⟩ = some (.int .u64 (id : Int)) := hg1.cell 5 rfl
  have y4 : w1.cell? ⟨W.heap.size + 1, 6, none⟩ = some (.int .u64 (par : Int)) := hg1.cell 6 rfl
  have y5 : w1.cell? ⟨W.heap.size + 1, 7, none⟩ = some (.string name) := hg1.cell 7 rfl
  have y6 : w1.cell? ⟨W.heap.size + 1, 8, none⟩ = some (.int .i64 start) := hg1.cell 8 rfl
  have y7 : w1.cell? ⟨W.heap.size + 1, 9, none⟩ = some (.int .i64 stop) := hg1.cell 9 rfl
  have y8 : w1.cell? ⟨W.heap.size + 1, 10, none⟩ = some (.bool bad) := hg1.cell 10 rfl
  have y9 : w1.cell? ⟨W.heap.size + 1, 11, none⟩ = some (.slice A1 n1 c1) := hg1.cell 11 rfl
  have y10 : w1.cell? ⟨W.heap.size + 1, 12, none⟩ = some (.int .u64 (rv : Int)) := hg1.cell 12 rfl
  have y11 : w1.cell? ⟨W.heap.size + 1, 13, none⟩ = some (.string ⟨#[]⟩) := hg1.cell 13 rfl
  have y12 : w1.cell? ⟨W.heap.size + 1, 14, none⟩ = some (.int .u64 0) := hg1.cell 14 rfl
  have y13 : w1.cell? ⟨W.heap.size + 1, 15, none⟩ = some (.int .i64 0) := hg1.cell 15 rfl
  have y14 : w1.cell? ⟨W.heap.size + 1, 16, none⟩ = some (.string ⟨#[]⟩) := hg1.cell 16 rfl
  clear hg1 hk1 hn1 hown1
  go_wp2_with fail
  refine (encode_bad_span hi lo id par rv name start stop bad A1 l n1 c1 ⟨#[]⟩ ⟨#[]⟩ 0 0 w1 HN1.out (by omega) (by omega) HA1.out HE.out).mono ?_
  rintro e w2 ⟨rfl, hb2⟩
  have HRS : Hid (Blk w2 W.heap.size #[.int .u8 0, .int .u64 0, .int .u64 0, .int .u64 0, .int .u64 0, .string ⟨#[]⟩, .int .i64 0, .int .i64 0, .bool false, .slice none 0 0, .int .u64 0, .string ⟨#[]⟩, .int .u64 0, .int .i64 0, .string ⟨#[]⟩] 38) := Lib.hid (HRS1.out.same (hb2.block _ HRS1.out.lt))
  have HB2 : Hid (Below W.heap.size W w2) := Lib.hid (HB1.out.trans (hb2.mono HB1.out.size))
  clear hb2
  have r0 : w2.cell? ⟨W.heap.size, 0, none⟩ = some (.int .u8 0) := HRS.out.cell 0 rfl
  have f0 := HRS.out.free 0
  have r1 : w2.cell? ⟨W.heap.size, 1, none⟩ = some (.int .u64 0) := HRS.out.cell 1 rfl
  have f1 := HRS.out.free 1
  have r2 : w2.cell? ⟨W.heap.size, 2, none⟩ = some (.int .u64 0) := HRS.out.cell 2 rfl
  have f2 := HRS.out.free 2
  have r3 : w2.cell? ⟨W.heap.size, 3, none⟩ = some (.int .u64 0) := HRS.out.cell 3 rfl
  have f3 := HRS.out.free 3
  have r4 : w2.cell? ⟨W.heap.size, 4, none⟩ = some (.int .u64 0) := HRS.out.cell 4 rfl
  have f4 := HRS.out.free 4
  have r5 : w2.cell? ⟨W.heap.size, 5, none⟩ = some (.string ⟨#[]⟩) := HRS.out.cell 5 rfl
  have f5 := HRS.out.free 5
  have r6 : w2.cell? ⟨W.heap.size, 6, none⟩ = some (.int .i64 0) := HRS.out.cell 6 rfl
  have f6 := HRS.out.free 6
  have r7 : w2.cell? ⟨W.heap.size, 7, none⟩ = some (.int .i64 0) := HRS.out.cell 7 rfl
  have f7 := HRS.out.free 7
  have r8 : w2.cell? ⟨W.heap.size, 8, none⟩ = some (.bool false) := HRS.out.cell 8 rfl
  have f8 := HRS.out.free 8
  have r9 : w2.cell? ⟨W.heap.size, 9, none⟩ = some (.slice none 0 0) := HRS.out.cell 9 rfl
  have f9 := HRS.out.free 9
  have r10 : w2.cell? ⟨W.heap.size, 10, none⟩ = some (.int .u64 0) := HRS.out.cell 10 rfl
  have f10 := HRS.out.free 10
  have r11 : w2.cell? ⟨W.heap.size, 11, none⟩ = some (.string ⟨#[]⟩) := HRS.out.cell 11 rfl
  have f11 := HRS.out.free 11
  have r12 : w2.cell? ⟨W.heap.size, 12, none⟩ = some (.int .u64 0) := HRS.out.cell 12 rfl
  have f12 := HRS.out.free 12
  have r13 : w2.cell? ⟨W.heap.size, 13, none⟩ = some (.int .i64 0) := HRS.out.cell 13 rfl
  have f13 := HRS.out.free 13
  have r14 : w2.cell? ⟨W.heap.size, 14, none⟩ = some (.string ⟨#[]⟩) := HRS.out.cell 14 rfl
  have f14 := HRS.out.free 14
  go_wp2_with fail
  exact bodyPost_ret (v := .tuple #[.agg #[.int .u8 0, .int .u64 0, .int .u64 0, .int .u64 0, .int .u64 0, .string ⟨#[]⟩, .int .i64 0, .int .i64 0, .bool false, .slice none 0 0, .int .u64 0, .string ⟨#[]⟩, .int .u64 0, .int .i64 0, .string ⟨#[]⟩], .int .u16 40]) (by simp [results, Try.results20, go_sem, r0, r1, r2, r3, r4, r5, r6, r7, r8, r9, r10, r11, r12, r13, r14]) rfl ⟨rfl, (((((((((((((((HB2.out.setCell (p := ⟨W.heap.size, 0, none⟩) (Nat.le_refl _) _).setCell (p := ⟨W.heap.size, 1, none⟩) (Nat.le_refl _) _).setCell (p := ⟨W.heap.size, 2, none⟩) (Nat.le_refl _) _).setCell (p := ⟨W.heap.size, 3, none⟩) (Nat.le_refl _) _).setCell (p := ⟨W.heap.size, 4, none⟩) (Nat.le_refl _) _).setCell (p := ⟨W.heap.size, 5, none⟩) (Nat.le_refl _) _).setCell (p := ⟨W.heap.size, 6, none⟩) (Nat.le_refl _) _).setCell (p := ⟨W.heap.size, 7, none⟩) (Nat.le_refl _) _).setCell (p := ⟨W.heap.size, 8, none⟩) (Nat.le_refl _) _).setCell (p := ⟨W.heap.size, 9, none⟩) (Nat.le_refl _) _).setCell (p := ⟨W.heap.size, 10, none⟩) (Nat.le_refl _) _).setCell (p := ⟨W.heap.size, 11, none⟩) (Nat.le_refl _) _).setCell (p := ⟨W.heap.size, 12, none⟩) (Nat.le_refl _) _).setCell (p := ⟨W.heap.size, 13, none⟩) (Nat.le_refl _) _).setCell (p := ⟨W.heap.size, 14, none⟩) (Nat.le_refl _) _)⟩

set_option linter.unusedSimpArgs false in
set_option linter.unusedVariables false in
set_option maxRecDepth 100000 in
set_option maxHeartbeats 4000000 in
/-- A span that is written otherwise. -/
theorem decode_span_other (A : Option Addr) (cs : List UInt8) (len cap : Nat) (W : World) (hlen : cs.length = len) (hpos : 0 < len) (hl : len ≤ cap) (hcap : cap ≤ 9223372036854775807) (hr : Holds8 W.heap.size W A cs) (hfirst : cs.getD 0 0 = 1) (hright : rightSpan (readSpan cs) = true) (heq : ¬ (1 : UInt8) :: encSpan (readSpan cs) = cs) :
    Calls Try.prog 20 #[.slice A len cap] W fun e W' => e = .returned (.tuple #[.agg #[.int .u8 0, .int .u64 0, .int .u64 0, .int .u64 0, .int .u64 0, .string ⟨#[]⟩, .int .i64 0, .int .i64 0, .bool false, .slice none 0 0, .int .u64 0, .string ⟨#[]⟩, .int .u64 0, .int .i64 0, .string ⟨#[]⟩], .int .u16 40]) ∧ Below W.heap.size W W' := by
  have hc0 : cs.getD 0 0 = 1 := hfirst
  have hfit := readSpan_fits cs
  obtain ⟨sp, hsp⟩ : ∃ sp, readSpan cs = sp := ⟨_, rfl⟩
  have hL := fun (B gr : Nat) (w : World) (A' : Option Addr) (hB : B ≤ gr) (h : Holds8 B w A' cs) => readSpan_any B gr (.int .u8 1) (.string ⟨#[]⟩) (.int .u64 0) (.int .i64 0) (.string ⟨#[]⟩) A' cs len cap w hlen hl hcap hB h
  rw [hsp] at hL hfit hright heq
  obtain ⟨hi, lo, id, par, name, start, stop, bad, l, rv⟩ := sp
  dsimp only at hfit
  obtain ⟨g1, g2, g3, g4, g5, g6, g7, g8⟩ := hfit
  unfold SpanRead at hL
  dsimp only at hL
  obtain ⟨b, off, rfl, hbl, hcell⟩ := hr (by omega)
  have x0 : W.cell? ⟨b, off, none⟩ = some (.int .u8 1) := by
    have h := hcell 0 (by omega)
    rw [hc0] at h
    exact h
  have d0 : ((len : Int) == 0) = false := by simp; omega
  have HL := Lib.hid hL
  have HR := Lib.hid hr
  have HLN := Lib.hid hlen
  have HG8 := Lib.hid g8
  obtain ⟨z, hz⟩ : ∃ z, (1 : UInt8) :: encSpan ⟨hi, lo, id, par, name, start, stop, bad, l, rv⟩ = z := ⟨_, rfl⟩
  rw [hz] at heq
  obtain ⟨m, hm⟩ : ∃ m, z.length = m := ⟨_, rfl⟩
  have HZ := Lib.hid hz
  have HM := Lib.hid hm
  have HEQ := Lib.hid heq
  have HE := Lib.hid hright
  clear hright hz hm heq
  clear hL hlen hcell hc0 hfirst hsp hr g8
  go_enter Try.func20, Try.ntmps20
  go_wp2_with fail
  generalize hX : (W.alloc (.cells #[.int .u8 0, .int .u64 0, .int .u64 0, .int .u64 0, .int .u64 0, .string ⟨#[]⟩, .int .i64 0, .int .i64 0, .bool false, .slice none 0 0, .int .u64 0, .string ⟨#[]⟩, .int .u64 0, .int .i64 0, .string ⟨#[]⟩] 38)).alloc (.cells #[.slice (some ⟨b, off, none⟩) len cap, .int .i64 1, .int .u8 1, .int .u64 0, .int .u64 0, .int .u64 0, .int .u64 0, .string ⟨#[]⟩, .int .i64 0, .int .i64 0, .bool false, .slice none 0 0, .int .u64 0, .string ⟨#[]⟩, .int .u64 0, .int .i64 0, .string ⟨#[]⟩] 79) = X
  have HB : Hid (Below W.heap.size W X) := Lib.hid (by rw [← hX]; exact ((Below.refl _ W).alloc (Nat.le_refl _) _).alloc (by simp) _)
  have HRS0 : Hid (Blk X W.heap.size #[.int .u8 0, .int .u64 0, .int .u64 0, .int .u64 0, .int .u64 0, .string ⟨#[]⟩, .int .i64 0, .int .i64 0, .bool false, .slice none 0 0, .int .u64 0, .string ⟨#[]⟩, .int .u64 0, .int .i64 0, .string ⟨#[]⟩] 38) := Lib.hid (by rw [← hX]; exact (blk_new W _ _).same (Below.heap_alloc _ _ _ (by simp)))
  have HGR : Hid (Blk X (W.heap.size + 1) #[.slice (some ⟨b, off, none⟩) len cap, .int .i64 1, .int .u8 1, .int .u64 0, .int .u64 0, .int .u64 0, .int .u64 0, .string ⟨#[]⟩, .int .i64 0, .int .i64 0, .bool false, .slice none 0 0, .int .u64 0, .string ⟨#[]⟩, .int .u64 0, .int .i64 0, .string ⟨#[]⟩] 79) := Lib.hid (by rw [← hX]; exact blk_at _ _ (by simp) _ _)
  clear hX
  refine (HL.out W.heap.size (W.heap.size + 1) X (some ⟨b, off, none⟩) (by omega) (HR.out.below HB.out) HGR.out).mono ?_
  rintro e w1 ⟨rfl, ⟨up, n1, c1, A1, hn1, hg1, hown1⟩, hk1⟩
  have HRS1 : Hid (Blk w1 W.heap.size #[.int .u8 0, .int .u64 0, .int .u64 0, .int .u64 0, .int .u64 0, .string ⟨#[]⟩, .int .i64 0, .int .i64 0, .bool false, .slice none 0 0, .int .u64 0, .string ⟨#[]⟩, .int .u64 0, .int .i64 0, .string ⟨#[]⟩] 38) := Lib.hid (hk1.blk HRS0.out (by omega))
  have HB1 : Hid (Below W.heap.size W w1) := Lib.hid (HB.out.trans (hk1.low HB.out.size (fun b hb e => by omega)))
  have HG1 := Lib.hid hg1
  have hn8 : n1 ≤ 8 := by omega
  have HA1 := Lib.hid (holdsA_own hown1 hn1 HG8.out)
  have HN1 := Lib.hid hn1.symm
  have y0 : w1.cell? ⟨W.heap.size + 1, 2, none⟩ = some (.int .u8 1) := hg1.cell 2 rfl
  have y1 : w1.cell? ⟨W.heap.size + 1, 3, none⟩ = some (.int .u64 (hi : Int)) := hg1.cell 3 rfl
  have y2 : w1.cell? ⟨W.heap.size + 1, 4, none⟩ = some (.int .u64 (lo : Int)) := hg1.cell 4 rfl
  have y3 : w1.cell? ⟨W.heap.size + 1, 5, none⟩ = some (.int .u64 (id : Int)) := hg1.cell 5 rfl
  have y4 : w1.cell? ⟨W.heap.size + 1, 6, none⟩ = some (.int .u64 (par : Int)) := hg1.cell 6 rfl
  have y5 : w1.cell? ⟨W.heap.size + 1, 7, none⟩ = some (.string name) := hg1.cell 7 rfl
  have y6 : w1.cell? ⟨W.heap.size + 1, 8, none⟩ = some (.int .i64 start) := hg1.cell 8 rfl
  have y7 : w1.cell? ⟨W.heap.size + 1, 9, none⟩ = some (.int .i64 stop) := hg1.cell 9 rfl
  have y8 : w1.cell? ⟨W.heap.size + 1, 10, none⟩ = some (.bool bad) := hg1.cell 10 rfl
  have y9 : w1.cell? ⟨W.heap.size + 1, 11, none⟩ = some (.slice A1 n1 c1) := hg1.cell 11 rfl
  have y10 : w1.cell? ⟨W.heap.size + 1, 12, none⟩ = some (.int .u64 (rv : Int)) := hg1.cell 12 rfl
  have y11 : w1.cell? ⟨W.heap.size + 1, 13, none⟩ = some (.string ⟨#[]⟩) := hg1.cell 13 rfl
  have y12 : w1.cell? ⟨W.heap.size + 1, 14, none⟩ = some (.int .u64 0) := hg1.cell 14 rfl
  have y13 : w1.cell? ⟨W.heap.size + 1, 15, none⟩ = some (.int .i64 0) := hg1.cell 15 rfl
  have y14 : w1.cell? ⟨W.heap.size + 1, 16, none⟩ = some (.string ⟨#[]⟩) := hg1.cell 16 rfl
  clear hg1 hk1 hn1 hown1
  go_wp2_with fail
  refine (encode_span hi lo id par rv name start stop bad A1 l n1 c1 w1 g1 g2 g3 g4 HN1.out HA1.out HE.out z m HZ.out HM.out).mono ?_
  rintro e w2 ⟨A2, c2, rfl, hown, hb2⟩
  have HRS : Hid (Blk w2 W.heap.size #[.int .u8 0, .int .u64 0, .int .u64 0, .int .u64 0, .int .u64 0, .string ⟨#[]⟩, .int .i64 0, .int .i64 0, .bool false, .slice none 0 0, .int .u64 0, .string ⟨#[]⟩, .int .u64 0, .int .i64 0, .string ⟨#[]⟩] 38) := Lib.hid (HRS1.out.same (hb2.block _ HRS1.out.lt))
  have HB2 : Hid (Below W.heap.size W w2) := Lib.hid (HB1.out.trans (hb2.mono HB1.out.size))
  have HG2 := Lib.hid (HG1.out.same (hb2.block _ HG1.out.lt))
  have HO := Lib.hid (own_facts hown).2.2
  have HA2 := Lib.hid (HA1.out.later hb2)
  clear hb2 hown y0 y1 y2 y3 y4 y5 y6 y7 y8 y9 y10 y11 y12 y13 y14
  go_wp2_with fail
  refine (equal_any A2 (some ⟨b, off, none⟩) z cs m len c2 cap w2 false HM.out HLN.out HO.out ((HR.out.below HB2.out).mono HB2.out.size) (by exact (decide_eq_false HEQ.out).symm)).mono ?_
  rintro e w3 ⟨rfl, rfl⟩
  have r0 : w2.cell? ⟨W.heap.size, 0, none⟩ = some (.int .u8 0) := HRS.out.cell 0 rfl
  have f0 := HRS.out.free 0
  have r1 : w2.cell? ⟨W.heap.size, 1, none⟩ = some (.int .u64 0) := HRS.out.cell 1 rfl
  have f1 := HRS.out.free 1
  have r2 : w2.cell? ⟨W.heap.size, 2, none⟩ = some (.int .u64 0) := HRS.out.cell 2 rfl
  have f2 := HRS.out.free 2
  have r3 : w2.cell? ⟨W.heap.size, 3, none⟩ = some (.int .u64 0) := HRS.out.cell 3 rfl
  have f3 := HRS.out.free 3
  have r4 : w2.cell? ⟨W.heap.size, 4, none⟩ = some (.int .u64 0) := HRS.out.cell 4 rfl
  have f4 := HRS.out.free 4
  have r5 : w2.cell? ⟨W.heap.size, 5, none⟩ = some (.string ⟨#[]⟩) := HRS.out.cell 5 rfl
  have f5 := HRS.out.free 5
  have r6 : w2.cell? ⟨W.heap.size, 6, none⟩ = some (.int .i64 0) := HRS.out.cell 6 rfl
  have f6 := HRS.out.free 6
  have r7 : w2.cell? ⟨W.heap.size, 7, none⟩ = some (.int .i64 0) := HRS.out.cell 7 rfl
  have f7 := HRS.out.free 7
  have r8 : w2.cell? ⟨W.heap.size, 8, none⟩ = some (.bool false) := HRS.out.cell 8 rfl
  have f8 := HRS.out.free 8
  have r9 : w2.cell? ⟨W.heap.size, 9, none⟩ = some (.slice none 0 0) := HRS.out.cell 9 rfl
  have f9 := HRS.out.free 9
  have r10 : w2.cell? ⟨W.heap.size, 10, none⟩ = some (.int .u64 0) := HRS.out.cell 10 rfl
  have f10 := HRS.out.free 10
  have r11 : w2.cell? ⟨W.heap.size, 11, none⟩ = some (.string ⟨#[]⟩) := HRS.out.cell 11 rfl
  have f11 := HRS.out.free 11
  have r12 : w2.cell? ⟨W.heap.size, 12, none⟩ = some (.int .u64 0) := HRS.out.cell 12 rfl
  have f12 := HRS.out.free 12
  have r13 : w2.cell? ⟨W.heap.size, 13, none⟩ = some (.int .i64 0) := HRS.out.cell 13 rfl
  have f13 := HRS.out.free 13
  have r14 : w2.cell? ⟨W.heap.size, 14, none⟩ = some (.string ⟨#[]⟩) := HRS.out.cell 14 rfl
  have f14 := HRS.out.free 14
  go_wp2_with fail
  exact bodyPost_ret (v := .tuple #[.agg #[.int .u8 0, .int .u64 0, .int .u64 0, .int .u64 0, .int .u64 0, .string ⟨#[]⟩, .int .i64 0, .int .i64 0, .bool false, .slice none 0 0, .int .u64 0, .string ⟨#[]⟩, .int .u64 0, .int .i64 0, .string ⟨#[]⟩], .int .u16 40]) (by simp [results, Try.results20, go_sem, r0, r1, r2, r3, r4, r5, r6, r7, r8, r9, r10, r11, r12, r13, r14]) rfl ⟨rfl, (((((((((((((((HB2.out.setCell (p := ⟨W.heap.size, 0, none⟩) (Nat.le_refl _) _).setCell (p := ⟨W.heap.size, 1, none⟩) (Nat.le_refl _) _).setCell (p := ⟨W.heap.size, 2, none⟩) (Nat.le_refl _) _).setCell (p := ⟨W.heap.size, 3, none⟩) (Nat.le_refl _) _).setCell (p := ⟨W.heap.size, 4, none⟩) (Nat.le_refl _) _).setCell (p := ⟨W.heap.size, 5, none⟩) (Nat.le_refl _) _).setCell (p := ⟨W.heap.size, 6, none⟩) (Nat.le_refl _) _).setCell (p := ⟨W.heap.size, 7, none⟩) (Nat.le_refl _) _).setCell (p := ⟨W.heap.size, 8, none⟩) (Nat.le_refl _) _).setCell (p := ⟨W.heap.size, 9, none⟩) (Nat.le_refl _) _).setCell (p := ⟨W.heap.size, 10, none⟩) (Nat.le_refl _) _).setCell (p := ⟨W.heap.size, 11, none⟩) (Nat.le_refl _) _).setCell (p := ⟨W.heap.size, 12, none⟩) (Nat.le_refl _) _).setCell (p := ⟨W.heap.size, 13, none⟩) (Nat.le_refl _) _).setCell (p := ⟨W.heap.size, 14, none⟩) (Nat.le_refl _) _)⟩

end Go.Proofs.Ytklgggolkclebaa
