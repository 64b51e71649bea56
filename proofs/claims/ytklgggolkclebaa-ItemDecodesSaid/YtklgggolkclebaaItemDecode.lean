/-
  What item.Decode does, at no bytes, and at bytes that begin as a log's. No condition.
-/
import Derived.Test.YtklgggolkclebaaItemReadLog
import Derived.Test.YtklgggolkclebaaItemEncodeNo
namespace Go.Proofs.Ytklgggolkclebaa
open Go.RowKit Go.Proofs.NumMath Go.Proofs.ItemMath

theorem getText_len (cs : List UInt8) (i : Int) (most : Nat) : (getText cs i most).1.length ≤ most := by
  unfold getText
  split
  · simp
  · split
    · simp
    · split
      · simp
      · rename_i h _
        simp; omega
theorem readT_len (cs : List UInt8) (k most i : Nat) : (readT cs k most i).1.length ≤ most := by
  unfold readT
  split
  · exact getText_len _ _ _
  · simp
theorem readLog_len (cs : List UInt8) : (readLog cs).key.size ≤ 60 ∧ (readLog cs).body.size ≤ 200 := by
  have h1 := readT_len cs 1 60 1
  have h2 := readT_len cs 4 200 (lN3 cs).2
  unfold readLog lT1 lT4 bytesOf
  dsimp only
  refine ⟨?_, ?_⟩
  · show (readT cs 1 60 1).1.toArray.size ≤ 60
    simpa using h1
  · show (readT cs 4 200 (lN3 cs).2).1.toArray.size ≤ 200
    simpa using h2

set_option maxHeartbeats 400000 in
/-- **bytes.Equal at every two slices of bytes.** -/
theorem equal_any (A B : Option Addr) (xs ys : List UInt8) (m n c d : Nat) (w : World) (bt : Bool) (hm : xs.length = m) (hn : ys.length = n) (hx : Holds8 w.heap.size w A xs) (hy : Holds8 w.heap.size w B ys) (hbt : bt = decide (xs = ys)) :
    Calls Try.prog 40 #[.slice A m c, .slice B n d] w fun e w' => e = .returned (.bool bt) ∧ w = w' := by
  have c1 := text_run A xs m c w _ hm hx
  have c2 := text_run B ys n d w _ hn hy
  have hb : ((⟨xs.toArray⟩ : ByteArray).toList == (⟨ys.toArray⟩ : ByteArray).toList) = bt := by
    rw [hbt, ByteArray.toList_eq, ByteArray.toList_eq, Bool.eq_iff_iff]
    simp
  generalize (⟨xs.toArray⟩ : ByteArray) = sa at c1 hb
  generalize (⟨ys.toArray⟩ : ByteArray) = sb at c2 hb
  clear hx hy hm hn hbt
  go_enter Try.func40, Try.ntmps40
  go_wp2
  go_ret
  exact ⟨rfl, rfl⟩


set_option linter.unusedSimpArgs false in
set_option linter.unusedVariables false in
set_option maxRecDepth 100000 in
set_option maxHeartbeats 4000000 in
/-- **Decode of nothing.** -/
theorem decode_nil (A : Option Addr) (cap : Nat) (W : World) :
    Calls Try.prog 20 #[.slice A 0 cap] W fun e W' => e = .returned (.tuple #[.agg #[.int .u8 0, .int .u64 0, .int .u64 0, .int .u64 0, .int .u64 0, .string ⟨#[]⟩, .int .i64 0, .int .i64 0, .bool false, .slice none 0 0, .int .u64 0, .string ⟨#[]⟩, .int .u64 0, .int .i64 0, .string ⟨#[]⟩], .int .u16 40]) ∧ Below W.heap.size W W' := by
  go_enter Try.func20, Try.ntmps20
  go_wp2_with fail
  exact bodyPost_ret (v := .tuple #[.agg #[.int .u8 0, .int .u64 0, .int .u64 0, .int .u64 0, .int .u64 0, .string ⟨#[]⟩, .int .i64 0, .int .i64 0, .bool false, .slice none 0 0, .int .u64 0, .string ⟨#[]⟩, .int .u64 0, .int .i64 0, .string ⟨#[]⟩], .int .u16 40]) (by simp [results, Try.results20, go_sem]) rfl ⟨rfl, (Below.refl _ W).alloc (Nat.le_refl _) _⟩

set_option linter.unusedSimpArgs false in
set_option linter.unusedVariables false in
set_option maxRecDepth 100000 in
set_option maxHeartbeats 4000000 in
/-- A log that may not be. -/
theorem decode_log_bad (A : Option Addr) (cs : List UInt8) (len cap : Nat) (W : World) (hlen : cs.length = len) (hpos : 0 < len) (hl : len ≤ cap) (hcap : cap ≤ 9223372036854775807) (hr : Holds8 W.heap.size W A cs) (hfirst : cs.getD 0 0 = 2) (hright : rightLog (readLog cs) = false) :
    Calls Try.prog 20 #[.slice A len cap] W fun e W' => e = .returned (.tuple #[.agg #[.int .u8 0, .int .u64 0, .int .u64 0, .int .u64 0, .int .u64 0, .string ⟨#[]⟩, .int .i64 0, .int .i64 0, .bool false, .slice none 0 0, .int .u64 0, .string ⟨#[]⟩, .int .u64 0, .int .i64 0, .string ⟨#[]⟩], .int .u16 40]) ∧ Below W.heap.size W W' := by
  have hc0 : cs.getD 0 0 = 2 := hfirst
  have hsz := readLog_len cs
  obtain ⟨l, hlq⟩ : ∃ l, readLog cs = l := ⟨_, rfl⟩
  obtain ⟨key, weight, a, body⟩ := l
  rw [hlq] at hright hsz
  dsimp only at hsz
  obtain ⟨b, off, rfl, hbl, hcell⟩ := hr (by omega)
  have x0 : W.cell? ⟨b, off, none⟩ = some (.int .u8 2) := by
    have h := hcell 0 (by omega)
    rw [hc0] at h
    exact h
  have hL := fun (B gr : Nat) (w : World) (hB : B ≤ gr) (h : Holds8 B w (some ⟨b, off, none⟩) cs) => readLog_any B gr (.int .u8 2) (.int .u64 0) (.int .u64 0) (.int .u64 0) (.int .u64 0) (.string ⟨#[]⟩) (.int .i64 0) (.int .i64 0) (.bool false) (.slice none 0 0) (.int .u64 0) (some ⟨b, off, none⟩) cs len cap w hlen hl hcap hB h
  rw [hlq] at hL
  dsimp only at hL
  have d0 : ((len : Int) == 0) = false := by simp; omega
  have HL := Lib.hid hL
  have HR := Lib.hid hr
  have HLN := Lib.hid hlen
  have HE := Lib.hid hright
  clear hright
  clear hL hlen hcell hc0 hfirst hlq hr
  go_enter Try.func20, Try.ntmps20
  go_wp2_with fail
  generalize hX : (W.alloc (.cells #[.int .u8 0, .int .u64 0, .int .u64 0, .int .u64 0, .int .u64 0, .string ⟨#[]⟩, .int .i64 0, .int .i64 0, .bool false, .slice none 0 0, .int .u64 0, .string ⟨#[]⟩, .int .u64 0, .int .i64 0, .string ⟨#[]⟩] 38)).alloc (.cells #[.slice (some ⟨b, off, none⟩) len cap, .int .i64 1, .int .u8 2, .int .u64 0, .int .u64 0, .int .u64 0, .int .u64 0, .string ⟨#[]⟩, .int .i64 0, .int .i64 0, .bool false, .slice none 0 0, .int .u64 0, .string ⟨#[]⟩, .int .u64 0, .int .i64 0, .string ⟨#[]⟩] 79) = X
  have HB : Hid (Below W.heap.size W X) := Lib.hid (by rw [← hX]; exact ((Below.refl _ W).alloc (Nat.le_refl _) _).alloc (by simp) _)
  have HRS0 : Hid (Blk X W.heap.size #[.int .u8 0, .int .u64 0, .int .u64 0, .int .u64 0, .int .u64 0, .string ⟨#[]⟩, .int .i64 0, .int .i64 0, .bool false, .slice none 0 0, .int .u64 0, .string ⟨#[]⟩, .int .u64 0, .int .i64 0, .string ⟨#[]⟩] 38) := Lib.hid (by rw [← hX]; exact (blk_new W _ _).same (Below.heap_alloc _ _ _ (by simp)))
  have HGR : Hid (Blk X (W.heap.size + 1) #[.slice (some ⟨b, off, none⟩) len cap, .int .i64 1, .int .u8 2, .int .u64 0, .int .u64 0, .int .u64 0, .int .u64 0, .string ⟨#[]⟩, .int .i64 0, .int .i64 0, .bool false, .slice none 0 0, .int .u64 0, .string ⟨#[]⟩, .int .u64 0, .int .i64 0, .string ⟨#[]⟩] 79) := Lib.hid (by rw [← hX]; exact blk_at _ _ (by simp) _ _)
  clear hX
  refine (HL.out W.heap.size (W.heap.size + 1) X (by omega) (HR.out.below HB.out) HGR.out).mono ?_
  rintro e w1 ⟨rfl, ⟨up, hg1⟩, hk1⟩
  have HRS1 : Hid (Blk w1 W.heap.size #[.int .u8 0, .int .u64 0, .int .u64 0, .int .u64 0, .int .u64 0, .string ⟨#[]⟩, .int .i64 0, .int .i64 0, .bool false, .slice none 0 0, .int .u64 0, .string ⟨#[]⟩, .int .u64 0, .int .i64 0, .string ⟨#[]⟩] 38) := Lib.hid (hk1.blk HRS0.out (by omega))
  have HB1 : Hid (Below W.heap.size W w1) := Lib.hid (HB.out.trans (hk1.low HB.out.size (fun b hb e => by omega)))
  have HG1 := Lib.hid hg1
  have y0 : w1.cell? ⟨W.heap.size + 1, 2, none⟩ = some (.int .u8 2) := hg1.cell 2 rfl
  have y1 : w1.cell? ⟨W.heap.size + 1, 3, none⟩ = some (.int .u64 0) := hg1.cell 3 rfl
  have y2 : w1.cell? ⟨W.heap.size + 1, 4, none⟩ = some (.int .u64 0) := hg1.cell 4 rfl
  have y3 : w1.cell? ⟨W.heap.size + 1, 5, none⟩ = some (.int .u64 0) := hg1.cell 5 rfl
  have y4 : w1.cell? ⟨W.heap.size + 1, 6, none⟩ = some (.int .u64 0) := hg1.cell 6 rfl
  have y5 : w1.cell? ⟨W.heap.size + 1, 7, none⟩ = some (.string ⟨#[]⟩) := hg1.cell 7 rfl
  have y6 : w1.cell? ⟨W.heap.size + 1, 8, none⟩ = some (.int .i64 0) := hg1.cell 8 rfl
  have y7 : w1.cell? ⟨W.heap.size + 1, 9, none⟩ = some (.int .i64 0) := hg1.cell 9 rfl
  have y8 : w1.cell? ⟨W.heap.size + 1, 10, none⟩ = some (.bool false) := hg1.cell 10 rfl
  have y9 : w1.cell? ⟨W.heap.size + 1, 11, none⟩ = some (.slice none 0 0) := hg1.cell 11 rfl
  have y10 : w1.cell? ⟨W.heap.size + 1, 12, none⟩ = some (.int .u64 0) := hg1.cell 12 rfl
  have y11 : w1.cell? ⟨W.heap.size + 1, 13, none⟩ = some (.string key) := hg1.cell 13 rfl
  have y12 : w1.cell? ⟨W.heap.size + 1, 14, none⟩ = some (.int .u64 (weight : Int)) := hg1.cell 14 rfl
  have y13 : w1.cell? ⟨W.heap.size + 1, 15, none⟩ = some (.int .i64 a) := hg1.cell 15 rfl
  have y14 : w1.cell? ⟨W.heap.size + 1, 16, none⟩ = some (.string body) := hg1.cell 16 rfl
  clear hg1 hk1
  go_wp2_with fail
  refine (encode_bad_log 0 0 0 0 0 ⟨#[]⟩ 0 0 false none [] 0 0 key body weight a w1 (by omega) (by omega) HE.out).mono ?_
  rintro e w2 ⟨rfl, hb2⟩
  have HRS : Hid (Blk w2 W.heap.size #[.int .u8 0, .int .u64 0, .int .u64 0, .int .u64 0, .int .u64 0, .string ⟨#[]⟩, .int .i64 0, .int .i64 0, .bool false, .slice none 0 0, .int .u64 0, .string ⟨#[]⟩, .int .u64 0, .int .i64 0, .string ⟨#[]⟩] 38) := Lib.hid (HRS1.out.same (hb2.block _ HRS1.out.lt))
  have HB2 : Hid (Below W.heap.size W w2) := Lib.hid (HB1.out.trans (hb2.mono HB1.out.size))
  clear hb2
  have r0 : w2.cell? ⟨W.heap.size, 0, none⟩ = some (.int .u8 0) := HRS.out.cell 0 rfl
  have f0 := HRS.out.free 0
  have r1 : w2.cell? ⟨W.heap.size, 1, none⟩ = some (.int .u64 0) := HRS.out.cell 1 rfl
  have f1 := HRS.out.free 1
  have r2 : w2.cell? ⟨W.heap.size, 2, none⟩ = some (.int .u64 0) := HRS.out.cell 2 rfl
  have f2 := HRS.out.free 2
  have r3 : w2.cell? ⟨W.heap.size, 3, none⟩ = some (.int .u64 0) := HRS.out.cell 3 rfl
  have f3 := HRS.out.free 3
  have r4 : w2.cell? ⟨W.heap.size, 4, none⟩ = some (.int .u64 0) := HRS.out.cell 4 rfl
  have f4 := HRS.out.free 4
  have r5 : w2.cell? ⟨W.heap.size, 5, none⟩ = some (.string ⟨#[]⟩) := HRS.out.cell 5 rfl
  have f5 := HRS.out.free 5
  have r6 : w2.cell? ⟨W.heap.size, 6, none⟩ = some (.int .i64 0) := HRS.out.cell 6 rfl
  have f6 := HRS.out.free 6
  have r7 : w2.cell? ⟨W.heap.size, 7, none⟩ = some (.int .i64 0) := HRS.out.cell 7 rfl
  have f7 := HRS.out.free 7
  have r8 : w2.cell? ⟨W.heap.size, 8, none⟩ = some (.bool false) := HRS.out.cell 8 rfl
  have f8 := HRS.out.free 8
  have r9 : w2.cell? ⟨W.heap.size, 9, none⟩ = some (.slice none 0 0) := HRS.out.cell 9 rfl
  have f9 := HRS.out.free 9
  have r10 : w2.cell? ⟨W.heap.size, 10, none⟩ = some (.int .u64 0) := HRS.out.cell 10 rfl
  have f10 := HRS.out.free 10
  have r11 : w2.cell? ⟨W.heap.size, 11, none⟩ = some (.string ⟨#[]⟩) := HRS.out.cell 11 rfl
  have f11 := HRS.out.free 11
  have r12 : w2.cell? ⟨W.heap.size, 12, none⟩ = some (.int .u64 0) := HRS.out.cell 12 rfl
  have f12 := HRS.out.free 12
  have r13 : w2.cell? ⟨W.heap.size, 13, none⟩ = some (.int .i64 0) := HRS.out.cell 13 rfl
  have f13 := HRS.out.free 13
  have r14 : w2.cell? ⟨W.heap.size, 14, none⟩ = some (.string ⟨#[]⟩) := HRS.out.cell 14 rfl
  have f14 := HRS.out.free 14
  go_wp2_with fail
  exact bodyPost_ret (v := .tuple #[.agg #[.int .u8 0, .int .u64 0, .int .u64 0, .int .u64 0, .int .u64 0, .string ⟨#[]⟩, .int .i64 0, .int .i64 0, .bool false, .slice none 0 0, .int .u64 0, .string ⟨#[]⟩, .int .u64 0, .int .i64 0, .string ⟨#[]⟩], .int .u16 40]) (by simp [results, Try.results20, go_sem, r0, r1, r2, r3, r4, r5, r6, r7, r8, r9, r10, r11, r12, r13, r14]) rfl ⟨rfl, (((((((((((((((HB2.out.setCell (p := ⟨W.heap.size, 0, none⟩) (Nat.le_refl _) _).setCell (p := ⟨W.heap.size, 1, none⟩) (Nat.le_refl _) _).setCell (p := ⟨W.heap.size, 2, none⟩) (Nat.le_refl _) _).setCell (p := ⟨W.heap.size, 3, none⟩) (Nat.le_refl _) _).setCell (p := ⟨W.heap.size, 4, none⟩) (Nat.le_refl _) _).setCell (p := ⟨W.heap.size, 5, none⟩) (Nat.le_refl _) _).setCell (p := ⟨W.heap.size, 6, none⟩) (Nat.le_refl _) _).setCell (p := ⟨W.heap.size, 7, none⟩) (Nat.le_refl _) _).setCell (p := ⟨W.heap.size, 8, none⟩) (Nat.le_refl _) _).setCell (p := ⟨W.heap.size, 9, none⟩) (Nat.le_refl _) _).setCell (p := ⟨W.heap.size, 10, none⟩) (Nat.le_refl _) _).setCell (p := ⟨W.heap.size, 11, none⟩) (Nat.le_refl _) _).setCell (p := ⟨W.heap.size, 12, none⟩) (Nat.le_refl _) _).setCell (p := ⟨W.heap.size, 13, none⟩) (Nat.le_refl _) _).setCell (p := ⟨W.heap.size, 14, none⟩) (Nat.le_refl _) _)⟩

set_option linter.unusedSimpArgs false in
set_option linter.unusedVariables false in
set_option maxRecDepth 100000 in
set_option maxHeartbeats 4000000 in
/-- A log that is written otherwise. -/
theorem decode_log_other (A : Option Addr) (cs : List UInt8) (len cap : Nat) (W : World) (hlen : cs.length = len) (hpos : 0 < len) (hl : len ≤ cap) (hcap : cap ≤ 9223372036854775807) (hr : Holds8 W.heap.size W A cs) (hfirst : cs.getD 0 0 = 2) (hright : rightLog (readLog cs) = true) (heq : ¬ (2 : UInt8) :: encLog (readLog cs) = cs) :
    Calls Try.prog 20 #[.slice A len cap] W fun e W' => e = .returned (.tuple #[.agg #[.int .u8 0, .int .u64 0, .int .u64 0, .int .u64 0, .int .u64 0, .string ⟨#[]⟩, .int .i64 0, .int .i64 0, .bool false, .slice none 0 0, .int .u64 0, .string ⟨#[]⟩, .int .u64 0, .int .i64 0, .string ⟨#[]⟩], .int .u16 40]) ∧ Below W.heap.size W W' := by
  have hc0 : cs.getD 0 0 = 2 := hfirst
  have hsz := readLog_len cs
  obtain ⟨l, hlq⟩ : ∃ l, readLog cs = l := ⟨_, rfl⟩
  obtain ⟨key, weight, a, body⟩ := l
  rw [hlq] at hright heq hsz
  dsimp only at hsz
  obtain ⟨b, off, rfl, hbl, hcell⟩ := hr (by omega)
  have x0 : W.cell? ⟨b, off, none⟩ = some (.int .u8 2) := by
    have h := hcell 0 (by omega)
    rw [hc0] at h
    exact h
  have hL := fun (B gr : Nat) (w : World) (hB : B ≤ gr) (h : Holds8 B w (some ⟨b, off, none⟩) cs) => readLog_any B gr (.int .u8 2) (.int .u64 0) (.int .u64 0) (.int .u64 0) (.int .u64 0) (.string ⟨#[]⟩) (.int .i64 0) (.int .i64 0) (.bool false) (.slice none 0 0) (.int .u64 0) (some ⟨b, off, none⟩) cs len cap w hlen hl hcap hB h
  rw [hlq] at hL
  dsimp only at hL
  have d0 : ((len : Int) == 0) = false := by simp; omega
  have HL := Lib.hid hL
  have HR := Lib.hid hr
  have HLN := Lib.hid hlen
  obtain ⟨z, hz⟩ : ∃ z, (2 : UInt8) :: encLog ⟨key, weight, a, body⟩ = z := ⟨_, rfl⟩
  rw [hz] at heq
  obtain ⟨m, hm⟩ : ∃ m, z.length = m := ⟨_, rfl⟩
  have HZ := Lib.hid hz
  have HM := Lib.hid hm
  have HEQ := Lib.hid heq
  have HE := Lib.hid hright
  clear hright hz hm heq
  clear hL hlen hcell hc0 hfirst hlq hr
  go_enter Try.func20, Try.ntmps20
  go_wp2_with fail
  generalize hX : (W.alloc (.cells #[.int .u8 0, .int .u64 0, .int .u64 0, .int .u64 0, .int .u64 0, .string ⟨#[]⟩, .int .i64 0, .int .i64 0, .bool false, .slice none 0 0, .int .u64 0, .string ⟨#[]⟩, .int .u64 0, .int .i64 0, .string ⟨#[]⟩] 38)).alloc (.cells #[.slice (some ⟨b, off, none⟩) len cap, .int .i64 1, .int .u8 2, .int .u64 0, .int .u64 0, .int .u64 0, .int .u64 0, .string ⟨#[]⟩, .int .i64 0, .int .i64 0, .bool false, .slice none 0 0, .int .u64 0, .string ⟨#[]⟩, .int .u64 0, .int .i64 0, .string ⟨#[]⟩] 79) = X
  have HB : Hid (Below W.heap.size W X) := Lib.hid (by rw [← hX]; exact ((Below.refl _ W).alloc (Nat.le_refl _) _).alloc (by simp) _)
  have HRS0 : Hid (Blk X W.heap.size #[.int .u8 0, .int .u64 0, .int .u64 0, .int .u64 0, .int .u64 0, .string ⟨#[]⟩, .int .i64 0, .int .i64 0, .bool false, .slice none 0 0, .int .u64 0, .string ⟨#[]⟩, .int .u64 0, .int .i64 0, .string ⟨#[]⟩] 38) := Lib.hid (by rw [← hX]; exact (blk_new W _ _).same (Below.heap_alloc _ _ _ (by simp)))
  have HGR : Hid (Blk X (W.heap.size + 1) #[.slice (some ⟨b, off, none⟩) len cap, .int .i64 1, .int .u8 2, .int .u64 0, .int .u64 0, .int .u64 0, .int .u64 0, .string ⟨#[]⟩, .int .i64 0, .int .i64 0, .bool false, .slice none 0 0, .int .u64 0, .string ⟨#[]⟩, .int .u64 0, .int .i64 0, .string ⟨#[]⟩] 79) := Lib.hid (by rw [← hX]; exact blk_at _ _ (by simp) _ _)
  clear hX
  refine (HL.out W.heap.size (W.heap.size + 1) X (by omega) (HR.out.below HB.out) HGR.out).mono ?_
  rintro e w1 ⟨rfl, ⟨up, hg1⟩, hk1⟩
  have HRS1 : Hid (Blk w1 W.heap.size #[.int .u8 0, .int .u64 0, .int .u64 0, .int .u64 0, .int .u64 0, .string ⟨#[]⟩, .int .i64 0, .int .i64 0, .bool false, .slice none 0 0, .int .u64 0, .string ⟨#[]⟩, .int .u64 0, .int .i64 0, .string ⟨#[]⟩] 38) := Lib.hid (hk1.blk HRS0.out (by omega))
  have HB1 : Hid (Below W.heap.size W w1) := Lib.hid (HB.out.trans (hk1.low HB.out.size (fun b hb e => by omega)))
  have HG1 := Lib.hid hg1
  have y0 : w1.cell? ⟨W.heap.size + 1, 2, none⟩ = some (.int .u8 2) := hg1.cell 2 rfl
  have y1 : w1.cell? ⟨W.heap.size + 1, 3, none⟩ = some (.int .u64 0) := hg1.cell 3 rfl
  have y2 : w1.cell? ⟨W.heap.size + 1, 4, none⟩ = some (.int .u64 0) := hg1.cell 4 rfl
  have y3 : w1.cell? ⟨W.heap.size + 1, 5, none⟩ = some (.int .u64 0) := hg1.cell 5 rfl
  have y4 : w1.cell? ⟨W.heap.size + 1, 6, none⟩ = some (.int .u64 0) := hg1.cell 6 rfl
  have y5 : w1.cell? ⟨W.heap.size + 1, 7, none⟩ = some (.string ⟨#[]⟩) := hg1.cell 7 rfl
  have y6 : w1.cell? ⟨W.heap.size + 1, 8, none⟩ = some (.int .i64 0) := hg1.cell 8 rfl
  have y7 : w1.cell? ⟨W.heap.size + 1, 9, none⟩ = some (.int .i64 0) := hg1.cell 9 rfl
  have y8 : w1.cell? ⟨W.heap.size + 1, 10, none⟩ = some (.bool false) := hg1.cell 10 rfl
  have y9 : w1.cell? ⟨W.heap.size + 1, 11, none⟩ = some (.slice none 0 0) := hg1.cell 11 rfl
  have y10 : w1.cell? ⟨W.heap.size + 1, 12, none⟩ = some (.int .u64 0) := hg1.cell 12 rfl
  have y11 : w1.cell? ⟨W.heap.size + 1, 13, none⟩ = some (.string key) := hg1.cell 13 rfl
  have y12 : w1.cell? ⟨W.heap.size + 1, 14, none⟩ = some (.int .u64 (weight : Int)) := hg1.cell 14 rfl
  have y13 : w1.cell? ⟨W.heap.size + 1, 15, none⟩ = some (.int .i64 a) := hg1.cell 15 rfl
  have y14 : w1.cell? ⟨W.heap.size + 1, 16, none⟩ = some (.string body) := hg1.cell 16 rfl
  clear hg1 hk1
  go_wp2_with fail
  refine (encode_log key body weight a w1 HE.out z m HZ.out HM.out).mono ?_
  rintro e w2 ⟨A2, c2, rfl, hown, hb2⟩
  have HRS : Hid (Blk w2 W.heap.size #[.int .u8 0, .int .u64 0, .int .u64 0, .int .u64 0, .int .u64 0, .string ⟨#[]⟩, .int .i64 0, .int .i64 0, .bool false, .slice none 0 0, .int .u64 0, .string ⟨#[]⟩, .int .u64 0, .int .i64 0, .string ⟨#[]⟩] 38) := Lib.hid (HRS1.out.same (hb2.block _ HRS1.out.lt))
  have HB2 : Hid (Below W.heap.size W w2) := Lib.hid (HB1.out.trans (hb2.mono HB1.out.size))
  have HG2 := Lib.hid (HG1.out.same (hb2.block _ HG1.out.lt))
  have HO := Lib.hid (own_facts hown).2.2
  clear hb2 hown y0 y1 y2 y3 y4 y5 y6 y7 y8 y9 y10 y11 y12 y13 y14
  go_wp2_with fail
  refine (equal_any A2 (some ⟨b, off, none⟩) z cs m len c2 cap w2 false HM.out HLN.out HO.out ((HR.out.below HB2.out).mono HB2.out.size) (by exact (decide_eq_false HEQ.out).symm)).mono ?_
  rintro e w3 ⟨rfl, rfl⟩
  have r0 : w2.cell? ⟨W.heap.size, 0, none⟩ = some (.int .u8 0) := HRS.out.cell 0 rfl
  have f0 := HRS.out.free 0
  have r1 : w2.cell? ⟨W.heap.size, 1, none⟩ = some (.int .u64 0) := HRS.out.cell 1 rfl
  have f1 := HRS.out.free 1
  have r2 : w2.cell? ⟨W.heap.size, 2, none⟩ = some (.int .u64 0) := HRS.out.cell 2 rfl
  have f2 := HRS.out.free 2
  have r3 : w2.cell? ⟨W.heap.size, 3, none⟩ = some (.int .u64 0) := HRS.out.cell 3 rfl
  have f3 := HRS.out.free 3
  have r4 : w2.cell? ⟨W.heap.size, 4, none⟩ = some (.int .u64 0) := HRS.out.cell 4 rfl
  have f4 := HRS.out.free 4
  have r5 : w2.cell? ⟨W.heap.size, 5, none⟩ = some (.string ⟨#[]⟩) := HRS.out.cell 5 rfl
  have f5 := HRS.out.free 5
  have r6 : w2.cell? ⟨W.heap.size, 6, none⟩ = some (.int .i64 0) := HRS.out.cell 6 rfl
  have f6 := HRS.out.free 6
  have r7 : w2.cell? ⟨W.heap.size, 7, none⟩ = some (.int .i64 0) := HRS.out.cell 7 rfl
  have f7 := HRS.out.free 7
  have r8 : w2.cell? ⟨W.heap.size, 8, none⟩ = some (.bool false) := HRS.out.cell 8 rfl
  have f8 := HRS.out.free 8
  have r9 : w2.cell? ⟨W.heap.size, 9, none⟩ = some (.slice none 0 0) := HRS.out.cell 9 rfl
  have f9 := HRS.out.free 9
  have r10 : w2.cell? ⟨W.heap.size, 10, none⟩ = some (.int .u64 0) := HRS.out.cell 10 rfl
  have f10 := HRS.out.free 10
  have r11 : w2.cell? ⟨W.heap.size, 11, none⟩ = some (.string ⟨#[]⟩) := HRS.out.cell 11 rfl
  have f11 := HRS.out.free 11
  have r12 : w2.cell? ⟨W.heap.size, 12, none⟩ = some (.int .u64 0) := HRS.out.cell 12 rfl
  have f12 := HRS.out.free 12
  have r13 : w2.cell? ⟨W.heap.size, 13, none⟩ = some (.int .i64 0) := HRS.out.cell 13 rfl
  have f13 := HRS.out.free 13
  have r14 : w2.cell? ⟨W.heap.size, 14, none⟩ = some (.string ⟨#[]⟩) := HRS.out.cell 14 rfl
  have f14 := HRS.out.free 14
  go_wp2_with fail
  exact bodyPost_ret (v := .tuple #[.agg #[.int .u8 0, .int .u64 0, .int .u64 0, .int .u64 0, .int .u64 0, .string ⟨#[]⟩, .int .i64 0, .int .i64 0, .bool false, .slice none 0 0, .int .u64 0, .string ⟨#[]⟩, .int .u64 0, .int .i64 0, .string ⟨#[]⟩], .int .u16 40]) (by simp [results, Try.results20, go_sem, r0, r1, r2, r3, r4, r5, r6, r7, r8, r9, r10, r11, r12, r13, r14]) rfl ⟨rfl, (((((((((((((((HB2.out.setCell (p := ⟨W.heap.size, 0, none⟩) (Nat.le_refl _) _).setCell (p := ⟨W.heap.size, 1, none⟩) (Nat.le_refl _) _).setCell (p := ⟨W.heap.size, 2, none⟩) (Nat.le_refl _) _).setCell (p := ⟨W.heap.size, 3, none⟩) (Nat.le_refl _) _).setCell (p := ⟨W.heap.size, 4, none⟩) (Nat.le_refl _) _).setCell (p := ⟨W.heap.size, 5, none⟩) (Nat.le_refl _) _).setCell (p := ⟨W.heap.size, 6, none⟩) (Nat.le_refl _) _).setCell (p := ⟨W.heap.size, 7, none⟩) (Nat.le_refl _) _).setCell (p := ⟨W.heap.size, 8, none⟩) (Nat.le_refl _) _).setCell (p := ⟨W.heap.size, 9, none⟩) (Nat.le_refl _) _).setCell (p := ⟨W.heap.size, 10, none⟩) (Nat.le_refl _) _).setCell (p := ⟨W.heap.size, 11, none⟩) (Nat.le_refl _) _).setCell (p := ⟨W.heap.size, 12, none⟩) (Nat.le_refl _) _).setCell (p := ⟨W.heap.size, 13, none⟩) (Nat.le_refl _) _).setCell (p := ⟨W.heap.size, 14, none⟩) (Nat.le_refl _) _)⟩

set_option linter.unusedSimpArgs false in
set_option linter.unusedVariables false in
set_option maxRecDepth 100000 in
set_option maxHeartbeats 4000000 in
/-- **A log told back.** -/
theorem decode_log (A : Option Addr) (cs : List UInt8) (len cap : Nat) (W : World) (hlen : cs.length = len) (hpos : 0 < len) (hl : len ≤ cap) (hcap : cap ≤ 9223372036854775807) (hr : Holds8 W.heap.size W A cs) (hfirst : cs.getD 0 0 = 2) (hright : rightLog (readLog cs) = true) (heq : (2 : UInt8) :: encLog (readLog cs) = cs) :
    Calls Try.prog 20 #[.slice A len cap] W fun e W' => e = .returned (.tuple #[.agg #[.int .u8 2, .int .u64 0, .int .u64 0, .int .u64 0, .int .u64 0, .string ⟨#[]⟩, .int .i64 0, .int .i64 0, .bool false, .slice none 0 0, .int .u64 0, .string (readLog cs).key, .int .u64 ((readLog cs).weight : Int), .int .i64 (readLog cs).at_, .string (readLog cs).body], .int .u16 0]) ∧ Below W.heap.size W W' := by
  have hc0 : cs.getD 0 0 = 2 := hfirst
  have hsz := readLog_len cs
  obtain ⟨l, hlq⟩ : ∃ l, readLog cs = l := ⟨_, rfl⟩
  obtain ⟨key, weight, a, body⟩ := l
  rw [hlq] at hright heq hsz ⊢
  dsimp only at hsz ⊢
  obtain ⟨b, off, rfl, hbl, hcell⟩ := hr (by omega)
  have x0 : W.cell? ⟨b, off, none⟩ = some (.int .u8 2) := by
    have h := hcell 0 (by omega)
    rw [hc0] at h
    exact h
  have hL := fun (B gr : Nat) (w : World) (hB : B ≤ gr) (h : Holds8 B w (some ⟨b, off, none⟩) cs) => readLog_any B gr (.int .u8 2) (.int .u64 0) (.int .u64 0) (.int .u64 0) (.int .u64 0) (.string ⟨#[]⟩) (.int .i64 0) (.int .i64 0) (.bool false) (.slice none 0 0) (.int .u64 0) (some ⟨b, off, none⟩) cs len cap w hlen hl hcap hB h
  rw [hlq] at hL
  dsimp only at hL
  have d0 : ((len : Int) == 0) = false := by simp; omega
  have HL := Lib.hid hL
  have HR := Lib.hid hr
  have HLN := Lib.hid hlen
  obtain ⟨z, hz⟩ : ∃ z, (2 : UInt8) :: encLog ⟨key, weight, a, body⟩ = z := ⟨_, rfl⟩
  rw [hz] at heq
  obtain ⟨m, hm⟩ : ∃ m, z.length = m := ⟨_, rfl⟩
  have HZ := Lib.hid hz
  have HM := Lib.hid hm
  have HEQ := Lib.hid heq
  have HE := Lib.hid hright
  clear hright hz hm heq
  clear hL hlen hcell hc0 hfirst hlq hr
  go_enter Try.func20, Try.ntmps20
  go_wp2_with fail
  generalize hX : (W.alloc (.cells #[.int .u8 0, .int .u64 0, .int .u64 0, .int .u64 0, .int .u64 0, .string ⟨#[]⟩, .int .i64 0, .int .i64 0, .bool false, .slice none 0 0, .int .u64 0, .string ⟨#[]⟩, .int .u64 0, .int .i64 0, .string ⟨#[]⟩] 38)).alloc (.cells #[.slice (some ⟨b, off, none⟩) len cap, .int .i64 1, .int .u8 2, .int .u64 0, .int .u64 0, .int .u64 0, .int .u64 0, .string ⟨#[]⟩, .int .i64 0, .int .i64 0, .bool false, .slice none 0 0, .int .u64 0, .string ⟨#[]⟩, .int .u64 0, .int .i64 0, .string ⟨#[]⟩] 79) = X
  have HB : Hid (Below W.heap.size W X) := Lib.hid (by rw [← hX]; exact ((Below.refl _ W).alloc (Nat.le_refl _) _).alloc (by simp) _)
  have HRS0 : Hid (Blk X W.heap.size #[.int .u8 0, .int .u64 0, .int .u64 0, .int .u64 0, .int .u64 0, .string ⟨#[]⟩, .int .i64 0, .int .i64 0, .bool false, .slice none 0 0, .int .u64 0, .string ⟨#[]⟩, .int .u64 0, .int .i64 0, .string ⟨#[]⟩] 38) := Lib.hid (by rw [← hX]; exact (blk_new W _ _).same (Below.heap_alloc _ _ _ (by simp)))
  have HGR : Hid (Blk X (W.heap.size + 1) #[.slice (some ⟨b, off, none⟩) len cap, .int .i64 1, .int .u8 2, .int .u64 0, .int .u64 0, .int .u64 0, .int .u64 0, .string ⟨#[]⟩, .int .i64 0, .int .i64 0, .bool false, .slice none 0 0, .int .u64 0, .string ⟨#[]⟩, .int .u64 0, .int .i64 0, .string ⟨#[]⟩] 79) := Lib.hid (by rw [← hX]; exact blk_at _ _ (by simp) _ _)
  clear hX
  refine (HL.out W.heap.size (W.heap.size + 1) X (by omega) (HR.out.below HB.out) HGR.out).mono ?_
  rintro e w1 ⟨rfl, ⟨up, hg1⟩, hk1⟩
  have HRS1 : Hid (Blk w1 W.heap.size #[.int .u8 0, .int .u64 0, .int .u64 0, .int .u64 0, .int .u64 0, .string ⟨#[]⟩, .int .i64 0, .int .i64 0, .bool false, .slice none 0 0, .int .u64 0, .string ⟨#[]⟩, .int .u64 0, .int .i64 0, .string ⟨#[]⟩] 38) := Lib.hid (hk1.blk HRS0.out (by omega))
  have HB1 : Hid (Below W.heap.size W w1) := Lib.hid (HB.out.trans (hk1.low HB.out.size (fun b hb e => by omega)))
  have HG1 := Lib.hid hg1
  have y0 : w1.cell? ⟨W.heap.size + 1, 2, none⟩ = some (.int .u8 2) := hg1.cell 2 rfl
  have y1 : w1.cell? ⟨W.heap.size + 1, 3, none⟩ = some (.int .u64 0) := hg1.cell 3 rfl
  have y2 : w1.cell? ⟨W.heap.size + 1, 4, none⟩ = some (.int .u64 0) := hg1.cell 4 rfl
  have y3 : w1.cell? ⟨W.heap.size + 1, 5, none⟩ = some (.int .u64 0) := hg1.cell 5 rfl
  have y4 : w1.cell? ⟨W.heap.size + 1, 6, none⟩ = some (.int .u64 0) := hg1.cell 6 rfl
  have y5 : w1.cell? ⟨W.heap.size + 1, 7, none⟩ = some (.string ⟨#[]⟩) := hg1.cell 7 rfl
  have y6 : w1.cell? ⟨W.heap.size + 1, 8, none⟩ = some (.int .i64 0) := hg1.cell 8 rfl
  have y7 : w1.cell? ⟨W.heap.size + 1, 9, none⟩ = some (.int .i64 0) := hg1.cell 9 rfl
  have y8 : w1.cell? ⟨W.heap.size + 1, 10, none⟩ = some (.bool false) := hg1.cell 10 rfl
  have y9 : w1.cell? ⟨W.heap.size + 1, 11, none⟩ = some (.slice none 0 0) := hg1.cell 11 rfl
  have y10 : w1.cell? ⟨W.heap.size + 1, 12, none⟩ = some (.int .u64 0) := hg1.cell 12 rfl
  have y11 : w1.cell? ⟨W.heap.size + 1, 13, none⟩ = some (.string key) := hg1.cell 13 rfl
  have y12 : w1.cell? ⟨W.heap.size + 1, 14, none⟩ = some (.int .u64 (weight : Int)) := hg1.cell 14 rfl
  have y13 : w1.cell? ⟨W.heap.size + 1, 15, none⟩ = some (.int .i64 a) := hg1.cell 15 rfl
  have y14 : w1.cell? ⟨W.heap.size + 1, 16, none⟩ = some (.string body) := hg1.cell 16 rfl
  clear hg1 hk1
  go_wp2_with fail
  refine (encode_log key body weight a w1 HE.out z m HZ.out HM.out).mono ?_
  rintro e w2 ⟨A2, c2, rfl, hown, hb2⟩
  have HRS : Hid (Blk w2 W.heap.size #[.int .u8 0, .int .u64 0, .int .u64 0, .int .u64 0, .int .u64 0, .string ⟨#[]⟩, .int .i64 0, .int .i64 0, .bool false, .slice none 0 0, .int .u64 0, .string ⟨#[]⟩, .int .u64 0, .int .i64 0, .string ⟨#[]⟩] 38) := Lib.hid (HRS1.out.same (hb2.block _ HRS1.out.lt))
  have HB2 : Hid (Below W.heap.size W w2) := Lib.hid (HB1.out.trans (hb2.mono HB1.out.size))
  have HG2 := Lib.hid (HG1.out.same (hb2.block _ HG1.out.lt))
  have HO := Lib.hid (own_facts hown).2.2
  clear hb2 hown y0 y1 y2 y3 y4 y5 y6 y7 y8 y9 y10 y11 y12 y13 y14
  go_wp2_with fail
  refine (equal_any A2 (some ⟨b, off, none⟩) z cs m len c2 cap w2 true HM.out HLN.out HO.out ((HR.out.below HB2.out).mono HB2.out.size) (by rw [HEQ.out]; simp)).mono ?_
  rintro e w3 ⟨rfl, rfl⟩
  have r0 : w2.cell? ⟨W.heap.size, 0, none⟩ = some (.int .u8 0) := HRS.out.cell 0 rfl
  have f0 := HRS.out.free 0
  have r1 : w2.cell? ⟨W.heap.size, 1, none⟩ = some (.int .u64 0) := HRS.out.cell 1 rfl
  have f1 := HRS.out.free 1
  have r2 : w2.cell? ⟨W.heap.size, 2, none⟩ = some (.int .u64 0) := HRS.out.cell 2 rfl
  have f2 := HRS.out.free 2
  have r3 : w2.cell? ⟨W.heap.size, 3, none⟩ = some (.int .u64 0) := HRS.out.cell 3 rfl
  have f3 := HRS.out.free 3
  have r4 : w2.cell? ⟨W.heap.size, 4, none⟩ = some (.int .u64 0) := HRS.out.cell 4 rfl
  have f4 := HRS.out.free 4
  have r5 : w2.cell? ⟨W.heap.size, 5, none⟩ = some (.string ⟨#[]⟩) := HRS.out.cell 5 rfl
  have f5 := HRS.out.free 5
  have r6 : w2.cell? ⟨W.heap.size, 6, none⟩ = some (.int .i64 0) := HRS.out.cell 6 rfl
  have f6 := HRS.out.free 6
  have r7 : w2.cell? ⟨W.heap.size, 7, none⟩ = some (.int .i64 0) := HRS.out.cell 7 rfl
  have f7 := HRS.out.free 7
  have r8 : w2.cell? ⟨W.heap.size, 8, none⟩ = some (.bool false) := HRS.out.cell 8 rfl
  have f8 := HRS.out.free 8
  have r9 : w2.cell? ⟨W.heap.size, 9, none⟩ = some (.slice none 0 0) := HRS.out.cell 9 rfl
  have f9 := HRS.out.free 9
  have r10 : w2.cell? ⟨W.heap.size, 10, none⟩ = some (.int .u64 0) := HRS.out.cell 10 rfl
  have f10 := HRS.out.free 10
  have r11 : w2.cell? ⟨W.heap.size, 11, none⟩ = some (.string ⟨#[]⟩) := HRS.out.cell 11 rfl
  have f11 := HRS.out.free 11
  have r12 : w2.cell? ⟨W.heap.size, 12, none⟩ = some (.int .u64 0) := HRS.out.cell 12 rfl
  have f12 := HRS.out.free 12
  have r13 : w2.cell? ⟨W.heap.size, 13, none⟩ = some (.int .i64 0) := HRS.out.cell 13 rfl
  have f13 := HRS.out.free 13
  have r14 : w2.cell? ⟨W.heap.size, 14, none⟩ = some (.string ⟨#[]⟩) := HRS.out.cell 14 rfl
  have f14 := HRS.out.free 14
  have y0 : w2.cell? ⟨W.heap.size + 1, 2, none⟩ = some (.int .u8 2) := HG2.out.cell 2 rfl
  have y1 : w2.cell? ⟨W.heap.size + 1, 3, none⟩ = some (.int .u64 0) := HG2.out.cell 3 rfl
  have y2 : w2.cell? ⟨W.heap.size + 1, 4, none⟩ = some (.int .u64 0) := HG2.out.cell 4 rfl
  have y3 : w2.cell? ⟨W.heap.size + 1, 5, none⟩ = some (.int .u64 0) := HG2.out.cell 5 rfl
  have y4 : w2.cell? ⟨W.heap.size + 1, 6, none⟩ = some (.int .u64 0) := HG2.out.cell 6 rfl
  have y5 : w2.cell? ⟨W.heap.size + 1, 7, none⟩ = some (.string ⟨#[]⟩) := HG2.out.cell 7 rfl
  have y6 : w2.cell? ⟨W.heap.size + 1, 8, none⟩ = some (.int .i64 0) := HG2.out.cell 8 rfl
  have y7 : w2.cell? ⟨W.heap.size + 1, 9, none⟩ = some (.int .i64 0) := HG2.out.cell 9 rfl
  have y8 : w2.cell? ⟨W.heap.size + 1, 10, none⟩ = some (.bool false) := HG2.out.cell 10 rfl
  have y9 : w2.cell? ⟨W.heap.size + 1, 11, none⟩ = some (.slice none 0 0) := HG2.out.cell 11 rfl
  have y10 : w2.cell? ⟨W.heap.size + 1, 12, none⟩ = some (.int .u64 0) := HG2.out.cell 12 rfl
  have y11 : w2.cell? ⟨W.heap.size + 1, 13, none⟩ = some (.string key) := HG2.out.cell 13 rfl
  have y12 : w2.cell? ⟨W.heap.size + 1, 14, none⟩ = some (.int .u64 (weight : Int)) := HG2.out.cell 14 rfl
  have y13 : w2.cell? ⟨W.heap.size + 1, 15, none⟩ = some (.int .i64 a) := HG2.out.cell 15 rfl
  have y14 : w2.cell? ⟨W.heap.size + 1, 16, none⟩ = some (.string body) := HG2.out.cell 16 rfl
  go_wp2_with fail
  exact bodyPost_ret (v := .tuple #[.agg #[.int .u8 2, .int .u64 0, .int .u64 0, .int .u64 0, .int .u64 0, .string ⟨#[]⟩, .int .i64 0, .int .i64 0, .bool false, .slice none 0 0, .int .u64 0, .string key, .int .u64 (weight : Int), .int .i64 a, .string body], .int .u16 0]) (by simp [results, Try.results20, go_sem, r0, r1, r2, r3, r4, r5, r6, r7, r8, r9, r10, r11, r12, r13, r14]) rfl ⟨rfl, (((((((((((((((HB2.out.setCell (p := ⟨W.heap.size, 0, none⟩) (Nat.le_refl _) _).setCell (p := ⟨W.heap.size, 1, none⟩) (Nat.le_refl _) _).setCell (p := ⟨W.heap.size, 2, none⟩) (Nat.le_refl _) _).setCell (p := ⟨W.heap.size, 3, none⟩) (Nat.le_refl _) _).setCell (p := ⟨W.heap.size, 4, none⟩) (Nat.le_refl _) _).setCell (p := ⟨W.heap.size, 5, none⟩) (Nat.le_refl _) _).setCell (p := ⟨W.heap.size, 6, none⟩) (Nat.le_refl _) _).setCell (p := ⟨W.heap.size, 7, none⟩) (Nat.le_refl _) _).setCell (p := ⟨W.heap.size, 8, none⟩) (Nat.le_refl _) _).setCell (p := ⟨W.heap.size, 9, none⟩) (Nat.le_refl _) _).setCell (p := ⟨W.heap.size, 10, none⟩) (Nat.le_refl _) _).setCell (p := ⟨W.heap.size, 11, none⟩) (Nat.le_refl _) _).setCell (p := ⟨W.heap.size, 12, none⟩) (Nat.le_refl _) _).setCell (p := ⟨W.heap.size, 13, none⟩) (Nat.le_refl _) _).setCell (p := ⟨W.heap.size, 14, none⟩) (Nat.le_refl _) _)⟩

end Go.Proofs.Ytklgggolkclebaa
