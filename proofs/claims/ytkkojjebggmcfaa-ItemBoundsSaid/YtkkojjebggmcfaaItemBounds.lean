/-
  Proved: ItemBounds returns true for all bytes: a span ends no earlier than it begins, and has a trace and a number; a log weighs something. No condition.
-/
import Derived.Test.YtkkojjebggmcfaaAgain
import Derived.Test.YtkkojjebggmcfaaItemOf
import Derived.Test.YtkkojjebggmcfaaItemKnown
namespace Go.Proofs.Ytkkojjebggmcfaa
open Go.ChangeShapes Go.WideShapes Go.ChangeAt Go.RowKit Go.Proofs.NumMath Go.Proofs.ItemMath

set_option linter.unusedVariables false in
theorem right_when {hi lo id par rv : Nat} {name : ByteArray} {start stop : Int} {bad : Bool} {l : List Attr} (h : rightSpan ⟨hi, lo, id, par, name, start, stop, bad, l, rv⟩ = true) (a b : Nat) (ha : a < 256) (hb : b < 256) :
    rightSpan ⟨hi, lo, id, par, name, (a : Int), (b : Int), bad, l, rv⟩ = decide ((a : Int) ≤ (b : Int)) := by
  unfold rightSpan at h ⊢
  simp only [Bool.and_eq_true, decide_eq_true_eq] at h
  obtain ⟨⟨⟨⟨⟨⟨⟨h1, h2⟩, h3⟩, h4⟩, h5⟩, h6⟩, h7⟩, h8⟩ := h
  dsimp only
  rw [decide_eq_true h1, decide_eq_true h2, h3, h7, decide_eq_true h8, decide_eq_true (by omega : (0 : Int) ≤ (a : Int)), decide_eq_true (by omega : (b : Int) ≤ 1099511627776)]
  simp
set_option linter.unusedVariables false in
theorem right_trace {hi lo id par rv : Nat} {name : ByteArray} {start stop : Int} {bad : Bool} {l : List Attr} : rightSpan ⟨0, 0, id, par, name, start, stop, bad, l, rv⟩ = false := by
  unfold rightSpan
  simp
set_option linter.unusedVariables false in
theorem right_number {hi lo id par rv : Nat} {name : ByteArray} {start stop : Int} {bad : Bool} {l : List Attr} : rightSpan ⟨hi, lo, 0, par, name, start, stop, bad, l, rv⟩ = false := by
  unfold rightSpan
  simp
theorem right_weight {key body : ByteArray} {a : Int} : rightLog ⟨key, 0, a, body⟩ = false := by
  unfold rightLog
  simp

set_option linter.unusedSimpArgs false in
set_option linter.unusedVariables false in
set_option maxRecDepth 100000 in
set_option maxHeartbeats 4000000 in
theorem bounds_walk (A : Option Addr) (cs : List UInt8) (lc cc a b : Nat) (w : World) (hlc : cs.length = lc) (hA : Holds8 w.heap.size w A cs) (ha : a < 256) (hb : b < 256) :
    Calls Try.prog 3 #[.slice A lc cc, .int .u8 (a : Int), .int .u8 (b : Int)] w fun e w' => e = .returned (.bool true) ∧ Below w.heap.size w w' := by
  have hS := fun (W : World) (h : Below w.heap.size w W) => span_made A cs lc cc W hlc (hA.later h)
  have hright := spanOf_right cs
  have hparts := right_parts hright
  have hG := fun (W : World) (h : Below w.heap.size w W) => log_any A cs lc cc W hlc (hA.later h)
  have hlr := logOf_right cs
  have hlp := rightLog_parts hlr
  unfold logOf at hlr hlp
  dsimp only at hlp
  obtain ⟨sp, hsp⟩ : ∃ sp, spanOf cs = sp := ⟨_, rfl⟩
  rw [hsp] at hS hright hparts
  obtain ⟨hi, lo, id, par, name, start, stop, bad, l, rv⟩ := sp
  dsimp only at hS hparts
  obtain ⟨key, hkey⟩ : ∃ key, nameOf (at8 cs 0) = key := ⟨_, rfl⟩
  obtain ⟨weight, hweight⟩ : ∃ n, at8 cs 1 + 1 = n := ⟨_, rfl⟩
  obtain ⟨at0, hat0⟩ : ∃ a : Int, (at8 cs 2 : Int) = a := ⟨_, rfl⟩
  obtain ⟨body, hbody⟩ : ∃ s, bodyOf (at8 cs 3) = s := ⟨_, rfl⟩
  rw [hkey, hweight, hat0, hbody] at hG hlr hlp
  obtain ⟨p1, p2, p3, p4, p5, p6, p7, p8⟩ := hparts
  obtain ⟨q1, q2, q3, q4, q5, q6⟩ := hlp
  obtain ⟨ab, hab⟩ : ∃ r, decide ((a : Int) ≤ (b : Int)) = r := ⟨_, rfl⟩
  have hR1 := right_when hright a b ha hb
  rw [hab] at hR1
  have habn : decide (a ≤ b) = ab := by rw [← hab]; simp
  have hR := fun (hi' lo' id' : Nat) (s' t' : Int) (A' : Option Addr) (n' c' : Nat) (W : World) (r : Bool) (hn : l.length = n') (hh : HoldsA W.heap.size W A' l) (hr : rightSpan ⟨hi', lo', id', par, name, s', t', bad, l, rv⟩ = r) => rightSpan_any hi' lo' id' par rv name s' t' bad A' l n' c' W r hn (by omega) (by omega) hh hr
  have hRL := fun (w8 : Nat) (W : World) (r : Bool) (hr : rightLog ⟨key, w8, at0, body⟩ = r) => rightLog_any key body w8 at0 W r (by omega) (by omega) hr
  unfold spCells at hS hR
  unfold lgCells at hG hRL
  have ua : IntKind.i64.wrap (a : Int) = (a : Int) := IntWalk.i64_in _ (by omega)
  have ub : IntKind.i64.wrap (b : Int) = (b : Int) := IntWalk.i64_in _ (by omega)
  have HS := Lib.hid hS
  have HG := Lib.hid hG
  have HR := Lib.hid hR
  have HRL := Lib.hid hRL
  have HRI := Lib.hid hright
  have HLR := Lib.hid hlr
  have HR1 := Lib.hid hR1
  clear hS hG hright hlr hsp hkey hweight hat0 hbody hA hlc hR hRL hR1 p2 p3 p4 p5 p7 p8
  go_enter Try.func3, Try.ntmps3
  go_wp2_with fail
  refine (HS.out w (Below.refl w.heap.size w)).mono ?_
  rintro e w1 ⟨A1, n1, c1, rfl, hn, hA, hb⟩
  have HN1 := Lib.hid hn.symm
  have hl1 : n1 ≤ 8 := by omega
  have HA1 := Lib.hid hA
  have HB1 := Lib.hid ((Below.refl w.heap.size w).trans (hb.mono ((Below.refl w.heap.size w)).size))
  clear hn hA hb
  go_wp2_with fail
  generalize hX : w1.alloc (.cells #[.int .u64 (hi : Int), .int .u64 (lo : Int), .int .u64 (id : Int), .int .u64 (par : Int), .string name, .int .i64 (a : Int), .int .i64 (b : Int), .bool bad, .slice A1 n1 c1, .int .u64 (rv : Int)] 26) = X1
  have hx : Below w1.heap.size w1 X1 := by rw [← hX]; exact (Below.refl _ _).alloc (Nat.le_refl _) _
  have HA1_x1 := Lib.hid (HA1.out.later hx)
  clear HA1
  have G1 : Hid (Blk X1 w1.heap.size #[.int .u64 (hi : Int), .int .u64 (lo : Int), .int .u64 (id : Int), .int .u64 (par : Int), .string name, .int .i64 (a : Int), .int .i64 (b : Int), .bool bad, .slice A1 n1 c1, .int .u64 (rv : Int)] 26) := Lib.hid (by rw [← hX]; exact blk_new _ _ _)
  have HX1 := Lib.hid (HB1.out.trans (hx.mono (HB1.out).size))
  clear hX hx
  go_wp2_with fail
  refine (HS.out X1 HX1.out).mono ?_
  rintro e w2 ⟨A2, n2, c2, rfl, hn, hA, hb⟩
  have HN2 := Lib.hid hn.symm
  have hl2 : n2 ≤ 8 := by omega
  have HA1_2 := Lib.hid (HA1_x1.out.later hb)
  clear HA1_x1
  have G1_2 := Lib.hid (G1.out.same (hb.block _ G1.out.lt))
  clear G1
  have HA2 := Lib.hid hA
  have HB2 := Lib.hid (HX1.out.trans (hb.mono (HX1.out).size))
  clear hn hA hb
  go_wp2_with fail
  generalize hX : w2.alloc (.cells #[.int .u64 0, .int .u64 0, .int .u64 (id : Int), .int .u64 (par : Int), .string name, .int .i64 start, .int .i64 stop, .bool bad, .slice A2 n2 c2, .int .u64 (rv : Int)] 26) = X2
  have hx : Below w2.heap.size w2 X2 := by rw [← hX]; exact (Below.refl _ _).alloc (Nat.le_refl _) _
  have HA1_x2 := Lib.hid (HA1_2.out.later hx)
  clear HA1_2
  have G1_x2 := Lib.hid (G1_2.out.same (hx.block _ G1_2.out.lt))
  clear G1_2
  have HA2_x2 := Lib.hid (HA2.out.later hx)
  clear HA2
  have G2 : Hid (Blk X2 w2.heap.size #[.int .u64 0, .int .u64 0, .int .u64 (id : Int), .int .u64 (par : Int), .string name, .int .i64 start, .int .i64 stop, .bool bad, .slice A2 n2 c2, .int .u64 (rv : Int)] 26) := Lib.hid (by rw [← hX]; exact blk_new _ _ _)
  have HX2 := Lib.hid (HB2.out.trans (hx.mono (HB2.out).size))
  clear hX hx
  go_wp2_with fail
  refine (HS.out X2 HX2.out).mono ?_
  rintro e w3 ⟨A3, n3, c3, rfl, hn, hA, hb⟩
  have HN3 := Lib.hid hn.symm
  have hl3 : n3 ≤ 8 := by omega
  have HA1_3 := Lib.hid (HA1_x2.out.later hb)
  clear HA1_x2
  have G1_3 := Lib.hid (G1_x2.out.same (hb.block _ G1_x2.out.lt))
  clear G1_x2
  have HA2_3 := Lib.hid (HA2_x2.out.later hb)
  clear HA2_x2
  have G2_3 := Lib.hid (G2.out.same (hb.block _ G2.out.lt))
  clear G2
  have HA3 := Lib.hid hA
  have HB3 := Lib.hid (HX2.out.trans (hb.mono (HX2.out).size))
  clear hn hA hb
  go_wp2_with fail
  generalize hX : w3.alloc (.cells #[.int .u64 (hi : Int), .int .u64 (lo : Int), .int .u64 0, .int .u64 (par : Int), .string name, .int .i64 start, .int .i64 stop, .bool bad, .slice A3 n3 c3, .int .u64 (rv : Int)] 26) = X3
  have hx : Below w3.heap.size w3 X3 := by rw [← hX]; exact (Below.refl _ _).alloc (Nat.le_refl _) _
  have HA1_x3 := Lib.hid (HA1_3.out.later hx)
  clear HA1_3
  have G1_x3 := Lib.hid (G1_3.out.same (hx.block _ G1_3.out.lt))
  clear G1_3
  have HA2_x3 := Lib.hid (HA2_3.out.later hx)
  clear HA2_3
  have G2_x3 := Lib.hid (G2_3.out.same (hx.block _ G2_3.out.lt))
  clear G2_3
  have HA3_x3 := Lib.hid (HA3.out.later hx)
  clear HA3
  have G3 : Hid (Blk X3 w3.heap.size #[.int .u64 (hi : Int), .int .u64 (lo : Int), .int .u64 0, .int .u64 (par : Int), .string name, .int .i64 start, .int .i64 stop, .bool bad, .slice A3 n3 c3, .int .u64 (rv : Int)] 26) := Lib.hid (by rw [← hX]; exact blk_new _ _ _)
  have HX3 := Lib.hid (HB3.out.trans (hx.mono (HB3.out).size))
  clear hX hx
  go_wp2_with fail
  refine (HG.out X3 HX3.out).mono ?_
  rintro e w4 ⟨rfl, hb⟩
  have HA1_4 := Lib.hid (HA1_x3.out.later hb)
  clear HA1_x3
  have G1_4 := Lib.hid (G1_x3.out.same (hb.block _ G1_x3.out.lt))
  clear G1_x3
  have HA2_4 := Lib.hid (HA2_x3.out.later hb)
  clear HA2_x3
  have G2_4 := Lib.hid (G2_x3.out.same (hb.block _ G2_x3.out.lt))
  clear G2_x3
  have HA3_4 := Lib.hid (HA3_x3.out.later hb)
  clear HA3_x3
  have G3_4 := Lib.hid (G3.out.same (hb.block _ G3.out.lt))
  clear G3
  have HB4 := Lib.hid (HX3.out.trans (hb.mono (HX3.out).size))
  clear hb
  go_wp2_with fail
  generalize hX : w4.alloc (.cells #[.string key, .int .u64 0, .int .i64 at0, .string body] 29) = X4
  have hx : Below w4.heap.size w4 X4 := by rw [← hX]; exact (Below.refl _ _).alloc (Nat.le_refl _) _
  have HA1_x4 := Lib.hid (HA1_4.out.later hx)
  clear HA1_4
  have G1_x4 := Lib.hid (G1_4.out.same (hx.block _ G1_4.out.lt))
  clear G1_4
  have HA2_x4 := Lib.hid (HA2_4.out.later hx)
  clear HA2_4
  have G2_x4 := Lib.hid (G2_4.out.same (hx.block _ G2_4.out.lt))
  clear G2_4
  have HA3_x4 := Lib.hid (HA3_4.out.later hx)
  clear HA3_4
  have G3_x4 := Lib.hid (G3_4.out.same (hx.block _ G3_4.out.lt))
  clear G3_4
  have G4 : Hid (Blk X4 w4.heap.size #[.string key, .int .u64 0, .int .i64 at0, .string body] 29) := Lib.hid (by rw [← hX]; exact blk_new _ _ _)
  have HX4 := Lib.hid (HB4.out.trans (hx.mono (HB4.out).size))
  clear hX hx
  refine (known_any X4).mono ?_
  rintro e w5 ⟨rfl, hb⟩
  have HA1_5 := Lib.hid (HA1_x4.out.later hb)
  clear HA1_x4
  have G1_5 := Lib.hid (G1_x4.out.same (hb.block _ G1_x4.out.lt))
  clear G1_x4
  have HA2_5 := Lib.hid (HA2_x4.out.later hb)
  clear HA2_x4
  have G2_5 := Lib.hid (G2_x4.out.same (hb.block _ G2_x4.out.lt))
  clear G2_x4
  have HA3_5 := Lib.hid (HA3_x4.out.later hb)
  clear HA3_x4
  have G3_5 := Lib.hid (G3_x4.out.same (hb.block _ G3_x4.out.lt))
  clear G3_x4
  have G4_5 := Lib.hid (G4.out.same (hb.block _ G4.out.lt))
  clear G4
  have HB5 := Lib.hid (HX4.out.trans (hb.mono (HX4.out).size))
  clear hb
  have z0 : w5.cell? ⟨w1.heap.size, 0, none⟩ = some (.int .u64 (hi : Int)) := G1_5.out.cell 0 rfl
  have z1 : w5.cell? ⟨w1.heap.size, 1, none⟩ = some (.int .u64 (lo : Int)) := G1_5.out.cell 1 rfl
  have z2 : w5.cell? ⟨w1.heap.size, 2, none⟩ = some (.int .u64 (id : Int)) := G1_5.out.cell 2 rfl
  have z3 : w5.cell? ⟨w1.heap.size, 3, none⟩ = some (.int .u64 (par : Int)) := G1_5.out.cell 3 rfl
  have z4 : w5.cell? ⟨w1.heap.size, 4, none⟩ = some (.string name) := G1_5.out.cell 4 rfl
  have z5 : w5.cell? ⟨w1.heap.size, 5, none⟩ = some (.int .i64 (a : Int)) := G1_5.out.cell 5 rfl
  have z6 : w5.cell? ⟨w1.heap.size, 6, none⟩ = some (.int .i64 (b : Int)) := G1_5.out.cell 6 rfl
  have z7 : w5.cell? ⟨w1.heap.size, 7, none⟩ = some (.bool bad) := G1_5.out.cell 7 rfl
  have z8 : w5.cell? ⟨w1.heap.size, 8, none⟩ = some (.slice A1 n1 c1) := G1_5.out.cell 8 rfl
  have z9 : w5.cell? ⟨w1.heap.size, 9, none⟩ = some (.int .u64 (rv : Int)) := G1_5.out.cell 9 rfl
  go_wp2_with fail
  refine (HR.out hi lo id (a : Int) (b : Int) A1 n1 c1 w5 ab HN1.out HA1_5.out HR1.out).mono ?_
  rintro e w6 ⟨rfl, hb⟩
  have HA1_6 := Lib.hid (HA1_5.out.later hb)
  clear HA1_5
  have G1_6 := Lib.hid (G1_5.out.same (hb.block _ G1_5.out.lt))
  clear G1_5
  have HA2_6 := Lib.hid (HA2_5.out.later hb)
  clear HA2_5
  have G2_6 := Lib.hid (G2_5.out.same (hb.block _ G2_5.out.lt))
  clear G2_5
  have HA3_6 := Lib.hid (HA3_5.out.later hb)
  clear HA3_5
  have G3_6 := Lib.hid (G3_5.out.same (hb.block _ G3_5.out.lt))
  clear G3_5
  have G4_6 := Lib.hid (G4_5.out.same (hb.block _ G4_5.out.lt))
  clear G4_5
  have HB6 := Lib.hid (HB5.out.trans (hb.mono (HB5.out).size))
  clear hb
  clear z0 z1 z2 z3 z4 z5 z6 z7 z8 z9
  have z0 : w6.cell? ⟨w2.heap.size, 0, none⟩ = some (.int .u64 0) := G2_6.out.cell 0 rfl
  have z1 : w6.cell? ⟨w2.heap.size, 1, none⟩ = some (.int .u64 0) := G2_6.out.cell 1 rfl
  have z2 : w6.cell? ⟨w2.heap.size, 2, none⟩ = some (.int .u64 (id : Int)) := G2_6.out.cell 2 rfl
  have z3 : w6.cell? ⟨w2.heap.size, 3, none⟩ = some (.int .u64 (par : Int)) := G2_6.out.cell 3 rfl
  have z4 : w6.cell? ⟨w2.heap.size, 4, none⟩ = some (.string name) := G2_6.out.cell 4 rfl
  have z5 : w6.cell? ⟨w2.heap.size, 5, none⟩ = some (.int .i64 start) := G2_6.out.cell 5 rfl
  have z6 : w6.cell? ⟨w2.heap.size, 6, none⟩ = some (.int .i64 stop) := G2_6.out.cell 6 rfl
  have z7 : w6.cell? ⟨w2.heap.size, 7, none⟩ = some (.bool bad) := G2_6.out.cell 7 rfl
  have z8 : w6.cell? ⟨w2.heap.size, 8, none⟩ = some (.slice A2 n2 c2) := G2_6.out.cell 8 rfl
  have z9 : w6.cell? ⟨w2.heap.size, 9, none⟩ = some (.int .u64 (rv : Int)) := G2_6.out.cell 9 rfl
  go_wp2_with fail
  refine (HR.out 0 0 id start stop A2 n2 c2 w6 false HN2.out HA2_6.out (right_trace (hi := hi) (lo := lo))).mono ?_
  rintro e w7 ⟨rfl, hb⟩
  have HA1_7 := Lib.hid (HA1_6.out.later hb)
  clear HA1_6
  have G1_7 := Lib.hid (G1_6.out.same (hb.block _ G1_6.out.lt))
  clear G1_6
  have HA2_7 := Lib.hid (HA2_6.out.later hb)
  clear HA2_6
  have G2_7 := Lib.hid (G2_6.out.same (hb.block _ G2_6.out.lt))
  clear G2_6
  have HA3_7 := Lib.hid (HA3_6.out.later hb)
  clear HA3_6
  have G3_7 := Lib.hid (G3_6.out.same (hb.block _ G3_6.out.lt))
  clear G3_6
  have G4_7 := Lib.hid (G4_6.out.same (hb.block _ G4_6.out.lt))
  clear G4_6
  have HB7 := Lib.hid (HB6.out.trans (hb.mono (HB6.out).size))
  clear hb
  clear z0 z1 z2 z3 z4 z5 z6 z7 z8 z9
  have z0 : w7.cell? ⟨w3.heap.size, 0, none⟩ = some (.int .u64 (hi : Int)) := G3_7.out.cell 0 rfl
  have z1 : w7.cell? ⟨w3.heap.size, 1, none⟩ = some (.int .u64 (lo : Int)) := G3_7.out.cell 1 rfl
  have z2 : w7.cell? ⟨w3.heap.size, 2, none⟩ = some (.int .u64 0) := G3_7.out.cell 2 rfl
  have z3 : w7.cell? ⟨w3.heap.size, 3, none⟩ = some (.int .u64 (par : Int)) := G3_7.out.cell 3 rfl
  have z4 : w7.cell? ⟨w3.heap.size, 4, none⟩ = some (.string name) := G3_7.out.cell 4 rfl
  have z5 : w7.cell? ⟨w3.heap.size, 5, none⟩ = some (.int .i64 start) := G3_7.out.cell 5 rfl
  have z6 : w7.cell? ⟨w3.heap.size, 6, none⟩ = some (.int .i64 stop) := G3_7.out.cell 6 rfl
  have z7 : w7.cell? ⟨w3.heap.size, 7, none⟩ = some (.bool bad) := G3_7.out.cell 7 rfl
  have z8 : w7.cell? ⟨w3.heap.size, 8, none⟩ = some (.slice A3 n3 c3) := G3_7.out.cell 8 rfl
  have z9 : w7.cell? ⟨w3.heap.size, 9, none⟩ = some (.int .u64 (rv : Int)) := G3_7.out.cell 9 rfl
  go_wp2_with fail
  refine (HR.out hi lo 0 start stop A3 n3 c3 w7 false HN3.out HA3_7.out (right_number (id := id))).mono ?_
  rintro e w8 ⟨rfl, hb⟩
  have HA1_8 := Lib.hid (HA1_7.out.later hb)
  clear HA1_7
  have G1_8 := Lib.hid (G1_7.out.same (hb.block _ G1_7.out.lt))
  clear G1_7
  have HA2_8 := Lib.hid (HA2_7.out.later hb)
  clear HA2_7
  have G2_8 := Lib.hid (G2_7.out.same (hb.block _ G2_7.out.lt))
  clear G2_7
  have HA3_8 := Lib.hid (HA3_7.out.later hb)
  clear HA3_7
  have G3_8 := Lib.hid (G3_7.out.same (hb.block _ G3_7.out.lt))
  clear G3_7
  have G4_8 := Lib.hid (G4_7.out.same (hb.block _ G4_7.out.lt))
  clear G4_7
  have HB8 := Lib.hid (HB7.out.trans (hb.mono (HB7.out).size))
  clear hb
  clear z0 z1 z2 z3 z4 z5 z6 z7 z8 z9
  have z0 : w8.cell? ⟨w4.heap.size, 0, none⟩ = some (.string key) := G4_8.out.cell 0 rfl
  have z1 : w8.cell? ⟨w4.heap.size, 1, none⟩ = some (.int .u64 0) := G4_8.out.cell 1 rfl
  have z2 : w8.cell? ⟨w4.heap.size, 2, none⟩ = some (.int .i64 at0) := G4_8.out.cell 2 rfl
  have z3 : w8.cell? ⟨w4.heap.size, 3, none⟩ = some (.string body) := G4_8.out.cell 3 rfl
  go_wp2_with fail
  refine (HRL.out 0 w8 false right_weight).mono ?_
  rintro e w9 ⟨rfl, hb⟩
  have HA1_9 := Lib.hid (HA1_8.out.later hb)
  clear HA1_8
  have G1_9 := Lib.hid (G1_8.out.same (hb.block _ G1_8.out.lt))
  clear G1_8
  have HA2_9 := Lib.hid (HA2_8.out.later hb)
  clear HA2_8
  have G2_9 := Lib.hid (G2_8.out.same (hb.block _ G2_8.out.lt))
  clear G2_8
  have HA3_9 := Lib.hid (HA3_8.out.later hb)
  clear HA3_8
  have G3_9 := Lib.hid (G3_8.out.same (hb.block _ G3_8.out.lt))
  clear G3_8
  have G4_9 := Lib.hid (G4_8.out.same (hb.block _ G4_8.out.lt))
  clear G4_8
  have HB9 := Lib.hid (HB8.out.trans (hb.mono (HB8.out).size))
  clear hb
  clear z0 z1 z2 z3
  go_wp2_with fail
  refine (HG.out w9 HB9.out).mono ?_
  rintro e w10 ⟨rfl, hb⟩
  have HA1_10 := Lib.hid (HA1_9.out.later hb)
  clear HA1_9
  have G1_10 := Lib.hid (G1_9.out.same (hb.block _ G1_9.out.lt))
  clear G1_9
  have HA2_10 := Lib.hid (HA2_9.out.later hb)
  clear HA2_9
  have G2_10 := Lib.hid (G2_9.out.same (hb.block _ G2_9.out.lt))
  clear G2_9
  have HA3_10 := Lib.hid (HA3_9.out.later hb)
  clear HA3_9
  have G3_10 := Lib.hid (G3_9.out.same (hb.block _ G3_9.out.lt))
  clear G3_9
  have G4_10 := Lib.hid (G4_9.out.same (hb.block _ G4_9.out.lt))
  clear G4_9
  have HB10 := Lib.hid (HB9.out.trans (hb.mono (HB9.out).size))
  clear hb
  go_wp2_with fail
  refine (HRL.out weight w10 true HLR.out).mono ?_
  rintro e w11 ⟨rfl, hb⟩
  have HA1_11 := Lib.hid (HA1_10.out.later hb)
  clear HA1_10
  have G1_11 := Lib.hid (G1_10.out.same (hb.block _ G1_10.out.lt))
  clear G1_10
  have HA2_11 := Lib.hid (HA2_10.out.later hb)
  clear HA2_10
  have G2_11 := Lib.hid (G2_10.out.same (hb.block _ G2_10.out.lt))
  clear G2_10
  have HA3_11 := Lib.hid (HA3_10.out.later hb)
  clear HA3_10
  have G3_11 := Lib.hid (G3_10.out.same (hb.block _ G3_10.out.lt))
  clear G3_10
  have G4_11 := Lib.hid (G4_10.out.same (hb.block _ G4_10.out.lt))
  clear G4_10
  have HB11 := Lib.hid (HB10.out.trans (hb.mono (HB10.out).size))
  clear hb
  go_wp2_with fail
  refine (HS.out w11 HB11.out).mono ?_
  rintro e w12 ⟨A9, n9, c9, rfl, hn, hA, hb⟩
  have HN9 := Lib.hid hn.symm
  have hl9 : n9 ≤ 8 := by omega
  have HA1_12 := Lib.hid (HA1_11.out.later hb)
  clear HA1_11
  have G1_12 := Lib.hid (G1_11.out.same (hb.block _ G1_11.out.lt))
  clear G1_11
  have HA2_12 := Lib.hid (HA2_11.out.later hb)
  clear HA2_11
  have G2_12 := Lib.hid (G2_11.out.same (hb.block _ G2_11.out.lt))
  clear G2_11
  have HA3_12 := Lib.hid (HA3_11.out.later hb)
  clear HA3_11
  have G3_12 := Lib.hid (G3_11.out.same (hb.block _ G3_11.out.lt))
  clear G3_11
  have G4_12 := Lib.hid (G4_11.out.same (hb.block _ G4_11.out.lt))
  clear G4_11
  have HA9 := Lib.hid hA
  have HB12 := Lib.hid (HB11.out.trans (hb.mono (HB11.out).size))
  clear hn hA hb
  go_wp2_with fail
  refine (HR.out hi lo id start stop A9 n9 c9 w12 true HN9.out HA9.out HRI.out).mono ?_
  rintro e w13 ⟨rfl, hb⟩
  have HA1_13 := Lib.hid (HA1_12.out.later hb)
  clear HA1_12
  have G1_13 := Lib.hid (G1_12.out.same (hb.block _ G1_12.out.lt))
  clear G1_12
  have HA2_13 := Lib.hid (HA2_12.out.later hb)
  clear HA2_12
  have G2_13 := Lib.hid (G2_12.out.same (hb.block _ G2_12.out.lt))
  clear G2_12
  have HA3_13 := Lib.hid (HA3_12.out.later hb)
  clear HA3_12
  have G3_13 := Lib.hid (G3_12.out.same (hb.block _ G3_12.out.lt))
  clear G3_12
  have G4_13 := Lib.hid (G4_12.out.same (hb.block _ G4_12.out.lt))
  clear G4_12
  have HA9_13 := Lib.hid (HA9.out.later hb)
  clear HA9
  have HB13 := Lib.hid (HB12.out.trans (hb.mono (HB12.out).size))
  clear hb
  go_wp2_with fail
  go_ret
  exact ⟨by simp, HB13.out⟩

namespace ItemBounds
set_option linter.unusedSimpArgs false in
set_option maxRecDepth 100000 in
theorem lifted (os : Os) (started : os.Started) (H : Type) (enc : TypeId × Value → H) :
    ReturnsInHanded {} Try.checked os 3 .any (Rows.itemBoundsSpec.pre6 enc Try.prog Try.f3 Rows.itemBoundsRow.domain false) (Rows.itemBoundsSpec.post enc Try.prog Try.f3 false true false false) := by
  refine returnsInHanded_of_change (C := Try.checked) own started (by kernel_rfl) Try.func3
    (ChangeSpec.witness6 (enc := enc) (C := Try.checked) false ⟨#[], #[.slice none 0 0, .int .u8 0, .int .u8 0], []⟩ 8 (by kernel_rfl) (by kernel_rfl) (by kernel_rfl) (by kernel_rfl)) ?_
  intro W base args ds gs before hval0 hW _ _
  have hval : ∀ (j : Nat) t v, Try.f3.params[j]? = some t → args[j]? = some v → Value.okWide Try.prog W .any base t v := hval0
  have hW' := hW
  obtain ⟨p, q, hA0, hV, rfl, _, _⟩ := hW
  have hA : DataW.TrodAll enc Try.prog W 0 (fun _ => true) true Try.f3.params.toList args.toList ds p := hA0
  rw [Try.params3] at hA hval
  obtain ⟨v0, vs0, d0, ds0, p0, q0, hargs, rfl, rfl, h0, r0⟩ := trodAll_cons hA
  obtain ⟨v1, vs1, d1, ds1, p1, q1, rfl, rfl, rfl, h1, r1⟩ := trodAll_cons r0
  obtain ⟨v2, vs2, d2, ds2, p2, q2, rfl, rfl, rfl, h2, r2⟩ := trodAll_cons r1
  obtain ⟨rfl, rfl, rfl⟩ := trodAll_nil r2
  obtain rfl : args = #[v0, v1, v2] := by cases args; simp_all
  obtain ⟨rfl, rfl⟩ := trodVars_none hV
  obtain ⟨A0, cs0, cap0, rfl, l0, m0, b0, again0⟩ := arg_bytes (hval 0 22 v0 rfl rfl) h0
  have x0 := arg_extra h0
  obtain ⟨a1, rfl, rfl, rfl, w1⟩ := open_int Try.underlying5 (hval 1 5 v1 rfl rfl) h1
  have k1 := wf_u8 w1
  obtain ⟨n1, rfl⟩ : ∃ u : UInt8, a1 = (u.toNat : Int) := ⟨UInt8.ofNat a1.toNat, by simp; omega⟩
  obtain ⟨a2, rfl, rfl, rfl, w2⟩ := open_int Try.underlying5 (hval 2 5 v2 rfl rfl) h2
  have k2 := wf_u8 w2
  obtain ⟨n2, rfl⟩ : ∃ u : UInt8, a2 = (u.toNat : Int) := ⟨UInt8.ofNat a2.toNat, by simp; omega⟩
  clear hA0 hval0
  simp only [List.append_nil] at hW'
  refine (bounds_walk A0 cs0 _ cap0 n1.toNat n2.toNat W rfl b0 n1.toNat_lt n2.toNat_lt).mono fun e W' ⟨he, hg⟩ => ?_
  subst he
  exact ⟨_, rfl, true_last hW' rfl (by kernel_rfl) Try.underlying4 rfl rfl rfl (of_decide_eq_true (by kernel_rfl)) hg⟩

/-- **ItemBounds, at every input.** -/
theorem proved : Rows.ItemBoundsSaid :=
  OpenClaim.holds_of_wide 3 Try.f3 rfl rfl rfl rfl rfl rfl rfl ⟨rfl, rfl, rfl, rfl, rfl⟩ rfl rfl rfl rfl rfl (by kernel_rfl) Try.func3 (by kernel_rfl)
    (of_decide_eq_true (by kernel_rfl)) (by unfold Func.isWrapper; first | (rw [if_pos (by decide +kernel)]; kernel_rfl) | (rw [if_neg (by decide +kernel)]; exact ⟨rfl, rfl⟩))
    (fun os started H enc _ => lifted os started H enc)
end ItemBounds

end Go.Proofs.Ytkkojjebggmcfaa
