/-
  The chapter's examples, told by the program.
-/
import Derived.Test.YtkfidolbbnmjfaaDoorCtxWith2
import Derived.Test.YtkfidolbbnmjfaaDoorCtxPrint
namespace Go.Proofs.YtkfidolbbnmjfaaDoor
open Go.RowKit Go.Shelf Go.Proofs.CtxState

theorem ex_read : readSt [97, 61, 49, 44, 111, 116, 61, 116, 104, 58, 56, 59, 114, 118, 58, 48, 48, 48, 48, 48, 48, 48, 48, 48, 48, 48, 48, 48, 49] = (0, ⟨true, 36028797018963968, true, 1, false⟩, [[97, 61, 49]]) := by decide +kernel
theorem ex_with : withOf [97, 61, 49] true 4503599627370496 false 0 = ([111, 116, 61, 116, 104, 58, 49, 44, 97, 61, 49], 0) := by decide +kernel
theorem ex_parse : parseOf [48, 48, 45, 48, 48, 48, 48, 48, 48, 48, 48, 48, 48, 48, 48, 48, 48, 48, 49, 48, 48, 48, 48, 48, 48, 48, 48, 48, 48, 48, 48, 48, 48, 48, 50, 45, 48, 48, 48, 48, 48, 48, 48, 48, 48, 48, 48, 48, 48, 48, 48, 51, 45, 48, 49] = (1, 2, 3, 1, 0) := by decide +kernel
theorem ex_print : printOf 1 2 3 1 = [48, 48, 45, 48, 48, 48, 48, 48, 48, 48, 48, 48, 48, 48, 48, 48, 48, 48, 49, 48, 48, 48, 48, 48, 48, 48, 48, 48, 48, 48, 48, 48, 48, 48, 50, 45, 48, 48, 48, 48, 48, 48, 48, 48, 48, 48, 48, 48, 48, 48, 48, 51, 45, 48, 49] := by decide +kernel

theorem read1 (w : World) : Calls Tryd.prog 19 #[.string ⟨#[97, 61, 49, 44, 111, 116, 61, 116, 104, 58, 56, 59, 114, 118, 58, 48, 48, 48, 48, 48, 48, 48, 48, 48, 48, 48, 48, 48, 49]⟩] w fun e w' => e = .returned (.tuple #[.agg #[.bool true, .int .u64 36028797018963968, .bool true, .int .u64 1], .int .u16 0]) ∧ Below w.heap.size w w' :=
  (read_any ⟨#[97, 61, 49, 44, 111, 116, 61, 116, 104, 58, 56, 59, 114, 118, 58, 48, 48, 48, 48, 48, 48, 48, 48, 48, 48, 48, 48, 48, 49]⟩ w).mono fun _ _ ⟨he, hb⟩ => ⟨by rw [he]; show Ending.returned (.tuple #[.agg (mkRow (readSt [97, 61, 49, 44, 111, 116, 61, 116, 104, 58, 56, 59, 114, 118, 58, 48, 48, 48, 48, 48, 48, 48, 48, 48, 48, 48, 48, 48, 49]).2.1), .int .u16 ((readSt [97, 61, 49, 44, 111, 116, 61, 116, 104, 58, 56, 59, 114, 118, 58, 48, 48, 48, 48, 48, 48, 48, 48, 48, 48, 48, 48, 48, 49]).1 : Int)]) = _; rw [ex_read]; rfl, hb⟩
theorem with1 (w : World) : Calls Tryd.prog 10 #[.string ⟨#[97, 61, 49]⟩, .agg #[.bool true, .int .u64 4503599627370496, .bool false, .int .u64 0]] w fun e w' => e = .returned (.tuple #[.string ⟨#[111, 116, 61, 116, 104, 58, 49, 44, 97, 61, 49]⟩, .int .u16 0]) ∧ Below w.heap.size w w' :=
  (with_any ⟨#[97, 61, 49]⟩ true 4503599627370496 false 0 w).mono fun _ _ ⟨he, hb⟩ => ⟨by rw [he]; show Ending.returned (withV (withOf [97, 61, 49] true 4503599627370496 false 0)) = _; rw [ex_with]; rfl, hb⟩
theorem parse1 (w : World) (hS : Shape w) : Calls Tryd.prog 12 #[.string ⟨#[48, 48, 45, 48, 48, 48, 48, 48, 48, 48, 48, 48, 48, 48, 48, 48, 48, 48, 49, 48, 48, 48, 48, 48, 48, 48, 48, 48, 48, 48, 48, 48, 48, 48, 50, 45, 48, 48, 48, 48, 48, 48, 48, 48, 48, 48, 48, 48, 48, 48, 48, 51, 45, 48, 49]⟩] w fun e w' => e = .returned (.tuple #[.agg #[.int .u64 1, .int .u64 2, .int .u64 3, .int .u8 1], .int .u16 0]) ∧ Below w.heap.size w w' :=
  (parse_any ⟨#[48, 48, 45, 48, 48, 48, 48, 48, 48, 48, 48, 48, 48, 48, 48, 48, 48, 48, 49, 48, 48, 48, 48, 48, 48, 48, 48, 48, 48, 48, 48, 48, 48, 48, 50, 45, 48, 48, 48, 48, 48, 48, 48, 48, 48, 48, 48, 48, 48, 48, 48, 51, 45, 48, 49]⟩ w hS (by decide)).mono fun _ _ ⟨he, hb⟩ => ⟨by rw [he]; show Ending.returned (parentV (parseOf [48, 48, 45, 48, 48, 48, 48, 48, 48, 48, 48, 48, 48, 48, 48, 48, 48, 48, 49, 48, 48, 48, 48, 48, 48, 48, 48, 48, 48, 48, 48, 48, 48, 48, 50, 45, 48, 48, 48, 48, 48, 48, 48, 48, 48, 48, 48, 48, 48, 48, 48, 51, 45, 48, 49]) .u16) = _; rw [ex_parse]; rfl, hb⟩
theorem print1 (w : World) (hS : Shape w) : Calls Tryd.prog 13 #[.agg #[.int .u64 1, .int .u64 2, .int .u64 3, .int .u8 1]] w fun e w' => e = .returned (.tuple #[.string ⟨#[48, 48, 45, 48, 48, 48, 48, 48, 48, 48, 48, 48, 48, 48, 48, 48, 48, 48, 49, 48, 48, 48, 48, 48, 48, 48, 48, 48, 48, 48, 48, 48, 48, 48, 50, 45, 48, 48, 48, 48, 48, 48, 48, 48, 48, 48, 48, 48, 48, 48, 48, 51, 45, 48, 49]⟩, .int .u16 0]) ∧ Below w.heap.size w w' :=
  (print_yes 1 2 3 1 w hS (by decide) (by decide)).mono fun _ _ ⟨he, hb⟩ => ⟨by rw [he]; show Ending.returned (.tuple #[.string (textOf (printOf 1 2 3 1)), .int .u16 0]) = _; rw [ex_print]; rfl, hb⟩

set_option maxRecDepth 100000 in
set_option maxHeartbeats 4000000 in
theorem known_any (w : World) (hS : Shape w) : Calls Tryd.prog 11 #[] w fun e w' => e = .returned (.bool true) ∧ Below w.heap.size w w' := by
  go_enter Tryd.func11, Tryd.ntmps11
  go_wp2_with fail
  refine (read1 _).mono ?_
  rintro e w1 ⟨rfl, hb1⟩
  have B1 := hb1.alloc hb1.size (.cells #[.bool true, .int .u64 36028797018963968, .bool true, .int .u64 1] 29)
  have k1 := blk_new w1 #[.bool true, .int .u64 36028797018963968, .bool true, .int .u64 1] 29
  have HB1 := Lib.hid B1
  have HK1 := Lib.hid k1
  have HS := Lib.hid hS
  clear B1 k1 hb1 hS
  go_wp2_with fail
  refine (with1 _).mono ?_
  rintro e w2 ⟨rfl, hb2⟩
  have HB2 := Lib.hid (HB1.out.trans (hb2.mono HB1.out.size))
  have HK2 := Lib.hid (HK1.out.later hb2)
  clear hb2 HB1 HK1
  go_wp2_with fail
  refine (parse1 _ (HS.out.later HB2.out)).mono ?_
  rintro e w3 ⟨rfl, hb3⟩
  have HB3 := Lib.hid ((HB2.out.trans (hb3.mono HB2.out.size)).alloc (HB2.out.trans (hb3.mono HB2.out.size)).size (.cells #[.int .u64 1, .int .u64 2, .int .u64 3, .int .u8 1] 33))
  have HK3 := Lib.hid ((HK2.out.later hb3).later (box_below (.cells #[.int .u64 1, .int .u64 2, .int .u64 3, .int .u8 1] 33)))
  have HP3 := Lib.hid (blk_new w3 #[.int .u64 1, .int .u64 2, .int .u64 3, .int .u8 1] 33)
  clear hb3 HB2 HK2
  go_wp2_with fail
  refine (print1 _ (HS.out.later HB3.out)).mono ?_
  rintro e w4 ⟨rfl, hb4⟩
  have HB4 := Lib.hid (HB3.out.trans (hb4.mono HB3.out.size))
  have k4 := HK3.out.later hb4
  have p4 := HP3.out.later hb4
  have c0 := k4.cell 0 rfl
  have c1 := k4.cell 1 rfl
  have c2 := k4.cell 2 rfl
  have c3 := k4.cell 3 rfl
  have d0 := p4.cell 0 rfl
  have d1 := p4.cell 1 rfl
  have d2 := p4.cell 2 rfl
  have d3 := p4.cell 3 rfl
  clear hb4 HB3 HK3 HP3 k4 p4
  go_wp2_with fail
  go_ret
  exact ⟨rfl, HB4.out⟩
end Go.Proofs.YtkfidolbbnmjfaaDoor
