/-
  What item.Encode does, at every item that may not be. No condition.
-/
import Derived.Test.YtklgggolkclebaaItemEncode
namespace Go.Proofs.Ytklgggolkclebaa
open Go.RowKit Go.Proofs.NumMath Go.Proofs.ItemMath

set_option linter.unusedVariables false in
set_option linter.unusedSimpArgs false in
set_option maxRecDepth 100000 in
set_option maxHeartbeats 4000000 in
/-- A kind that is none. -/
theorem encode_kind (kind : Nat) (hi lo id par rv : Nat) (name : ByteArray) (start stop : Int) (bad : Bool) (A : Option Addr) (l : List Attr) (n cap : Nat) (key body : ByteArray) (weight : Nat) (at_ : Int) (w : World) (h1 : kind ≠ 1) (h2 : kind ≠ 2) (h3 : kind < 256) :
    Calls Try.prog 19 #[.agg #[.int .u8 (kind : Int), .int .u64 (hi : Int), .int .u64 (lo : Int), .int .u64 (id : Int), .int .u64 (par : Int), .string name, .int .i64 start, .int .i64 stop, .bool bad, .slice A n cap, .int .u64 (rv : Int), .string key, .int .u64 (weight : Int), .int .i64 at_, .string body]] w fun e w' => e = .returned (.tuple #[.slice none 0 0, .int .u16 40]) ∧ Below w.heap.size w w' := by
  have d1 : ((kind : Int) == 1) = false := by simp; omega
  have d2 : ((kind : Int) == 2) = false := by simp; omega
  go_enter Try.func19, Try.ntmps19
  go_wp2_with fail
  go_ret2
  exact ⟨rfl, (((Below.refl _ w).alloc (Nat.le_refl _) _).alloc (by simp) _).alloc (by simp; omega) _⟩

set_option linter.unusedVariables false in
set_option linter.unusedSimpArgs false in
set_option maxRecDepth 100000 in
set_option maxHeartbeats 4000000 in
/-- A span that may not be. -/
theorem encode_bad_span (hi lo id par rv : Nat) (name : ByteArray) (start stop : Int) (bad : Bool) (A : Option Addr) (l : List Attr) (n cap : Nat) (key body : ByteArray) (weight : Nat) (at_ : Int) (w : World) (hn : l.length = n) (hnm : n ≤ 9223372036854775807) (hname : name.size ≤ 9223372036854775807) (hr : HoldsA w.heap.size w A l) (hright : rightSpan ⟨hi, lo, id, par, name, start, stop, bad, l, rv⟩ = false) :
    Calls Try.prog 19 #[.agg #[.int .u8 1, .int .u64 (hi : Int), .int .u64 (lo : Int), .int .u64 (id : Int), .int .u64 (par : Int), .string name, .int .i64 start, .int .i64 stop, .bool bad, .slice A n cap, .int .u64 (rv : Int), .string key, .int .u64 (weight : Int), .int .i64 at_, .string body]] w fun e w' => e = .returned (.tuple #[.slice none 0 0, .int .u16 40]) ∧ Below w.heap.size w w' := by
  have hR := fun (W : World) (h : Below w.heap.size w W) => rightSpan_any hi lo id par rv name start stop bad A l n cap W false hn hnm hname (hr.later h) hright
  unfold spCells at hR
  have HR := Lib.hid hR
  clear hR hn hr hright
  go_enter Try.func19, Try.ntmps19
  go_wp2_with fail
  generalize hX : ((w.alloc (.cells #[.int .u8 1, .int .u64 (hi : Int), .int .u64 (lo : Int), .int .u64 (id : Int), .int .u64 (par : Int), .string name, .int .i64 start, .int .i64 stop, .bool bad, .slice A n cap, .int .u64 (rv : Int), .string key, .int .u64 (weight : Int), .int .i64 at_, .string body] 38)).alloc (.cells #[.int .u8 1] 5)).alloc (.cells #[.slice (some ⟨w.heap.size + 1, 0, none⟩) 1 1] 71) = X
  have hG : Begun w X #[.int .u8 1, .int .u64 (hi : Int), .int .u64 (lo : Int), .int .u64 (id : Int), .int .u64 (par : Int), .string name, .int .i64 start, .int .i64 stop, .bool bad, .slice A n cap, .int .u64 (rv : Int), .string key, .int .u64 (weight : Int), .int .i64 at_, .string body] 1 := by rw [← hX]; exact begun w _ _ _ rfl
  have HG := Lib.hid hG
  clear hX hG
  refine (HR.out X HG.out.low).mono ?_
  rintro e w1 ⟨rfl, hb1⟩
  have HG1 := Lib.hid (HG.out.later hb1)
  have g0 : w1.cell? ⟨w.heap.size, 0, none⟩ = some (.int .u8 1) := HG1.out.item.cell 0 rfl
  go_wp2_with fail
  go_ret2
  exact ⟨rfl, HG1.out.low⟩

set_option linter.unusedVariables false in
set_option linter.unusedSimpArgs false in
set_option maxRecDepth 100000 in
set_option maxHeartbeats 4000000 in
/-- A log that may not be. -/
theorem encode_bad_log (hi lo id par rv : Nat) (name : ByteArray) (start stop : Int) (bad : Bool) (A : Option Addr) (l : List Attr) (n cap : Nat) (key body : ByteArray) (weight : Nat) (at_ : Int) (w : World) (hkey : key.size ≤ 9223372036854775807) (hbody : body.size ≤ 9223372036854775807) (hright : rightLog ⟨key, weight, at_, body⟩ = false) :
    Calls Try.prog 19 #[.agg #[.int .u8 2, .int .u64 (hi : Int), .int .u64 (lo : Int), .int .u64 (id : Int), .int .u64 (par : Int), .string name, .int .i64 start, .int .i64 stop, .bool bad, .slice A n cap, .int .u64 (rv : Int), .string key, .int .u64 (weight : Int), .int .i64 at_, .string body]] w fun e w' => e = .returned (.tuple #[.slice none 0 0, .int .u16 40]) ∧ Below w.heap.size w w' := by
  have hR := fun (W : World) => rightLog_any key body weight at_ W false hkey hbody hright
  unfold lgCells at hR
  have HR := Lib.hid hR
  clear hR hright
  go_enter Try.func19, Try.ntmps19
  go_wp2_with fail
  generalize hX : ((w.alloc (.cells #[.int .u8 2, .int .u64 (hi : Int), .int .u64 (lo : Int), .int .u64 (id : Int), .int .u64 (par : Int), .string name, .int .i64 start, .int .i64 stop, .bool bad, .slice A n cap, .int .u64 (rv : Int), .string key, .int .u64 (weight : Int), .int .i64 at_, .string body] 38)).alloc (.cells #[.int .u8 2] 5)).alloc (.cells #[.slice (some ⟨w.heap.size + 1, 0, none⟩) 1 1] 71) = X
  have hG : Begun w X #[.int .u8 2, .int .u64 (hi : Int), .int .u64 (lo : Int), .int .u64 (id : Int), .int .u64 (par : Int), .string name, .int .i64 start, .int .i64 stop, .bool bad, .slice A n cap, .int .u64 (rv : Int), .string key, .int .u64 (weight : Int), .int .i64 at_, .string body] 2 := by rw [← hX]; exact begun w _ _ _ rfl
  have HG := Lib.hid hG
  clear hX hG
  refine (HR.out X).mono ?_
  rintro e w1 ⟨rfl, hb1⟩
  have HG1 := Lib.hid (HG.out.later hb1)
  go_wp2_with fail
  go_ret2
  exact ⟨rfl, HG1.out.low⟩

set_option linter.unusedVariables false in
set_option linter.unusedSimpArgs false in
set_option maxRecDepth 100000 in
set_option maxHeartbeats 4000000 in
/-- A log, and a span besides. -/
theorem encode_log_besides (hi lo id par rv : Nat) (name : ByteArray) (start stop : Int) (bad : Bool) (A : Option Addr) (l : List Attr) (n cap : Nat) (key body : ByteArray) (weight : Nat) (at_ : Int) (w : World) (hn : l.length = n) (hkey : key.size ≤ 9223372036854775807) (hbody : body.size ≤ 9223372036854775807) (hright : rightLog ⟨key, weight, at_, body⟩ = true) (hno : noSpan ⟨hi, lo, id, par, name, start, stop, bad, l, rv⟩ = false) :
    Calls Try.prog 19 #[.agg #[.int .u8 2, .int .u64 (hi : Int), .int .u64 (lo : Int), .int .u64 (id : Int), .int .u64 (par : Int), .string name, .int .i64 start, .int .i64 stop, .bool bad, .slice A n cap, .int .u64 (rv : Int), .string key, .int .u64 (weight : Int), .int .i64 at_, .string body]] w fun e w' => e = .returned (.tuple #[.slice none 0 0, .int .u16 40]) ∧ Below w.heap.size w w' := by
  have hR := fun (W : World) => rightLog_any key body weight at_ W true hkey hbody hright
  have hI := fun (W : World) => isNoSpan_any hi lo id par rv name start stop bad A l n cap W false hn hno
  unfold lgCells at hR
  unfold spCells at hI
  have HR := Lib.hid hR
  have HI := Lib.hid hI
  clear hR hI hright hno hn
  go_enter Try.func19, Try.ntmps19
  go_wp2_with fail
  generalize hX : ((w.alloc (.cells #[.int .u8 2, .int .u64 (hi : Int), .int .u64 (lo : Int), .int .u64 (id : Int), .int .u64 (par : Int), .string name, .int .i64 start, .int .i64 stop, .bool bad, .slice A n cap, .int .u64 (rv : Int), .string key, .int .u64 (weight : Int), .int .i64 at_, .string body] 38)).alloc (.cells #[.int .u8 2] 5)).alloc (.cells #[.slice (some ⟨w.heap.size + 1, 0, none⟩) 1 1] 71) = X
  have hG : Begun w X #[.int .u8 2, .int .u64 (hi : Int), .int .u64 (lo : Int), .int .u64 (id : Int), .int .u64 (par : Int), .string name, .int .i64 start, .int .i64 stop, .bool bad, .slice A n cap, .int .u64 (rv : Int), .string key, .int .u64 (weight : Int), .int .i64 at_, .string body] 2 := by rw [← hX]; exact begun w _ _ _ rfl
  have HG := Lib.hid hG
  clear hX hG
  refine (HR.out X).mono ?_
  rintro e w1 ⟨rfl, hb1⟩
  have HG1 := Lib.hid (HG.out.later hb1)
  have g0 : w1.cell? ⟨w.heap.size, 0, none⟩ = some (.int .u8 2) := HG1.out.item.cell 0 rfl
  have g1 : w1.cell? ⟨w.heap.size, 1, none⟩ = some (.int .u64 (hi : Int)) := HG1.out.item.cell 1 rfl
  have g2 : w1.cell? ⟨w.heap.size, 2, none⟩ = some (.int .u64 (lo : Int)) := HG1.out.item.cell 2 rfl
  have g3 : w1.cell? ⟨w.heap.size, 3, none⟩ = some (.int .u64 (id : Int)) := HG1.out.item.cell 3 rfl
  have g4 : w1.cell? ⟨w.heap.size, 4, none⟩ = some (.int .u64 (par : Int)) := HG1.out.item.cell 4 rfl
  have g5 : w1.cell? ⟨w.heap.size, 5, none⟩ = some (.string name) := HG1.out.item.cell 5 rfl
  have g6 : w1.cell? ⟨w.heap.size, 6, none⟩ = some (.int .i64 start) := HG1.out.item.cell 6 rfl
  have g7 : w1.cell? ⟨w.heap.size, 7, none⟩ = some (.int .i64 stop) := HG1.out.item.cell 7 rfl
  have g8 : w1.cell? ⟨w.heap.size, 8, none⟩ = some (.bool bad) := HG1.out.item.cell 8 rfl
  have g9 : w1.cell? ⟨w.heap.size, 9, none⟩ = some (.slice A n cap) := HG1.out.item.cell 9 rfl
  have g10 : w1.cell? ⟨w.heap.size, 10, none⟩ = some (.int .u64 (rv : Int)) := HG1.out.item.cell 10 rfl
  have g11 : w1.cell? ⟨w.heap.size, 11, none⟩ = some (.string key) := HG1.out.item.cell 11 rfl
  have g12 : w1.cell? ⟨w.heap.size, 12, none⟩ = some (.int .u64 (weight : Int)) := HG1.out.item.cell 12 rfl
  have g13 : w1.cell? ⟨w.heap.size, 13, none⟩ = some (.int .i64 at_) := HG1.out.item.cell 13 rfl
  have g14 : w1.cell? ⟨w.heap.size, 14, none⟩ = some (.string body) := HG1.out.item.cell 14 rfl
  go_wp2_with fail
  refine (HI.out w1).mono ?_
  rintro e w2 ⟨rfl, hb2⟩
  have HG2 := Lib.hid (HG1.out.later hb2)
  go_wp2_with fail
  go_ret2
  exact ⟨rfl, HG2.out.low⟩

set_option linter.unusedVariables false in
set_option linter.unusedSimpArgs false in
set_option maxRecDepth 100000 in
set_option maxHeartbeats 4000000 in
/-- A span, and a log besides. -/
theorem encode_span_besides (hi lo id par rv : Nat) (name : ByteArray) (start stop : Int) (bad : Bool) (A : Option Addr) (l : List Attr) (n cap : Nat) (key body : ByteArray) (weight : Nat) (at_ : Int) (w : World) (hn : l.length = n) (hnm : n ≤ 9223372036854775807) (hname : name.size ≤ 9223372036854775807) (hr : HoldsA w.heap.size w A l) (hright : rightSpan ⟨hi, lo, id, par, name, start, stop, bad, l, rv⟩ = true) (hw0 : weight ≠ 0) :
    Calls Try.prog 19 #[.agg #[.int .u8 1, .int .u64 (hi : Int), .int .u64 (lo : Int), .int .u64 (id : Int), .int .u64 (par : Int), .string name, .int .i64 start, .int .i64 stop, .bool bad, .slice A n cap, .int .u64 (rv : Int), .string key, .int .u64 (weight : Int), .int .i64 at_, .string body]] w fun e w' => e = .returned (.tuple #[.slice none 0 0, .int .u16 40]) ∧ Below w.heap.size w w' := by
  have hR := fun (W : World) (h : Below w.heap.size w W) => rightSpan_any hi lo id par rv name start stop bad A l n cap W true hn hnm hname (hr.later h) hright
  unfold spCells at hR
  have HR := Lib.hid hR
  have d1 : ((weight : Int) == 0) = false := by simp; omega
  clear hR hn hr hright
  go_enter Try.func19, Try.ntmps19
  go_wp2_with fail
  generalize hX : ((w.alloc (.cells #[.int .u8 1, .int .u64 (hi : Int), .int .u64 (lo : Int), .int .u64 (id : Int), .int .u64 (par : Int), .string name, .int .i64 start, .int .i64 stop, .bool bad, .slice A n cap, .int .u64 (rv : Int), .string key, .int .u64 (weight : Int), .int .i64 at_, .string body] 38)).alloc (.cells #[.int .u8 1] 5)).alloc (.cells #[.slice (some ⟨w.heap.size + 1, 0, none⟩) 1 1] 71) = X
  have hG : Begun w X #[.int .u8 1, .int .u64 (hi : Int), .int .u64 (lo : Int), .int .u64 (id : Int), .int .u64 (par : Int), .string name, .int .i64 start, .int .i64 stop, .bool bad, .slice A n cap, .int .u64 (rv : Int), .string key, .int .u64 (weight : Int), .int .i64 at_, .string body] 1 := by rw [← hX]; exact begun w _ _ _ rfl
  have HG := Lib.hid hG
  clear hX hG
  refine (HR.out X HG.out.low).mono ?_
  rintro e w1 ⟨rfl, hb1⟩
  have HG1 := Lib.hid (HG.out.later hb1)
  have g0 : w1.cell? ⟨w.heap.size, 0, none⟩ = some (.int .u8 1) := HG1.out.item.cell 0 rfl
  have g1 : w1.cell? ⟨w.heap.size, 1, none⟩ = some (.int .u64 (hi : Int)) := HG1.out.item.cell 1 rfl
  have g2 : w1.cell? ⟨w.heap.size, 2, none⟩ = some (.int .u64 (lo : Int)) := HG1.out.item.cell 2 rfl
  have g3 : w1.cell? ⟨w.heap.size, 3, none⟩ = some (.int .u64 (id : Int)) := HG1.out.item.cell 3 rfl
  have g4 : w1.cell? ⟨w.heap.size, 4, none⟩ = some (.int .u64 (par : Int)) := HG1.out.item.cell 4 rfl
  have g5 : w1.cell? ⟨w.heap.size, 5, none⟩ = some (.string name) := HG1.out.item.cell 5 rfl
  have g6 : w1.cell? ⟨w.heap.size, 6, none⟩ = some (.int .i64 start) := HG1.out.item.cell 6 rfl
  have g7 : w1.cell? ⟨w.heap.size, 7, none⟩ = some (.int .i64 stop) := HG1.out.item.cell 7 rfl
  have g8 : w1.cell? ⟨w.heap.size, 8, none⟩ = some (.bool bad) := HG1.out.item.cell 8 rfl
  have g9 : w1.cell? ⟨w.heap.size, 9, none⟩ = some (.slice A n cap) := HG1.out.item.cell 9 rfl
  have g10 : w1.cell? ⟨w.heap.size, 10, none⟩ = some (.int .u64 (rv : Int)) := HG1.out.item.cell 10 rfl
  have g11 : w1.cell? ⟨w.heap.size, 11, none⟩ = some (.string key) := HG1.out.item.cell 11 rfl
  have g12 : w1.cell? ⟨w.heap.size, 12, none⟩ = some (.int .u64 (weight : Int)) := HG1.out.item.cell 12 rfl
  have g13 : w1.cell? ⟨w.heap.size, 13, none⟩ = some (.int .i64 at_) := HG1.out.item.cell 13 rfl
  have g14 : w1.cell? ⟨w.heap.size, 14, none⟩ = some (.string body) := HG1.out.item.cell 14 rfl
  go_wp2_with fail
  go_ret2
  exact ⟨rfl, HG1.out.low⟩

end Go.Proofs.Ytklgggolkclebaa
