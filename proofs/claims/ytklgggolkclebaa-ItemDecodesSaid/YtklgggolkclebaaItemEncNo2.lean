/-
  item.Encode where there is none to write, and of a log alone, whatever the empty list of attributes is.
-/
import Derived.Test.YtklgggolkclebaaItemEncodeNo
namespace Go.Proofs.Ytklgggolkclebaa
open Go.RowKit Go.Proofs.NumMath Go.Proofs.ItemMath

set_option linter.unusedVariables false in
set_option linter.unusedSimpArgs false in
set_option maxRecDepth 100000 in
set_option maxHeartbeats 4000000 in
theorem encode_span_key (hi lo id par rv : Nat) (name : ByteArray) (start stop : Int) (bad : Bool) (A : Option Addr) (l : List Attr) (n cap : Nat) (key body : ByteArray) (weight : Nat) (at_ : Int) (w : World) (hn : l.length = n) (hnm : n ≤ 9223372036854775807) (hname : name.size ≤ 9223372036854775807) (hr : HoldsA w.heap.size w A l) (hright : rightSpan ⟨hi, lo, id, par, name, start, stop, bad, l, rv⟩ = true) (c1 : key.size ≠ 0) :
    Calls Try.prog 19 #[.agg #[.int .u8 1, .int .u64 (hi : Int), .int .u64 (lo : Int), .int .u64 (id : Int), .int .u64 (par : Int), .string name, .int .i64 start, .int .i64 stop, .bool bad, .slice A n cap, .int .u64 (rv : Int), .string key, .int .u64 (weight : Int), .int .i64 at_, .string body]] w fun e w' => e = .returned (.tuple #[.slice none 0 0, .int .u16 40]) ∧ Below w.heap.size w w' := by
  have hR := fun (W : World) (h : Below w.heap.size w W) => rightSpan_any hi lo id par rv name start stop bad A l n cap W true hn hnm hname (hr.later h) hright
  unfold spCells at hR
  have HR := Lib.hid hR
  have d1 := full_of c1
  clear c1
  clear hR hn hr hright
  go_enter Try.func19, Try.ntmps19
  go_wp2_with fail
  generalize hX : ((w.alloc (.cells #[.int .u8 1, .int .u64 (hi : Int), .int .u64 (lo : Int), .int .u64 (id : Int), .int .u64 (par : Int), .string name, .int .i64 start, .int .i64 stop, .bool bad, .slice A n cap, .int .u64 (rv : Int), .string key, .int .u64 (weight : Int), .int .i64 at_, .string body] 38)).alloc (.cells #[.int .u8 1] 5)).alloc (.cells #[.slice (some ⟨w.heap.size + 1, 0, none⟩) 1 1] 71) = X
  have hG : Begun w X #[.int .u8 1, .int .u64 (hi : Int), .int .u64 (lo : Int), .int .u64 (id : Int), .int .u64 (par : Int), .string name, .int .i64 start, .int .i64 stop, .bool bad, .slice A n cap, .int .u64 (rv : Int), .string key, .int .u64 (weight : Int), .int .i64 at_, .string body] 1 := by rw [← hX]; exact begun w _ _ _ rfl
  have HG := Lib.hid hG
  clear hX hG
  refine (HR.out X HG.out.low).mono ?_
  rintro e w1 ⟨rfl, hb1⟩
  have HG1 := Lib.hid (HG.out.later hb1)
  have g0 : w1.cell? ⟨w.heap.size, 0, none⟩ = some (.int .u8 1) := HG1.out.item.cell 0 rfl
  have g1 : w1.cell? ⟨w.heap.size, 1, none⟩ = some (.int .u64 (hi : Int)) := HG1.out.item.cell 1 rfl
  have g2 : w1.cell? ⟨w.heap.size, 2, none⟩ = some (.int .u64 (lo : Int)) := HG1.out.item.cell 2 rfl
  have g3 : w1.cell? ⟨w.heap.size, 3, none⟩ = some (.int .u64 (id : Int)) := HG1.out.item.cell 3 rfl
  have g4 : w1.cell? ⟨w.heap.size, 4, none⟩ = some (.int .u64 (par : Int)) := HG1.out.item.cell 4 rfl
  have g5 : w1.cell? ⟨w.heap.size, 5, none⟩ = some (.string name) := HG1.out.item.cell 5 rfl
  have g6 : w1.cell? ⟨w.heap.size, 6, none⟩ = some (.int .i64 start) := HG1.out.item.cell 6 rfl
  have g7 : w1.cell? ⟨w.heap.size, 7, none⟩ = some (.int .i64 stop) := HG1.out.item.cell 7 rfl
  have g8 : w1.cell? ⟨w.heap.size, 8, none⟩ = some (.bool bad) := HG1.out.item.cell 8 rfl
  have g9 : w1.cell? ⟨w.heap.size, 9, none⟩ = some (.slice A n cap) := HG1.out.item.cell 9 rfl
  have g10 : w1.cell? ⟨w.heap.size, 10, none⟩ = some (.int .u64 (rv : Int)) := HG1.out.item.cell 10 rfl
  have g11 : w1.cell? ⟨w.heap.size, 11, none⟩ = some (.string key) := HG1.out.item.cell 11 rfl
  have g12 : w1.cell? ⟨w.heap.size, 12, none⟩ = some (.int .u64 (weight : Int)) := HG1.out.item.cell 12 rfl
  have g13 : w1.cell? ⟨w.heap.size, 13, none⟩ = some (.int .i64 at_) := HG1.out.item.cell 13 rfl
  have g14 : w1.cell? ⟨w.heap.size, 14, none⟩ = some (.string body) := HG1.out.item.cell 14 rfl
  go_wp2_with fail
  go_ret2
  exact ⟨rfl, HG1.out.low⟩

set_option linter.unusedVariables false in
set_option linter.unusedSimpArgs false in
set_option maxRecDepth 100000 in
set_option maxHeartbeats 4000000 in
theorem encode_span_at (hi lo id par rv : Nat) (name : ByteArray) (start stop : Int) (bad : Bool) (A : Option Addr) (l : List Attr) (n cap : Nat) (key body : ByteArray) (weight : Nat) (at_ : Int) (w : World) (hn : l.length = n) (hnm : n ≤ 9223372036854775807) (hname : name.size ≤ 9223372036854775807) (hr : HoldsA w.heap.size w A l) (hright : rightSpan ⟨hi, lo, id, par, name, start, stop, bad, l, rv⟩ = true) (c1 : key = ⟨#[]⟩) (c2 : weight = 0) (c3 : at_ ≠ 0) :
    Calls Try.prog 19 #[.agg #[.int .u8 1, .int .u64 (hi : Int), .int .u64 (lo : Int), .int .u64 (id : Int), .int .u64 (par : Int), .string name, .int .i64 start, .int .i64 stop, .bool bad, .slice A n cap, .int .u64 (rv : Int), .string key, .int .u64 (weight : Int), .int .i64 at_, .string body]] w fun e w' => e = .returned (.tuple #[.slice none 0 0, .int .u16 40]) ∧ Below w.heap.size w w' := by
  have hR := fun (W : World) (h : Below w.heap.size w W) => rightSpan_any hi lo id par rv name start stop bad A l n cap W true hn hnm hname (hr.later h) hright
  unfold spCells at hR
  have HR := Lib.hid hR
  subst c1 c2
  have d3 : (at_ == 0) = false := by simp; omega
  clear c3
  clear hR hn hr hright
  go_enter Try.func19, Try.ntmps19
  go_wp2_with fail
  generalize hX : ((w.alloc (.cells #[.int .u8 1, .int .u64 (hi : Int), .int .u64 (lo : Int), .int .u64 (id : Int), .int .u64 (par : Int), .string name, .int .i64 start, .int .i64 stop, .bool bad, .slice A n cap, .int .u64 (rv : Int), .string ⟨#[]⟩, .int .u64 ((0 : Nat) : Int), .int .i64 at_, .string body] 38)).alloc (.cells #[.int .u8 1] 5)).alloc (.cells #[.slice (some ⟨w.heap.size + 1, 0, none⟩) 1 1] 71) = X
  have hG : Begun w X #[.int .u8 1, .int .u64 (hi : Int), .int .u64 (lo : Int), .int .u64 (id : Int), .int .u64 (par : Int), .string name, .int .i64 start, .int .i64 stop, .bool bad, .slice A n cap, .int .u64 (rv : Int), .string ⟨#[]⟩, .int .u64 ((0 : Nat) : Int), .int .i64 at_, .string body] 1 := by rw [← hX]; exact begun w _ _ _ rfl
  have HG := Lib.hid hG
  clear hX hG
  refine (HR.out X HG.out.low).mono ?_
  rintro e w1 ⟨rfl, hb1⟩
  have HG1 := Lib.hid (HG.out.later hb1)
  have g0 : w1.cell? ⟨w.heap.size, 0, none⟩ = some (.int .u8 1) := HG1.out.item.cell 0 rfl
  have g1 : w1.cell? ⟨w.heap.size, 1, none⟩ = some (.int .u64 (hi : Int)) := HG1.out.item.cell 1 rfl
  have g2 : w1.cell? ⟨w.heap.size, 2, none⟩ = some (.int .u64 (lo : Int)) := HG1.out.item.cell 2 rfl
  have g3 : w1.cell? ⟨w.heap.size, 3, none⟩ = some (.int .u64 (id : Int)) := HG1.out.item.cell 3 rfl
  have g4 : w1.cell? ⟨w.heap.size, 4, none⟩ = some (.int .u64 (par : Int)) := HG1.out.item.cell 4 rfl
  have g5 : w1.cell? ⟨w.heap.size, 5, none⟩ = some (.string name) := HG1.out.item.cell 5 rfl
  have g6 : w1.cell? ⟨w.heap.size, 6, none⟩ = some (.int .i64 start) := HG1.out.item.cell 6 rfl
  have g7 : w1.cell? ⟨w.heap.size, 7, none⟩ = some (.int .i64 stop) := HG1.out.item.cell 7 rfl
  have g8 : w1.cell? ⟨w.heap.size, 8, none⟩ = some (.bool bad) := HG1.out.item.cell 8 rfl
  have g9 : w1.cell? ⟨w.heap.size, 9, none⟩ = some (.slice A n cap) := HG1.out.item.cell 9 rfl
  have g10 : w1.cell? ⟨w.heap.size, 10, none⟩ = some (.int .u64 (rv : Int)) := HG1.out.item.cell 10 rfl
  have g11 : w1.cell? ⟨w.heap.size, 11, none⟩ = some (.string ⟨#[]⟩) := HG1.out.item.cell 11 rfl
  have g12 : w1.cell? ⟨w.heap.size, 12, none⟩ = some (.int .u64 ((0 : Nat) : Int)) := HG1.out.item.cell 12 rfl
  have g13 : w1.cell? ⟨w.heap.size, 13, none⟩ = some (.int .i64 at_) := HG1.out.item.cell 13 rfl
  have g14 : w1.cell? ⟨w.heap.size, 14, none⟩ = some (.string body) := HG1.out.item.cell 14 rfl
  go_wp2_with fail
  go_ret2
  exact ⟨rfl, HG1.out.low⟩

set_option linter.unusedVariables false in
set_option linter.unusedSimpArgs false in
set_option maxRecDepth 100000 in
set_option maxHeartbeats 4000000 in
theorem encode_span_body (hi lo id par rv : Nat) (name : ByteArray) (start stop : Int) (bad : Bool) (A : Option Addr) (l : List Attr) (n cap : Nat) (key body : ByteArray) (weight : Nat) (at_ : Int) (w : World) (hn : l.length = n) (hnm : n ≤ 9223372036854775807) (hname : name.size ≤ 9223372036854775807) (hr : HoldsA w.heap.size w A l) (hright : rightSpan ⟨hi, lo, id, par, name, start, stop, bad, l, rv⟩ = true) (c1 : key = ⟨#[]⟩) (c2 : weight = 0) (c3 : at_ = 0) (c4 : body.size ≠ 0) :
    Calls Try.prog 19 #[.agg #[.int .u8 1, .int .u64 (hi : Int), .int .u64 (lo : Int), .int .u64 (id : Int), .int .u64 (par : Int), .string name, .int .i64 start, .int .i64 stop, .bool bad, .slice A n cap, .int .u64 (rv : Int), .string key, .int .u64 (weight : Int), .int .i64 at_, .string body]] w fun e w' => e = .returned (.tuple #[.slice none 0 0, .int .u16 40]) ∧ Below w.heap.size w w' := by
  have hR := fun (W : World) (h : Below w.heap.size w W) => rightSpan_any hi lo id par rv name start stop bad A l n cap W true hn hnm hname (hr.later h) hright
  unfold spCells at hR
  have HR := Lib.hid hR
  subst c1 c2 c3
  have d4 := full_of c4
  clear c4
  clear hR hn hr hright
  go_enter Try.func19, Try.ntmps19
  go_wp2_with fail
  generalize hX : ((w.alloc (.cells #[.int .u8 1, .int .u64 (hi : Int), .int .u64 (lo : Int), .int .u64 (id : Int), .int .u64 (par : Int), .string name, .int .i64 start, .int .i64 stop, .bool bad, .slice A n cap, .int .u64 (rv : Int), .string ⟨#[]⟩, .int .u64 ((0 : Nat) : Int), .int .i64 0, .string body] 38)).alloc (.cells #[.int .u8 1] 5)).alloc (.cells #[.slice (some ⟨w.heap.size + 1, 0, none⟩) 1 1] 71) = X
  have hG : Begun w X #[.int .u8 1, .int .u64 (hi : Int), .int .u64 (lo : Int), .int .u64 (id : Int), .int .u64 (par : Int), .string name, .int .i64 start, .int .i64 stop, .bool bad, .slice A n cap, .int .u64 (rv : Int), .string ⟨#[]⟩, .int .u64 ((0 : Nat) : Int), .int .i64 0, .string body] 1 := by rw [← hX]; exact begun w _ _ _ rfl
  have HG := Lib.hid hG
  clear hX hG
  refine (HR.out X HG.out.low).mono ?_
  rintro e w1 ⟨rfl, hb1⟩
  have HG1 := Lib.hid (HG.out.later hb1)
  have g0 : w1.cell? ⟨w.heap.size, 0, none⟩ = some (.int .u8 1) := HG1.out.item.cell 0 rfl
  have g1 : w1.cell? ⟨w.heap.size, 1, none⟩ = some (.int .u64 (hi : Int)) := HG1.out.item.cell 1 rfl
  have g2 : w1.cell? ⟨w.heap.size, 2, none⟩ = some (.int .u64 (lo : Int)) := HG1.out.item.cell 2 rfl
  have g3 : w1.cell? ⟨w.heap.size, 3, none⟩ = some (.int .u64 (id : Int)) := HG1.out.item.cell 3 rfl
  have g4 : w1.cell? ⟨w.heap.size, 4, none⟩ = some (.int .u64 (par : Int)) := HG1.out.item.cell 4 rfl
  have g5 : w1.cell? ⟨w.heap.size, 5, none⟩ = some (.string name) := HG1.out.item.cell 5 rfl
  have g6 : w1.cell? ⟨w.heap.size, 6, none⟩ = some (.int .i64 start) := HG1.out.item.cell 6 rfl
  have g7 : w1.cell? ⟨w.heap.size, 7, none⟩ = some (.int .i64 stop) := HG1.out.item.cell 7 rfl
  have g8 : w1.cell? ⟨w.heap.size, 8, none⟩ = some (.bool bad) := HG1.out.item.cell 8 rfl
  have g9 : w1.cell? ⟨w.heap.size, 9, none⟩ = some (.slice A n cap) := HG1.out.item.cell 9 rfl
  have g10 : w1.cell? ⟨w.heap.size, 10, none⟩ = some (.int .u64 (rv : Int)) := HG1.out.item.cell 10 rfl
  have g11 : w1.cell? ⟨w.heap.size, 11, none⟩ = some (.string ⟨#[]⟩) := HG1.out.item.cell 11 rfl
  have g12 : w1.cell? ⟨w.heap.size, 12, none⟩ = some (.int .u64 ((0 : Nat) : Int)) := HG1.out.item.cell 12 rfl
  have g13 : w1.cell? ⟨w.heap.size, 13, none⟩ = some (.int .i64 0) := HG1.out.item.cell 13 rfl
  have g14 : w1.cell? ⟨w.heap.size, 14, none⟩ = some (.string body) := HG1.out.item.cell 14 rfl
  go_wp2_with fail
  go_ret2
  exact ⟨rfl, HG1.out.low⟩

set_option linter.unusedVariables false in
set_option linter.unusedSimpArgs false in
set_option maxRecDepth 100000 in
set_option maxHeartbeats 4000000 in
theorem encode_log_on (A0 : Option Addr) (cap0 : Nat) (key body : ByteArray) (weight : Nat) (at_ : Int) (w : World) (hright : rightLog ⟨key, weight, at_, body⟩ = true) (z : List UInt8) (m : Nat) (hz : (2 : UInt8) :: encLog ⟨key, weight, at_, body⟩ = z) (hm : z.length = m) :
    Calls Try.prog 19 #[.agg #[.int .u8 2, .int .u64 0, .int .u64 0, .int .u64 0, .int .u64 0, .string ⟨#[]⟩, .int .i64 0, .int .i64 0, .bool false, .slice A0 0 cap0, .int .u64 0, .string key, .int .u64 (weight : Int), .int .i64 at_, .string body]] w fun e w' => ∃ A' c', e = .returned (.tuple #[.slice A' m c', .int .u16 0]) ∧ w'.ownsRow w.heap.size 5 1 (.slice A' m c') z.length (z.map b8) ∧ Below w.heap.size w w' := by
  obtain ⟨p1, p2, p3, p4, p5, p6⟩ := rightLog_parts hright
  dsimp only at p1 p2 p3 p4 p5 p6
  obtain ⟨a, rfl⟩ : ∃ a : Nat, at_ = (a : Int) := ⟨at_.toNat, by omega⟩
  have hR := fun (W : World) => rightLog_any key body weight (a : Int) W true (by omega) (by omega) hright
  have hI := fun (W : World) => isNoSpan_any 0 0 0 0 0 ⟨#[]⟩ 0 0 false A0 [] 0 cap0 W true rfl rfl
  have hL := fun (gw : Nat) (W : World) (cs : List UInt8) (v : Value) => layLog_any w.heap.size gw (w.heap.size + 1) key body weight a W cs v p1 p6 (by omega) (by omega)
  unfold lgCells at hR hL
  unfold spCells at hI
  have HR := Lib.hid hR
  have HI := Lib.hid hI
  have HL := Lib.hid hL
  have HZ := Lib.hid hz
  have HM := Lib.hid hm
  clear hR hI hL hz hm hright p1 p2 p3 p4 p5 p6
  go_enter Try.func19, Try.ntmps19
  go_wp2_with fail
  generalize hX : ((w.alloc (.cells #[.int .u8 2, .int .u64 0, .int .u64 0, .int .u64 0, .int .u64 0, .string ⟨#[]⟩, .int .i64 0, .int .i64 0, .bool false, .slice A0 0 cap0, .int .u64 0, .string key, .int .u64 (weight : Int), .int .i64 (a : Int), .string body] 38)).alloc (.cells #[.int .u8 2] 5)).alloc (.cells #[.slice (some ⟨w.heap.size + 1, 0, none⟩) 1 1] 71) = X
  have hG : Begun w X #[.int .u8 2, .int .u64 0, .int .u64 0, .int .u64 0, .int .u64 0, .string ⟨#[]⟩, .int .i64 0, .int .i64 0, .bool false, .slice A0 0 cap0, .int .u64 0, .string key, .int .u64 (weight : Int), .int .i64 (a : Int), .string body] 2 := by rw [← hX]; exact begun w _ _ _ rfl
  have HG := Lib.hid hG
  clear hX hG
  refine (HR.out X).mono ?_
  rintro e w1 ⟨rfl, hb1⟩
  have HG1 := Lib.hid (HG.out.later hb1)
  have g0 : w1.cell? ⟨w.heap.size, 0, none⟩ = some (.int .u8 2) := HG1.out.item.cell 0 rfl
  have g1 : w1.cell? ⟨w.heap.size, 1, none⟩ = some (.int .u64 0) := HG1.out.item.cell 1 rfl
  have g2 : w1.cell? ⟨w.heap.size, 2, none⟩ = some (.int .u64 0) := HG1.out.item.cell 2 rfl
  have g3 : w1.cell? ⟨w.heap.size, 3, none⟩ = some (.int .u64 0) := HG1.out.item.cell 3 rfl
  have g4 : w1.cell? ⟨w.heap.size, 4, none⟩ = some (.int .u64 0) := HG1.out.item.cell 4 rfl
  have g5 : w1.cell? ⟨w.heap.size, 5, none⟩ = some (.string ⟨#[]⟩) := HG1.out.item.cell 5 rfl
  have g6 : w1.cell? ⟨w.heap.size, 6, none⟩ = some (.int .i64 0) := HG1.out.item.cell 6 rfl
  have g7 : w1.cell? ⟨w.heap.size, 7, none⟩ = some (.int .i64 0) := HG1.out.item.cell 7 rfl
  have g8 : w1.cell? ⟨w.heap.size, 8, none⟩ = some (.bool false) := HG1.out.item.cell 8 rfl
  have g9 : w1.cell? ⟨w.heap.size, 9, none⟩ = some (.slice A0 0 cap0) := HG1.out.item.cell 9 rfl
  have g10 : w1.cell? ⟨w.heap.size, 10, none⟩ = some (.int .u64 0) := HG1.out.item.cell 10 rfl
  have g11 : w1.cell? ⟨w.heap.size, 11, none⟩ = some (.string key) := HG1.out.item.cell 11 rfl
  have g12 : w1.cell? ⟨w.heap.size, 12, none⟩ = some (.int .u64 (weight : Int)) := HG1.out.item.cell 12 rfl
  have g13 : w1.cell? ⟨w.heap.size, 13, none⟩ = some (.int .i64 (a : Int)) := HG1.out.item.cell 13 rfl
  have g14 : w1.cell? ⟨w.heap.size, 14, none⟩ = some (.string body) := HG1.out.item.cell 14 rfl
  go_wp2_with fail
  refine (HI.out w1).mono ?_
  rintro e w2 ⟨rfl, hb2⟩
  have HG2 := Lib.hid (HG1.out.later hb2)
  clear g0 g1 g2 g3 g4 g5 g6 g7 g8 g9 g10 g11 g12 g13 g14
  have g0 : w2.cell? ⟨w.heap.size, 0, none⟩ = some (.int .u8 2) := HG2.out.item.cell 0 rfl
  have g1 : w2.cell? ⟨w.heap.size, 1, none⟩ = some (.int .u64 0) := HG2.out.item.cell 1 rfl
  have g2 : w2.cell? ⟨w.heap.size, 2, none⟩ = some (.int .u64 0) := HG2.out.item.cell 2 rfl
  have g3 : w2.cell? ⟨w.heap.size, 3, none⟩ = some (.int .u64 0) := HG2.out.item.cell 3 rfl
  have g4 : w2.cell? ⟨w.heap.size, 4, none⟩ = some (.int .u64 0) := HG2.out.item.cell 4 rfl
  have g5 : w2.cell? ⟨w.heap.size, 5, none⟩ = some (.string ⟨#[]⟩) := HG2.out.item.cell 5 rfl
  have g6 : w2.cell? ⟨w.heap.size, 6, none⟩ = some (.int .i64 0) := HG2.out.item.cell 6 rfl
  have g7 : w2.cell? ⟨w.heap.size, 7, none⟩ = some (.int .i64 0) := HG2.out.item.cell 7 rfl
  have g8 : w2.cell? ⟨w.heap.size, 8, none⟩ = some (.bool false) := HG2.out.item.cell 8 rfl
  have g9 : w2.cell? ⟨w.heap.size, 9, none⟩ = some (.slice A0 0 cap0) := HG2.out.item.cell 9 rfl
  have g10 : w2.cell? ⟨w.heap.size, 10, none⟩ = some (.int .u64 0) := HG2.out.item.cell 10 rfl
  have g11 : w2.cell? ⟨w.heap.size, 11, none⟩ = some (.string key) := HG2.out.item.cell 11 rfl
  have g12 : w2.cell? ⟨w.heap.size, 12, none⟩ = some (.int .u64 (weight : Int)) := HG2.out.item.cell 12 rfl
  have g13 : w2.cell? ⟨w.heap.size, 13, none⟩ = some (.int .i64 (a : Int)) := HG2.out.item.cell 13 rfl
  have g14 : w2.cell? ⟨w.heap.size, 14, none⟩ = some (.string body) := HG2.out.item.cell 14 rfl
  go_wp2_with fail
  refine (HL.out (w.heap.size + 1 + 1) w2 [2] _ (by simp) HG2.out.writer HG2.out.own (fun k hk => by simpa [Value.ownBlock] using hk.symm) (by omega) (by have := HG2.out.writer.lt; omega)).mono ?_
  rintro e w3 ⟨rfl, v', hblk, hown, hlow⟩
  have hzz : [2] ++ encLog ⟨key, weight, (a : Int), body⟩ = z := HZ.out
  rw [hzz] at hown
  obtain ⟨A', c', hv', hc1, hc2, hc3⟩ := holds_of_own hown
  rw [HM.out] at hv'
  subst hv'
  have hx := hblk.cell 0 rfl
  have HO := Lib.hid hown
  have hlow2 := HG2.out.low.trans hlow
  clear hzz hown hc1 hc2 hc3 hlow hblk
  go_wp2_with fail
  go_ret2
  exact ⟨A', c', rfl, HO.out, hlow2⟩

end Go.Proofs.Ytklgggolkclebaa
