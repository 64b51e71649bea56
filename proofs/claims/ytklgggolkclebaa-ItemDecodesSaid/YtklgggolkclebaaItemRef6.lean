/-
  The document's own answer of layer 3 (telemeterref03): Nothing at every span; Encode where there is none to write.
-/
import Derived.Test.YtklgggolkclebaaItemRef3
import Derived.Test.YtklgggolkclebaaItemSpan
import Derived.Test.YtklgggolkclebaaItemIsNo
namespace Go.Proofs.Ytklgggolkclebaa
open Go.RowKit Go.Proofs.NumMath Go.Proofs.ItemMath

set_option linter.unusedVariables false in
set_option maxRecDepth 100000 in
set_option maxHeartbeats 4000000 in
/-- **telemeterref03.Nothing at every span.** -/
theorem refNothing_any (hi lo id par rv : Nat) (name : ByteArray) (start stop : Int) (bad : Bool) (A : Option Addr) (l : List Attr) (n cap : Nat) (w : World) (r : Bool) (hn : l.length = n) (hres : noSpan ⟨hi, lo, id, par, name, start, stop, bad, l, rv⟩ = r) :
    Calls Try.prog 28 #[.agg (spCells hi lo id par name start stop bad A n cap rv)] w fun e w' => e = .returned (.bool r) ∧ Below w.heap.size w w' := by
  have hB0 : Below w.heap.size w (w.alloc (.cells (spCells hi lo id par name start stop bad A n cap rv) 26)) := (Below.refl _ w).alloc (Nat.le_refl _) _
  unfold noSpan at hres
  dsimp only at hres
  rw [hn] at hres
  unfold spCells at hB0 ⊢
  clear hn
  by_cases c0 : ¬ hi = 0
  · have d0 : ((hi : Int) == 0) = false := by simp; omega
    have e : r = false := by rw [← hres, decide_eq_false c0]; simp
    subst e
    clear hres
    go_enter Try.func28, Try.ntmps28
    go_wp2
    go_ret
    exact ⟨rfl, hB0⟩
  have c0 : hi = 0 := by omega
  have d0 : ((hi : Int) == 0) = true := by simp; omega
  rw [decide_eq_true c0] at hres
  clear c0
  by_cases c1 : ¬ lo = 0
  · have d1 : ((lo : Int) == 0) = false := by simp; omega
    have e : r = false := by rw [← hres, decide_eq_false c1]; simp
    subst e
    clear hres
    go_enter Try.func28, Try.ntmps28
    go_wp2
    go_ret
    exact ⟨rfl, hB0⟩
  have c1 : lo = 0 := by omega
  have d1 : ((lo : Int) == 0) = true := by simp; omega
  rw [decide_eq_true c1] at hres
  clear c1
  by_cases c2 : ¬ id = 0
  · have d2 : ((id : Int) == 0) = false := by simp; omega
    have e : r = false := by rw [← hres, decide_eq_false c2]; simp
    subst e
    clear hres
    go_enter Try.func28, Try.ntmps28
    go_wp2
    go_ret
    exact ⟨rfl, hB0⟩
  have c2 : id = 0 := by omega
  have d2 : ((id : Int) == 0) = true := by simp; omega
  rw [decide_eq_true c2] at hres
  clear c2
  by_cases c3 : ¬ par = 0
  · have d3 : ((par : Int) == 0) = false := by simp; omega
    have e : r = false := by rw [← hres, decide_eq_false c3]; simp
    subst e
    clear hres
    go_enter Try.func28, Try.ntmps28
    go_wp2
    go_ret
    exact ⟨rfl, hB0⟩
  have c3 : par = 0 := by omega
  have d3 : ((par : Int) == 0) = true := by simp; omega
  rw [decide_eq_true c3] at hres
  clear c3
  by_cases c4 : ¬ name.size = 0
  · have d4 : name.toList.isEmpty = false := full_of c4
    have e : r = false := by rw [← hres, decide_eq_false c4]; simp
    subst e
    clear hres
    go_enter Try.func28, Try.ntmps28
    go_wp2
    go_ret
    exact ⟨rfl, hB0⟩
  have c4 : name.size = 0 := by omega
  have d4 : name.toList.isEmpty = true := empty_of c4
  rw [decide_eq_true c4] at hres
  clear c4
  by_cases c5 : ¬ start = 0
  · have d5 : (start == 0) = false := by simp; omega
    have e : r = false := by rw [← hres, decide_eq_false c5]; simp
    subst e
    clear hres
    go_enter Try.func28, Try.ntmps28
    go_wp2
    go_ret
    exact ⟨rfl, hB0⟩
  have c5 : start = 0 := by omega
  have d5 : (start == 0) = true := by simp; omega
  rw [decide_eq_true c5] at hres
  clear c5
  by_cases c6 : ¬ stop = 0
  · have d6 : (stop == 0) = false := by simp; omega
    have e : r = false := by rw [← hres, decide_eq_false c6]; simp
    subst e
    clear hres
    go_enter Try.func28, Try.ntmps28
    go_wp2
    go_ret
    exact ⟨rfl, hB0⟩
  have c6 : stop = 0 := by omega
  have d6 : (stop == 0) = true := by simp; omega
  rw [decide_eq_true c6] at hres
  clear c6
  by_cases c7 : bad = true
  · subst c7
    have e : r = false := by rw [← hres]; simp
    subst e
    clear hres
    go_enter Try.func28, Try.ntmps28
    go_wp2
    go_ret
    exact ⟨rfl, hB0⟩
  have c7 : bad = false := by simpa using c7
  subst c7
  by_cases c8 : ¬ n = 0
  · have d8 : ((n : Int) == 0) = false := by simp; omega
    have e : r = false := by rw [← hres, decide_eq_false c8]; simp
    subst e
    clear hres
    go_enter Try.func28, Try.ntmps28
    go_wp2
    go_ret
    exact ⟨rfl, hB0⟩
  have c8 : n = 0 := by omega
  have d8 : ((n : Int) == 0) = true := by simp; omega
  rw [decide_eq_true c8] at hres
  clear c8
  by_cases c9 : ¬ rv = 0
  · have d9 : ((rv : Int) == 0) = false := by simp; omega
    have e : r = false := by rw [← hres, decide_eq_false c9]; simp
    subst e
    clear hres
    go_enter Try.func28, Try.ntmps28
    go_wp2
    go_ret
    exact ⟨rfl, hB0⟩
  have c9 : rv = 0 := by omega
  have d9 : ((rv : Int) == 0) = true := by simp; omega
  rw [decide_eq_true c9] at hres
  clear c9
  have e : r = true := by rw [← hres]; rfl
  subst e
  clear hres
  go_enter Try.func28, Try.ntmps28
  go_wp2
  go_ret
  exact ⟨rfl, hB0⟩

set_option linter.unusedSimpArgs false in
set_option linter.unusedVariables false in
set_option maxRecDepth 100000 in
set_option maxHeartbeats 4000000 in
theorem refEncode_kind (kind : Nat) (hi lo id par rv : Nat) (name : ByteArray) (start stop : Int) (bad : Bool) (A : Option Addr) (l : List Attr) (n cap : Nat) (key body : ByteArray) (weight : Nat) (at_ : Int) (w : World) (h1 : kind ≠ 1) (h2 : kind ≠ 2) (h3 : kind < 256) :
    Calls Try.prog 17 #[.agg #[.int .u8 (kind : Int), .int .u64 (hi : Int), .int .u64 (lo : Int), .int .u64 (id : Int), .int .u64 (par : Int), .string name, .int .i64 start, .int .i64 stop, .bool bad, .slice A n cap, .int .u64 (rv : Int), .string key, .int .u64 (weight : Int), .int .i64 at_, .string body]] w fun e w' => e = .returned (.tuple #[.slice none 0 0, .int .i64 40]) ∧ Below w.heap.size w w' := by
  have d1 : ((kind : Int) == 1) = false := by simp; omega
  have d2 : ((kind : Int) != 2) = true := by simp; omega
  have HB0 := Lib.hid ((Below.refl w.heap.size w).alloc (Nat.le_refl _) (.cells #[.int .u8 (kind : Int), .int .u64 (hi : Int), .int .u64 (lo : Int), .int .u64 (id : Int), .int .u64 (par : Int), .string name, .int .i64 start, .int .i64 stop, .bool bad, .slice A n cap, .int .u64 (rv : Int), .string key, .int .u64 (weight : Int), .int .i64 at_, .string body] 38))
  clear h1 h2
  go_enter Try.func17, Try.ntmps17
  go_wp2_with fail
  go_ret2
  exact ⟨rfl, HB0.out.alloc HB0.out.size _⟩

set_option linter.unusedSimpArgs false in
set_option linter.unusedVariables false in
set_option maxRecDepth 100000 in
set_option maxHeartbeats 4000000 in
theorem refEncode_bad_span (hi lo id par rv : Nat) (name : ByteArray) (start stop : Int) (bad : Bool) (A : Option Addr) (l : List Attr) (n cap : Nat) (key body : ByteArray) (weight : Nat) (at_ : Int) (w : World) (hn : l.length = n) (hnm : n ≤ 9223372036854775807) (hname : name.size ≤ 9223372036854775807) (hr : HoldsA w.heap.size w A l) (hright : rightSpan ⟨hi, lo, id, par, name, start, stop, bad, l, rv⟩ = false) :
    Calls Try.prog 17 #[.agg #[.int .u8 1, .int .u64 (hi : Int), .int .u64 (lo : Int), .int .u64 (id : Int), .int .u64 (par : Int), .string name, .int .i64 start, .int .i64 stop, .bool bad, .slice A n cap, .int .u64 (rv : Int), .string key, .int .u64 (weight : Int), .int .i64 at_, .string body]] w fun e w' => e = .returned (.tuple #[.slice none 0 0, .int .i64 40]) ∧ Below w.heap.size w w' := by
  have hR := fun (W : World) (h : Below w.heap.size w W) => refRightSpan_any hi lo id par rv name start stop bad A l n cap W false hn hnm hname (hr.later h) hright
  unfold spCells at hR
  have HR := Lib.hid hR
  have HB0 := Lib.hid ((Below.refl w.heap.size w).alloc (Nat.le_refl _) (.cells #[.int .u8 1, .int .u64 (hi : Int), .int .u64 (lo : Int), .int .u64 (id : Int), .int .u64 (par : Int), .string name, .int .i64 start, .int .i64 stop, .bool bad, .slice A n cap, .int .u64 (rv : Int), .string key, .int .u64 (weight : Int), .int .i64 at_, .string body] 38))
  clear hR hn hr hright
  go_enter Try.func17, Try.ntmps17
  go_wp2_with fail
  refine (HR.out _ HB0.out).mono ?_
  rintro e w1 ⟨rfl, hb1⟩
  have g0 : w1.cell? ⟨w.heap.size, 0, none⟩ = some (.int .u8 1) := new_cell hb1 0 rfl
  have g1 : w1.cell? ⟨w.heap.size, 1, none⟩ = some (.int .u64 (hi : Int)) := new_cell hb1 1 rfl
  have g2 : w1.cell? ⟨w.heap.size, 2, none⟩ = some (.int .u64 (lo : Int)) := new_cell hb1 2 rfl
  have g3 : w1.cell? ⟨w.heap.size, 3, none⟩ = some (.int .u64 (id : Int)) := new_cell hb1 3 rfl
  have g4 : w1.cell? ⟨w.heap.size, 4, none⟩ = some (.int .u64 (par : Int)) := new_cell hb1 4 rfl
  have g5 : w1.cell? ⟨w.heap.size, 5, none⟩ = some (.string name) := new_cell hb1 5 rfl
  have g6 : w1.cell? ⟨w.heap.size, 6, none⟩ = some (.int .i64 start) := new_cell hb1 6 rfl
  have g7 : w1.cell? ⟨w.heap.size, 7, none⟩ = some (.int .i64 stop) := new_cell hb1 7 rfl
  have g8 : w1.cell? ⟨w.heap.size, 8, none⟩ = some (.bool bad) := new_cell hb1 8 rfl
  have g9 : w1.cell? ⟨w.heap.size, 9, none⟩ = some (.slice A n cap) := new_cell hb1 9 rfl
  have g10 : w1.cell? ⟨w.heap.size, 10, none⟩ = some (.int .u64 (rv : Int)) := new_cell hb1 10 rfl
  have g11 : w1.cell? ⟨w.heap.size, 11, none⟩ = some (.string key) := new_cell hb1 11 rfl
  have g12 : w1.cell? ⟨w.heap.size, 12, none⟩ = some (.int .u64 (weight : Int)) := new_cell hb1 12 rfl
  have g13 : w1.cell? ⟨w.heap.size, 13, none⟩ = some (.int .i64 at_) := new_cell hb1 13 rfl
  have g14 : w1.cell? ⟨w.heap.size, 14, none⟩ = some (.string body) := new_cell hb1 14 rfl
  have HB1 := Lib.hid (HB0.out.trans (hb1.mono HB0.out.size))
  have hsz : w.heap.size < w1.heap.size := by have := hb1.size; rw [World.size_alloc] at this; omega
  clear hb1
  go_wp2_with fail
  go_ret2
  exact ⟨rfl, HB1.out.alloc HB1.out.size _⟩

set_option linter.unusedSimpArgs false in
set_option linter.unusedVariables false in
set_option maxRecDepth 100000 in
set_option maxHeartbeats 4000000 in
theorem refEncode_span_key (hi lo id par rv : Nat) (name : ByteArray) (start stop : Int) (bad : Bool) (A : Option Addr) (l : List Attr) (n cap : Nat) (key body : ByteArray) (weight : Nat) (at_ : Int) (w : World) (hn : l.length = n) (hnm : n ≤ 9223372036854775807) (hname : name.size ≤ 9223372036854775807) (hr : HoldsA w.heap.size w A l) (hright : rightSpan ⟨hi, lo, id, par, name, start, stop, bad, l, rv⟩ = true) (c1 : key.size ≠ 0) :
    Calls Try.prog 17 #[.agg #[.int .u8 1, .int .u64 (hi : Int), .int .u64 (lo : Int), .int .u64 (id : Int), .int .u64 (par : Int), .string name, .int .i64 start, .int .i64 stop, .bool bad, .slice A n cap, .int .u64 (rv : Int), .string key, .int .u64 (weight : Int), .int .i64 at_, .string body]] w fun e w' => e = .returned (.tuple #[.slice none 0 0, .int .i64 40]) ∧ Below w.heap.size w w' := by
  have hR := fun (W : World) (h : Below w.heap.size w W) => refRightSpan_any hi lo id par rv name start stop bad A l n cap W true hn hnm hname (hr.later h) hright
  unfold spCells at hR
  have HR := Lib.hid hR
  have d1 := full_of c1
  clear c1
  have HB0 := Lib.hid ((Below.refl w.heap.size w).alloc (Nat.le_refl _) (.cells #[.int .u8 1, .int .u64 (hi : Int), .int .u64 (lo : Int), .int .u64 (id : Int), .int .u64 (par : Int), .string name, .int .i64 start, .int .i64 stop, .bool bad, .slice A n cap, .int .u64 (rv : Int), .string key, .int .u64 (weight : Int), .int .i64 at_, .string body] 38))
  clear hR hn hr hright
  go_enter Try.func17, Try.ntmps17
  go_wp2_with fail
  refine (HR.out _ HB0.out).mono ?_
  rintro e w1 ⟨rfl, hb1⟩
  have g0 : w1.cell? ⟨w.heap.size, 0, none⟩ = some (.int .u8 1) := new_cell hb1 0 rfl
  have g1 : w1.cell? ⟨w.heap.size, 1, none⟩ = some (.int .u64 (hi : Int)) := new_cell hb1 1 rfl
  have g2 : w1.cell? ⟨w.heap.size, 2, none⟩ = some (.int .u64 (lo : Int)) := new_cell hb1 2 rfl
  have g3 : w1.cell? ⟨w.heap.size, 3, none⟩ = some (.int .u64 (id : Int)) := new_cell hb1 3 rfl
  have g4 : w1.cell? ⟨w.heap.size, 4, none⟩ = some (.int .u64 (par : Int)) := new_cell hb1 4 rfl
  have g5 : w1.cell? ⟨w.heap.size, 5, none⟩ = some (.string name) := new_cell hb1 5 rfl
  have g6 : w1.cell? ⟨w.heap.size, 6, none⟩ = some (.int .i64 start) := new_cell hb1 6 rfl
  have g7 : w1.cell? ⟨w.heap.size, 7, none⟩ = some (.int .i64 stop) := new_cell hb1 7 rfl
  have g8 : w1.cell? ⟨w.heap.size, 8, none⟩ = some (.bool bad) := new_cell hb1 8 rfl
  have g9 : w1.cell? ⟨w.heap.size, 9, none⟩ = some (.slice A n cap) := new_cell hb1 9 rfl
  have g10 : w1.cell? ⟨w.heap.size, 10, none⟩ = some (.int .u64 (rv : Int)) := new_cell hb1 10 rfl
  have g11 : w1.cell? ⟨w.heap.size, 11, none⟩ = some (.string key) := new_cell hb1 11 rfl
  have g12 : w1.cell? ⟨w.heap.size, 12, none⟩ = some (.int .u64 (weight : Int)) := new_cell hb1 12 rfl
  have g13 : w1.cell? ⟨w.heap.size, 13, none⟩ = some (.int .i64 at_) := new_cell hb1 13 rfl
  have g14 : w1.cell? ⟨w.heap.size, 14, none⟩ = some (.string body) := new_cell hb1 14 rfl
  have HB1 := Lib.hid (HB0.out.trans (hb1.mono HB0.out.size))
  have hsz : w.heap.size < w1.heap.size := by have := hb1.size; rw [World.size_alloc] at this; omega
  clear hb1
  go_wp2_with fail
  go_ret2
  exact ⟨rfl, HB1.out.alloc HB1.out.size _⟩

set_option linter.unusedSimpArgs false in
set_option linter.unusedVariables false in
set_option maxRecDepth 100000 in
set_option maxHeartbeats 4000000 in
theorem refEncode_span_weight (hi lo id par rv : Nat) (name : ByteArray) (start stop : Int) (bad : Bool) (A : Option Addr) (l : List Attr) (n cap : Nat) (key body : ByteArray) (weight : Nat) (at_ : Int) (w : World) (hn : l.length = n) (hnm : n ≤ 9223372036854775807) (hname : name.size ≤ 9223372036854775807) (hr : HoldsA w.heap.size w A l) (hright : rightSpan ⟨hi, lo, id, par, name, start, stop, bad, l, rv⟩ = true) (c1 : key = ⟨#[]⟩) (c2 : weight ≠ 0) :
    Calls Try.prog 17 #[.agg #[.int .u8 1, .int .u64 (hi : Int), .int .u64 (lo : Int), .int .u64 (id : Int), .int .u64 (par : Int), .string name, .int .i64 start, .int .i64 stop, .bool bad, .slice A n cap, .int .u64 (rv : Int), .string key, .int .u64 (weight : Int), .int .i64 at_, .string body]] w fun e w' => e = .returned (.tuple #[.slice none 0 0, .int .i64 40]) ∧ Below w.heap.size w w' := by
  have hR := fun (W : World) (h : Below w.heap.size w W) => refRightSpan_any hi lo id par rv name start stop bad A l n cap W true hn hnm hname (hr.later h) hright
  unfold spCells at hR
  have HR := Lib.hid hR
  subst c1
  have d2 : ((weight : Int) == 0) = false := by simp; omega
  clear c2
  have HB0 := Lib.hid ((Below.refl w.heap.size w).alloc (Nat.le_refl _) (.cells #[.int .u8 1, .int .u64 (hi : Int), .int .u64 (lo : Int), .int .u64 (id : Int), .int .u64 (par : Int), .string name, .int .i64 start, .int .i64 stop, .bool bad, .slice A n cap, .int .u64 (rv : Int), .string ⟨#[]⟩, .int .u64 (weight : Int), .int .i64 at_, .string body] 38))
  clear hR hn hr hright
  go_enter Try.func17, Try.ntmps17
  go_wp2_with fail
  refine (HR.out _ HB0.out).mono ?_
  rintro e w1 ⟨rfl, hb1⟩
  have g0 : w1.cell? ⟨w.heap.size, 0, none⟩ = some (.int .u8 1) := new_cell hb1 0 rfl
  have g1 : w1.cell? ⟨w.heap.size, 1, none⟩ = some (.int .u64 (hi : Int)) := new_cell hb1 1 rfl
  have g2 : w1.cell? ⟨w.heap.size, 2, none⟩ = some (.int .u64 (lo : Int)) := new_cell hb1 2 rfl
  have g3 : w1.cell? ⟨w.heap.size, 3, none⟩ = some (.int .u64 (id : Int)) := new_cell hb1 3 rfl
  have g4 : w1.cell? ⟨w.heap.size, 4, none⟩ = some (.int .u64 (par : Int)) := new_cell hb1 4 rfl
  have g5 : w1.cell? ⟨w.heap.size, 5, none⟩ = some (.string name) := new_cell hb1 5 rfl
  have g6 : w1.cell? ⟨w.heap.size, 6, none⟩ = some (.int .i64 start) := new_cell hb1 6 rfl
  have g7 : w1.cell? ⟨w.heap.size, 7, none⟩ = some (.int .i64 stop) := new_cell hb1 7 rfl
  have g8 : w1.cell? ⟨w.heap.size, 8, none⟩ = some (.bool bad) := new_cell hb1 8 rfl
  have g9 : w1.cell? ⟨w.heap.size, 9, none⟩ = some (.slice A n cap) := new_cell hb1 9 rfl
  have g10 : w1.cell? ⟨w.heap.size, 10, none⟩ = some (.int .u64 (rv : Int)) := new_cell hb1 10 rfl
  have g11 : w1.cell? ⟨w.heap.size, 11, none⟩ = some (.string ⟨#[]⟩) := new_cell hb1 11 rfl
  have g12 : w1.cell? ⟨w.heap.size, 12, none⟩ = some (.int .u64 (weight : Int)) := new_cell hb1 12 rfl
  have g13 : w1.cell? ⟨w.heap.size, 13, none⟩ = some (.int .i64 at_) := new_cell hb1 13 rfl
  have g14 : w1.cell? ⟨w.heap.size, 14, none⟩ = some (.string body) := new_cell hb1 14 rfl
  have HB1 := Lib.hid (HB0.out.trans (hb1.mono HB0.out.size))
  have hsz : w.heap.size < w1.heap.size := by have := hb1.size; rw [World.size_alloc] at this; omega
  clear hb1
  go_wp2_with fail
  go_ret2
  exact ⟨rfl, HB1.out.alloc HB1.out.size _⟩

set_option linter.unusedSimpArgs false in
set_option linter.unusedVariables false in
set_option maxRecDepth 100000 in
set_option maxHeartbeats 4000000 in
theorem refEncode_span_at (hi lo id par rv : Nat) (name : ByteArray) (start stop : Int) (bad : Bool) (A : Option Addr) (l : List Attr) (n cap : Nat) (key body : ByteArray) (weight : Nat) (at_ : Int) (w : World) (hn : l.length = n) (hnm : n ≤ 9223372036854775807) (hname : name.size ≤ 9223372036854775807) (hr : HoldsA w.heap.size w A l) (hright : rightSpan ⟨hi, lo, id, par, name, start, stop, bad, l, rv⟩ = true) (c1 : key = ⟨#[]⟩) (c2 : weight = 0) (c3 : at_ ≠ 0) :
    Calls Try.prog 17 #[.agg #[.int .u8 1, .int .u64 (hi : Int), .int .u64 (lo : Int), .int .u64 (id : Int), .int .u64 (par : Int), .string name, .int .i64 start, .int .i64 stop, .bool bad, .slice A n cap, .int .u64 (rv : Int), .string key, .int .u64 (weight : Int), .int .i64 at_, .string body]] w fun e w' => e = .returned (.tuple #[.slice none 0 0, .int .i64 40]) ∧ Below w.heap.size w w' := by
  have hR := fun (W : World) (h : Below w.heap.size w W) => refRightSpan_any hi lo id par rv name start stop bad A l n cap W true hn hnm hname (hr.later h) hright
  unfold spCells at hR
  have HR := Lib.hid hR
  subst c1 c2
  have d3 : (at_ == 0) = false := by simp; omega
  clear c3
  have HB0 := Lib.hid ((Below.refl w.heap.size w).alloc (Nat.le_refl _) (.cells #[.int .u8 1, .int .u64 (hi : Int), .int .u64 (lo : Int), .int .u64 (id : Int), .int .u64 (par : Int), .string name, .int .i64 start, .int .i64 stop, .bool bad, .slice A n cap, .int .u64 (rv : Int), .string ⟨#[]⟩, .int .u64 ((0 : Nat) : Int), .int .i64 at_, .string body] 38))
  clear hR hn hr hright
  go_enter Try.func17, Try.ntmps17
  go_wp2_with fail
  refine (HR.out _ HB0.out).mono ?_
  rintro e w1 ⟨rfl, hb1⟩
  have g0 : w1.cell? ⟨w.heap.size, 0, none⟩ = some (.int .u8 1) := new_cell hb1 0 rfl
  have g1 : w1.cell? ⟨w.heap.size, 1, none⟩ = some (.int .u64 (hi : Int)) := new_cell hb1 1 rfl
  have g2 : w1.cell? ⟨w.heap.size, 2, none⟩ = some (.int .u64 (lo : Int)) := new_cell hb1 2 rfl
  have g3 : w1.cell? ⟨w.heap.size, 3, none⟩ = some (.int .u64 (id : Int)) := new_cell hb1 3 rfl
  have g4 : w1.cell? ⟨w.heap.size, 4, none⟩ = some (.int .u64 (par : Int)) := new_cell hb1 4 rfl
  have g5 : w1.cell? ⟨w.heap.size, 5, none⟩ = some (.string name) := new_cell hb1 5 rfl
  have g6 : w1.cell? ⟨w.heap.size, 6, none⟩ = some (.int .i64 start) := new_cell hb1 6 rfl
  have g7 : w1.cell? ⟨w.heap.size, 7, none⟩ = some (.int .i64 stop) := new_cell hb1 7 rfl
  have g8 : w1.cell? ⟨w.heap.size, 8, none⟩ = some (.bool bad) := new_cell hb1 8 rfl
  have g9 : w1.cell? ⟨w.heap.size, 9, none⟩ = some (.slice A n cap) := new_cell hb1 9 rfl
  have g10 : w1.cell? ⟨w.heap.size, 10, none⟩ = some (.int .u64 (rv : Int)) := new_cell hb1 10 rfl
  have g11 : w1.cell? ⟨w.heap.size, 11, none⟩ = some (.string ⟨#[]⟩) := new_cell hb1 11 rfl
  have g12 : w1.cell? ⟨w.heap.size, 12, none⟩ = some (.int .u64 ((0 : Nat) : Int)) := new_cell hb1 12 rfl
  have g13 : w1.cell? ⟨w.heap.size, 13, none⟩ = some (.int .i64 at_) := new_cell hb1 13 rfl
  have g14 : w1.cell? ⟨w.heap.size, 14, none⟩ = some (.string body) := new_cell hb1 14 rfl
  have HB1 := Lib.hid (HB0.out.trans (hb1.mono HB0.out.size))
  have hsz : w.heap.size < w1.heap.size := by have := hb1.size; rw [World.size_alloc] at this; omega
  clear hb1
  go_wp2_with fail
  go_ret2
  exact ⟨rfl, HB1.out.alloc HB1.out.size _⟩

set_option linter.unusedSimpArgs false in
set_option linter.unusedVariables false in
set_option maxRecDepth 100000 in
set_option maxHeartbeats 4000000 in
theorem refEncode_span_body (hi lo id par rv : Nat) (name : ByteArray) (start stop : Int) (bad : Bool) (A : Option Addr) (l : List Attr) (n cap : Nat) (key body : ByteArray) (weight : Nat) (at_ : Int) (w : World) (hn : l.length = n) (hnm : n ≤ 9223372036854775807) (hname : name.size ≤ 9223372036854775807) (hr : HoldsA w.heap.size w A l) (hright : rightSpan ⟨hi, lo, id, par, name, start, stop, bad, l, rv⟩ = true) (c1 : key = ⟨#[]⟩) (c2 : weight = 0) (c3 : at_ = 0) (c4 : body.size ≠ 0) :
    Calls Try.prog 17 #[.agg #[.int .u8 1, .int .u64 (hi : Int), .int .u64 (lo : Int), .int .u64 (id : Int), .int .u64 (par : Int), .string name, .int .i64 start, .int .i64 stop, .bool bad, .slice A n cap, .int .u64 (rv : Int), .string key, .int .u64 (weight : Int), .int .i64 at_, .string body]] w fun e w' => e = .returned (.tuple #[.slice none 0 0, .int .i64 40]) ∧ Below w.heap.size w w' := by
  have hR := fun (W : World) (h : Below w.heap.size w W) => refRightSpan_any hi lo id par rv name start stop bad A l n cap W true hn hnm hname (hr.later h) hright
  unfold spCells at hR
  have HR := Lib.hid hR
  subst c1 c2 c3
  have d4 := full_of c4
  clear c4
  have HB0 := Lib.hid ((Below.refl w.heap.size w).alloc (Nat.le_refl _) (.cells #[.int .u8 1, .int .u64 (hi : Int), .int .u64 (lo : Int), .int .u64 (id : Int), .int .u64 (par : Int), .string name, .int .i64 start, .int .i64 stop, .bool bad, .slice A n cap, .int .u64 (rv : Int), .string ⟨#[]⟩, .int .u64 ((0 : Nat) : Int), .int .i64 0, .string body] 38))
  clear hR hn hr hright
  go_enter Try.func17, Try.ntmps17
  go_wp2_with fail
  refine (HR.out _ HB0.out).mono ?_
  rintro e w1 ⟨rfl, hb1⟩
  have g0 : w1.cell? ⟨w.heap.size, 0, none⟩ = some (.int .u8 1) := new_cell hb1 0 rfl
  have g1 : w1.cell? ⟨w.heap.size, 1, none⟩ = some (.int .u64 (hi : Int)) := new_cell hb1 1 rfl
  have g2 : w1.cell? ⟨w.heap.size, 2, none⟩ = some (.int .u64 (lo : Int)) := new_cell hb1 2 rfl
  have g3 : w1.cell? ⟨w.heap.size, 3, none⟩ = some (.int .u64 (id : Int)) := new_cell hb1 3 rfl
  have g4 : w1.cell? ⟨w.heap.size, 4, none⟩ = some (.int .u64 (par : Int)) := new_cell hb1 4 rfl
  have g5 : w1.cell? ⟨w.heap.size, 5, none⟩ = some (.string name) := new_cell hb1 5 rfl
  have g6 : w1.cell? ⟨w.heap.size, 6, none⟩ = some (.int .i64 start) := new_cell hb1 6 rfl
  have g7 : w1.cell? ⟨w.heap.size, 7, none⟩ = some (.int .i64 stop) := new_cell hb1 7 rfl
  have g8 : w1.cell? ⟨w.heap.size, 8, none⟩ = some (.bool bad) := new_cell hb1 8 rfl
  have g9 : w1.cell? ⟨w.heap.size, 9, none⟩ = some (.slice A n cap) := new_cell hb1 9 rfl
  have g10 : w1.cell? ⟨w.heap.size, 10, none⟩ = some (.int .u64 (rv : Int)) := new_cell hb1 10 rfl
  have g11 : w1.cell? ⟨w.heap.size, 11, none⟩ = some (.string ⟨#[]⟩) := new_cell hb1 11 rfl
  have g12 : w1.cell? ⟨w.heap.size, 12, none⟩ = some (.int .u64 ((0 : Nat) : Int)) := new_cell hb1 12 rfl
  have g13 : w1.cell? ⟨w.heap.size, 13, none⟩ = some (.int .i64 0) := new_cell hb1 13 rfl
  have g14 : w1.cell? ⟨w.heap.size, 14, none⟩ = some (.string body) := new_cell hb1 14 rfl
  have HB1 := Lib.hid (HB0.out.trans (hb1.mono HB0.out.size))
  have hsz : w.heap.size < w1.heap.size := by have := hb1.size; rw [World.size_alloc] at this; omega
  clear hb1
  go_wp2_with fail
  go_ret2
  exact ⟨rfl, HB1.out.alloc HB1.out.size _⟩

set_option linter.unusedSimpArgs false in
set_option linter.unusedVariables false in
set_option maxRecDepth 100000 in
set_option maxHeartbeats 4000000 in
theorem refEncode_bad_log (hi lo id par rv : Nat) (name : ByteArray) (start stop : Int) (bad : Bool) (A : Option Addr) (l : List Attr) (n cap : Nat) (key body : ByteArray) (weight : Nat) (at_ : Int) (w : World) (hkey : key.size ≤ 9223372036854775807) (hbody : body.size ≤ 9223372036854775807) (hright : rightLog ⟨key, weight, at_, body⟩ = false) :
    Calls Try.prog 17 #[.agg #[.int .u8 2, .int .u64 (hi : Int), .int .u64 (lo : Int), .int .u64 (id : Int), .int .u64 (par : Int), .string name, .int .i64 start, .int .i64 stop, .bool bad, .slice A n cap, .int .u64 (rv : Int), .string key, .int .u64 (weight : Int), .int .i64 at_, .string body]] w fun e w' => e = .returned (.tuple #[.slice none 0 0, .int .i64 40]) ∧ Below w.heap.size w w' := by
  have hR := fun (W : World) => refRightLog_any key body weight at_ W false hkey hbody hright
  unfold lgCells at hR
  have HR := Lib.hid hR
  have HB0 := Lib.hid ((Below.refl w.heap.size w).alloc (Nat.le_refl _) (.cells #[.int .u8 2, .int .u64 (hi : Int), .int .u64 (lo : Int), .int .u64 (id : Int), .int .u64 (par : Int), .string name, .int .i64 start, .int .i64 stop, .bool bad, .slice A n cap, .int .u64 (rv : Int), .string key, .int .u64 (weight : Int), .int .i64 at_, .string body] 38))
  have hI0 := blk_new w #[.int .u8 2, .int .u64 (hi : Int), .int .u64 (lo : Int), .int .u64 (id : Int), .int .u64 (par : Int), .string name, .int .i64 start, .int .i64 stop, .bool bad, .slice A n cap, .int .u64 (rv : Int), .string key, .int .u64 (weight : Int), .int .i64 at_, .string body] 38
  have hI1 := hI0.same (Below.heap_alloc _ (.cells #[.string key, .int .u64 (weight : Int), .int .i64 at_, .string body] 29) _ hI0.lt)
  have HB1 := Lib.hid ((HB0.out.alloc HB0.out.size (.cells #[.string key, .int .u64 (weight : Int), .int .i64 at_, .string body] 29)))
  clear hR hright hI0 hI1
  go_enter Try.func17, Try.ntmps17
  go_wp2_with fail
  refine (HR.out _).mono ?_
  rintro e w1 ⟨rfl, hb1⟩
  have HB2 := Lib.hid (HB1.out.trans (hb1.mono HB1.out.size))
  clear hb1
  go_wp2_with fail
  go_ret2
  exact ⟨rfl, HB2.out⟩

set_option linter.unusedSimpArgs false in
set_option linter.unusedVariables false in
set_option maxRecDepth 100000 in
set_option maxHeartbeats 4000000 in
theorem refEncode_log_besides (hi lo id par rv : Nat) (name : ByteArray) (start stop : Int) (bad : Bool) (A : Option Addr) (l : List Attr) (n cap : Nat) (key body : ByteArray) (weight : Nat) (at_ : Int) (w : World) (hn : l.length = n) (hkey : key.size ≤ 9223372036854775807) (hbody : body.size ≤ 9223372036854775807) (hright : rightLog ⟨key, weight, at_, body⟩ = true) (hno : noSpan ⟨hi, lo, id, par, name, start, stop, bad, l, rv⟩ = false) :
    Calls Try.prog 17 #[.agg #[.int .u8 2, .int .u64 (hi : Int), .int .u64 (lo : Int), .int .u64 (id : Int), .int .u64 (par : Int), .string name, .int .i64 start, .int .i64 stop, .bool bad, .slice A n cap, .int .u64 (rv : Int), .string key, .int .u64 (weight : Int), .int .i64 at_, .string body]] w fun e w' => e = .returned (.tuple #[.slice none 0 0, .int .i64 40]) ∧ Below w.heap.size w w' := by
  have hR := fun (W : World) => refRightLog_any key body weight at_ W true hkey hbody hright
  unfold lgCells at hR
  have HR := Lib.hid hR
  have hN := fun (W : World) => refNothing_any hi lo id par rv name start stop bad A l n cap W false hn hno
  unfold spCells at hN
  have HN := Lib.hid hN
  have HB0 := Lib.hid ((Below.refl w.heap.size w).alloc (Nat.le_refl _) (.cells #[.int .u8 2, .int .u64 (hi : Int), .int .u64 (lo : Int), .int .u64 (id : Int), .int .u64 (par : Int), .string name, .int .i64 start, .int .i64 stop, .bool bad, .slice A n cap, .int .u64 (rv : Int), .string key, .int .u64 (weight : Int), .int .i64 at_, .string body] 38))
  have hI0 := blk_new w #[.int .u8 2, .int .u64 (hi : Int), .int .u64 (lo : Int), .int .u64 (id : Int), .int .u64 (par : Int), .string name, .int .i64 start, .int .i64 stop, .bool bad, .slice A n cap, .int .u64 (rv : Int), .string key, .int .u64 (weight : Int), .int .i64 at_, .string body] 38
  have hI1 := hI0.same (Below.heap_alloc _ (.cells #[.string key, .int .u64 (weight : Int), .int .i64 at_, .string body] 29) _ hI0.lt)
  have HB1 := Lib.hid ((HB0.out.alloc HB0.out.size (.cells #[.string key, .int .u64 (weight : Int), .int .i64 at_, .string body] 29)))
  have HI := Lib.hid hI1
  clear hR hN hright hno hn hI0 hI1
  go_enter Try.func17, Try.ntmps17
  go_wp2_with fail
  refine (HR.out _).mono ?_
  rintro e w1 ⟨rfl, hb1⟩
  have HB2 := Lib.hid (HB1.out.trans (hb1.mono HB1.out.size))
  have HI2 := Lib.hid (HI.out.same (hb1.block _ HI.out.lt))
  have g0 : w1.cell? ⟨w.heap.size, 0, none⟩ = some (.int .u8 2) := HI2.out.cell 0 rfl
  have g1 : w1.cell? ⟨w.heap.size, 1, none⟩ = some (.int .u64 (hi : Int)) := HI2.out.cell 1 rfl
  have g2 : w1.cell? ⟨w.heap.size, 2, none⟩ = some (.int .u64 (lo : Int)) := HI2.out.cell 2 rfl
  have g3 : w1.cell? ⟨w.heap.size, 3, none⟩ = some (.int .u64 (id : Int)) := HI2.out.cell 3 rfl
  have g4 : w1.cell? ⟨w.heap.size, 4, none⟩ = some (.int .u64 (par : Int)) := HI2.out.cell 4 rfl
  have g5 : w1.cell? ⟨w.heap.size, 5, none⟩ = some (.string name) := HI2.out.cell 5 rfl
  have g6 : w1.cell? ⟨w.heap.size, 6, none⟩ = some (.int .i64 start) := HI2.out.cell 6 rfl
  have g7 : w1.cell? ⟨w.heap.size, 7, none⟩ = some (.int .i64 stop) := HI2.out.cell 7 rfl
  have g8 : w1.cell? ⟨w.heap.size, 8, none⟩ = some (.bool bad) := HI2.out.cell 8 rfl
  have g9 : w1.cell? ⟨w.heap.size, 9, none⟩ = some (.slice A n cap) := HI2.out.cell 9 rfl
  have g10 : w1.cell? ⟨w.heap.size, 10, none⟩ = some (.int .u64 (rv : Int)) := HI2.out.cell 10 rfl
  have g11 : w1.cell? ⟨w.heap.size, 11, none⟩ = some (.string key) := HI2.out.cell 11 rfl
  have g12 : w1.cell? ⟨w.heap.size, 12, none⟩ = some (.int .u64 (weight : Int)) := HI2.out.cell 12 rfl
  have g13 : w1.cell? ⟨w.heap.size, 13, none⟩ = some (.int .i64 at_) := HI2.out.cell 13 rfl
  have g14 : w1.cell? ⟨w.heap.size, 14, none⟩ = some (.string body) := HI2.out.cell 14 rfl
  clear hb1
  go_wp2_with fail
  refine (HN.out _).mono ?_
  rintro e w2 ⟨rfl, hb2⟩
  have HB3 := Lib.hid (HB2.out.trans (hb2.mono HB2.out.size))
  clear hb2 g0 g1 g2 g3 g4 g5 g6 g7 g8 g9 g10 g11 g12 g13 g14
  go_wp2_with fail
  go_ret2
  exact ⟨rfl, HB3.out⟩

end Go.Proofs.Ytklgggolkclebaa
