/-
  What item.RightSpan and item.RightLog do, at every span and every log. No condition.
-/
import Derived.Test.YtklgggolkclebaaItemRight
namespace Go.Proofs.Ytklgggolkclebaa
open Go.RowKit Go.Proofs.NumMath Go.Proofs.ItemMath

def rightSpan (s : Sp) : Bool :=
  decide (s.hi ≠ 0 ∨ s.lo ≠ 0) && decide (s.id ≠ 0) && isName s.name && decide (0 ≤ s.start) && decide (s.start ≤ s.stop) && decide (s.stop ≤ 1099511627776) && rightAttrs s.attrs && decide (s.rv ≤ 72057594037927936)
def rightLog (l : Lg) : Bool :=
  isName l.key && decide (1 ≤ l.weight) && decide (l.weight ≤ 4294967296) && decide (0 ≤ l.at_) && decide (l.at_ ≤ 1099511627776) && decide (l.body.size ≤ 200)
/-- A span's cells. -/
def spCells (hi lo id par : Nat) (name : ByteArray) (start stop : Int) (bad : Bool) (A : Option Addr) (n cap rv : Nat) : Array Value :=
  #[.int .u64 (hi : Int), .int .u64 (lo : Int), .int .u64 (id : Int), .int .u64 (par : Int), .string name, .int .i64 start, .int .i64 stop, .bool bad, .slice A n cap, .int .u64 (rv : Int)]
def lgCells (key : ByteArray) (weight : Nat) (at_ : Int) (body : ByteArray) : Array Value := #[.string key, .int .u64 (weight : Int), .int .i64 at_, .string body]

set_option linter.unusedVariables false in
set_option maxRecDepth 100000 in
set_option maxHeartbeats 4000000 in
theorem rightSpan_none (hi lo id par rv : Nat) (name : ByteArray) (start stop : Int) (bad : Bool) (A : Option Addr) (l : List Attr) (n cap : Nat) (w : World) (r : Bool) (hn : l.length = n) (hnm : n ≤ 9223372036854775807) (hname : name.size ≤ 9223372036854775807) (hr : HoldsA w.heap.size w A l) (hres : rightSpan ⟨hi, lo, id, par, name, start, stop, bad, l, rv⟩ = r) (g1 : hi = 0) (g2 : lo = 0) :
    Calls Try.prog 13 #[.agg (spCells hi lo id par name start stop bad A n cap rv)] w fun e w' => e = .returned (.bool r) ∧ Below w.heap.size w w' := by
  have hN := fun W => isName_any name W hname
  have hA0 := fun W (h : Below w.heap.size w W) => rightAttrs_any A l n cap W hn hnm (hr.later h)
  unfold spCells
  have hB0 : Below w.heap.size w (w.alloc (.cells #[.int .u64 (hi : Int), .int .u64 (lo : Int), .int .u64 (id : Int), .int .u64 (par : Int), .string name, .int .i64 start, .int .i64 stop, .bool bad, .slice A n cap, .int .u64 (rv : Int)] 26)) := (Below.refl _ w).alloc (Nat.le_refl _) _
  have hA := fun W (h : Below (w.alloc (.cells #[.int .u64 (hi : Int), .int .u64 (lo : Int), .int .u64 (id : Int), .int .u64 (par : Int), .string name, .int .i64 start, .int .i64 stop, .bool bad, .slice A n cap, .int .u64 (rv : Int)] 26)).heap.size (w.alloc (.cells #[.int .u64 (hi : Int), .int .u64 (lo : Int), .int .u64 (id : Int), .int .u64 (par : Int), .string name, .int .i64 start, .int .i64 stop, .bool bad, .slice A n cap, .int .u64 (rv : Int)] 26)) W) => hA0 W (hB0.trans (h.mono (by simp)))
  clear hA0 hr hn
  have b1 : ((hi : Int) != 0) = false := by simp; omega
  have b2 : ((lo : Int) != 0) = false := by simp; omega
  have e : r = false := by rw [← hres]; unfold rightSpan; rw [decide_eq_false (by simp; omega : ¬ (hi ≠ 0 ∨ lo ≠ 0))]; simp
  subst e
  clear hres g1 g2
  go_enter Try.func13, Try.ntmps13
  go_wp2
  go_ret
  exact ⟨rfl, hB0⟩

set_option linter.unusedVariables false in
set_option maxRecDepth 100000 in
set_option maxHeartbeats 4000000 in
theorem rightSpan_hi (hi lo id par rv : Nat) (name : ByteArray) (start stop : Int) (bad : Bool) (A : Option Addr) (l : List Attr) (n cap : Nat) (w : World) (r : Bool) (hn : l.length = n) (hnm : n ≤ 9223372036854775807) (hname : name.size ≤ 9223372036854775807) (hr : HoldsA w.heap.size w A l) (hres : rightSpan ⟨hi, lo, id, par, name, start, stop, bad, l, rv⟩ = r) (g1 : hi ≠ 0) :
    Calls Try.prog 13 #[.agg (spCells hi lo id par name start stop bad A n cap rv)] w fun e w' => e = .returned (.bool r) ∧ Below w.heap.size w w' := by
  have hN := fun W => isName_any name W hname
  have hA0 := fun W (h : Below w.heap.size w W) => rightAttrs_any A l n cap W hn hnm (hr.later h)
  unfold spCells
  have hB0 : Below w.heap.size w (w.alloc (.cells #[.int .u64 (hi : Int), .int .u64 (lo : Int), .int .u64 (id : Int), .int .u64 (par : Int), .string name, .int .i64 start, .int .i64 stop, .bool bad, .slice A n cap, .int .u64 (rv : Int)] 26)) := (Below.refl _ w).alloc (Nat.le_refl _) _
  have hA := fun W (h : Below (w.alloc (.cells #[.int .u64 (hi : Int), .int .u64 (lo : Int), .int .u64 (id : Int), .int .u64 (par : Int), .string name, .int .i64 start, .int .i64 stop, .bool bad, .slice A n cap, .int .u64 (rv : Int)] 26)).heap.size (w.alloc (.cells #[.int .u64 (hi : Int), .int .u64 (lo : Int), .int .u64 (id : Int), .int .u64 (par : Int), .string name, .int .i64 start, .int .i64 stop, .bool bad, .slice A n cap, .int .u64 (rv : Int)] 26)) W) => hA0 W (hB0.trans (h.mono (by simp)))
  clear hA0 hr hn
  have b1 : ((hi : Int) != 0) = true := by simp; omega
  have G := Lib.hid (by omega : hi ≠ 0 ∨ lo ≠ 0)
  clear g1
  by_cases c0 : id = 0
  · have d0 : ((id : Int) != 0) = false := by simp; omega
    have e : r = false := by rw [← hres]; unfold rightSpan; dsimp only; rw [decide_eq_false (by omega : ¬ (id ≠ 0))]; simp
    subst e
    clear hres c0
    go_enter Try.func13, Try.ntmps13
    go_wp2
    go_ret
    exact ⟨rfl, hB0⟩
  have d0 : ((id : Int) != 0) = true := by simp; omega
  by_cases hb : isName name = false
  · rw [hb] at hN
    have e : r = false := by rw [← hres]; unfold rightSpan; dsimp only; rw [hb]; simp
    subst e
    clear hres
    go_enter Try.func13, Try.ntmps13
    go_wp2_with (go_at_call 23; refine (hN _).mono ?_; rintro e w1 ⟨rfl, hb1⟩; have k5 := new_cell hb1 5 rfl; have k6 := new_cell hb1 6 rfl; have k8 := new_cell hb1 8 rfl; have k9 := new_cell hb1 9 rfl)
    go_ret
    exact ⟨rfl, hB0.trans (hb1.mono (by simp))⟩
  have hb : isName name = true := by simpa using hb
  rw [hb] at hN
  by_cases c2 : start < 0
  · have d2 : decide ((0 : Int) ≤ start) = false := by simp; omega
    have e : r = false := by rw [← hres]; unfold rightSpan; dsimp only; rw [decide_eq_false (by omega : ¬ (0 ≤ start))]; simp
    subst e
    clear hres
    go_enter Try.func13, Try.ntmps13
    go_wp2_with (go_at_call 23; refine (hN _).mono ?_; rintro e w1 ⟨rfl, hb1⟩; have k5 := new_cell hb1 5 rfl; have k6 := new_cell hb1 6 rfl; have k8 := new_cell hb1 8 rfl; have k9 := new_cell hb1 9 rfl)
    go_ret
    exact ⟨rfl, hB0.trans (hb1.mono (by simp))⟩
  have d2 : decide ((0 : Int) ≤ start) = true := by simp; omega
  by_cases c3 : stop < start
  · have d3 : decide (start ≤ stop) = false := by simp; omega
    have e : r = false := by rw [← hres]; unfold rightSpan; dsimp only; rw [decide_eq_false (by omega : ¬ (start ≤ stop))]; simp
    subst e
    clear hres
    go_enter Try.func13, Try.ntmps13
    go_wp2_with (go_at_call 23; refine (hN _).mono ?_; rintro e w1 ⟨rfl, hb1⟩; have k5 := new_cell hb1 5 rfl; have k6 := new_cell hb1 6 rfl; have k8 := new_cell hb1 8 rfl; have k9 := new_cell hb1 9 rfl)
    go_ret
    exact ⟨rfl, hB0.trans (hb1.mono (by simp))⟩
  have d3 : decide (start ≤ stop) = true := by simp; omega
  by_cases c4 : 1099511627776 < stop
  · have d4 : decide (stop ≤ 1099511627776) = false := by simp; omega
    have e : r = false := by rw [← hres]; unfold rightSpan; dsimp only; rw [decide_eq_false (by omega : ¬ (stop ≤ 1099511627776))]; simp
    subst e
    clear hres
    go_enter Try.func13, Try.ntmps13
    go_wp2_with (go_at_call 23; refine (hN _).mono ?_; rintro e w1 ⟨rfl, hb1⟩; have k5 := new_cell hb1 5 rfl; have k6 := new_cell hb1 6 rfl; have k8 := new_cell hb1 8 rfl; have k9 := new_cell hb1 9 rfl)
    go_ret
    exact ⟨rfl, hB0.trans (hb1.mono (by simp))⟩
  have d4 : decide (stop ≤ 1099511627776) = true := by simp; omega
  by_cases ha : rightAttrs l = false
  · rw [ha] at hA
    have e : r = false := by rw [← hres]; unfold rightSpan; dsimp only; rw [ha]; simp
    subst e
    clear hres
    go_enter Try.func13, Try.ntmps13
    go_wp2_with (first | (go_at_call 23; refine (hN _).mono ?_; rintro e w1 ⟨rfl, hb1⟩; have k5 := new_cell hb1 5 rfl; have k6 := new_cell hb1 6 rfl; have k8 := new_cell hb1 8 rfl; have k9 := new_cell hb1 9 rfl) | (go_at_call 24; refine (hA _ hb1).mono ?_; rintro e w2 ⟨rfl, hb2⟩; have k9 := new_cell (hb1.trans (hb2.mono hb1.size)) 9 rfl))
    go_ret
    exact ⟨rfl, hB0.trans ((hb1.trans (hb2.mono hb1.size)).mono (by simp))⟩
  have ha : rightAttrs l = true := by simpa using ha
  rw [ha] at hA
  by_cases c6 : 72057594037927936 < rv
  · have d6 : decide ((rv : Int) ≤ 72057594037927936) = false := by simp; omega
    have e : r = false := by rw [← hres]; unfold rightSpan; dsimp only; rw [decide_eq_false (by omega : ¬ (rv ≤ 72057594037927936))]; simp
    subst e
    clear hres
    go_enter Try.func13, Try.ntmps13
    go_wp2_with (first | (go_at_call 23; refine (hN _).mono ?_; rintro e w1 ⟨rfl, hb1⟩; have k5 := new_cell hb1 5 rfl; have k6 := new_cell hb1 6 rfl; have k8 := new_cell hb1 8 rfl; have k9 := new_cell hb1 9 rfl) | (go_at_call 24; refine (hA _ hb1).mono ?_; rintro e w2 ⟨rfl, hb2⟩; have k9 := new_cell (hb1.trans (hb2.mono hb1.size)) 9 rfl))
    go_ret
    exact ⟨rfl, hB0.trans ((hb1.trans (hb2.mono hb1.size)).mono (by simp))⟩
  have d6 : decide ((rv : Int) ≤ 72057594037927936) = true := by simp; omega
  have e : r = true := by
    rw [← hres]; unfold rightSpan; dsimp only
    rw [hb, ha, decide_eq_true G.out, decide_eq_true (by omega : id ≠ 0), decide_eq_true (by omega : 0 ≤ start), decide_eq_true (by omega : start ≤ stop), decide_eq_true (by omega : stop ≤ 1099511627776), decide_eq_true (by omega : rv ≤ 72057594037927936)]; rfl
  subst e
  clear hres
  go_enter Try.func13, Try.ntmps13
  go_wp2_with (first | (go_at_call 23; refine (hN _).mono ?_; rintro e w1 ⟨rfl, hb1⟩; have k5 := new_cell hb1 5 rfl; have k6 := new_cell hb1 6 rfl; have k8 := new_cell hb1 8 rfl; have k9 := new_cell hb1 9 rfl) | (go_at_call 24; refine (hA _ hb1).mono ?_; rintro e w2 ⟨rfl, hb2⟩; have k9 := new_cell (hb1.trans (hb2.mono hb1.size)) 9 rfl))
  go_ret
  exact ⟨rfl, hB0.trans ((hb1.trans (hb2.mono hb1.size)).mono (by simp))⟩

set_option linter.unusedVariables false in
set_option maxRecDepth 100000 in
set_option maxHeartbeats 4000000 in
theorem rightSpan_lo (hi lo id par rv : Nat) (name : ByteArray) (start stop : Int) (bad : Bool) (A : Option Addr) (l : List Attr) (n cap : Nat) (w : World) (r : Bool) (hn : l.length = n) (hnm : n ≤ 9223372036854775807) (hname : name.size ≤ 9223372036854775807) (hr : HoldsA w.heap.size w A l) (hres : rightSpan ⟨hi, lo, id, par, name, start, stop, bad, l, rv⟩ = r) (g1 : hi = 0) (g2 : lo ≠ 0) :
    Calls Try.prog 13 #[.agg (spCells hi lo id par name start stop bad A n cap rv)] w fun e w' => e = .returned (.bool r) ∧ Below w.heap.size w w' := by
  have hN := fun W => isName_any name W hname
  have hA0 := fun W (h : Below w.heap.size w W) => rightAttrs_any A l n cap W hn hnm (hr.later h)
  unfold spCells
  have hB0 : Below w.heap.size w (w.alloc (.cells #[.int .u64 (hi : Int), .int .u64 (lo : Int), .int .u64 (id : Int), .int .u64 (par : Int), .string name, .int .i64 start, .int .i64 stop, .bool bad, .slice A n cap, .int .u64 (rv : Int)] 26)) := (Below.refl _ w).alloc (Nat.le_refl _) _
  have hA := fun W (h : Below (w.alloc (.cells #[.int .u64 (hi : Int), .int .u64 (lo : Int), .int .u64 (id : Int), .int .u64 (par : Int), .string name, .int .i64 start, .int .i64 stop, .bool bad, .slice A n cap, .int .u64 (rv : Int)] 26)).heap.size (w.alloc (.cells #[.int .u64 (hi : Int), .int .u64 (lo : Int), .int .u64 (id : Int), .int .u64 (par : Int), .string name, .int .i64 start, .int .i64 stop, .bool bad, .slice A n cap, .int .u64 (rv : Int)] 26)) W) => hA0 W (hB0.trans (h.mono (by simp)))
  clear hA0 hr hn
  have b1 : ((hi : Int) != 0) = false := by simp; omega
  have b2 : ((lo : Int) != 0) = true := by simp; omega
  have G := Lib.hid (by omega : hi ≠ 0 ∨ lo ≠ 0)
  clear g1 g2
  by_cases c0 : id = 0
  · have d0 : ((id : Int) != 0) = false := by simp; omega
    have e : r = false := by rw [← hres]; unfold rightSpan; dsimp only; rw [decide_eq_false (by omega : ¬ (id ≠ 0))]; simp
    subst e
    clear hres c0
    go_enter Try.func13, Try.ntmps13
    go_wp2
    go_ret
    exact ⟨rfl, hB0⟩
  have d0 : ((id : Int) != 0) = true := by simp; omega
  by_cases hb : isName name = false
  · rw [hb] at hN
    have e : r = false := by rw [← hres]; unfold rightSpan; dsimp only; rw [hb]; simp
    subst e
    clear hres
    go_enter Try.func13, Try.ntmps13
    go_wp2_with (go_at_call 23; refine (hN _).mono ?_; rintro e w1 ⟨rfl, hb1⟩; have k5 := new_cell hb1 5 rfl; have k6 := new_cell hb1 6 rfl; have k8 := new_cell hb1 8 rfl; have k9 := new_cell hb1 9 rfl)
    go_ret
    exact ⟨rfl, hB0.trans (hb1.mono (by simp))⟩
  have hb : isName name = true := by simpa using hb
  rw [hb] at hN
  by_cases c2 : start < 0
  · have d2 : decide ((0 : Int) ≤ start) = false := by simp; omega
    have e : r = false := by rw [← hres]; unfold rightSpan; dsimp only; rw [decide_eq_false (by omega : ¬ (0 ≤ start))]; simp
    subst e
    clear hres
    go_enter Try.func13, Try.ntmps13
    go_wp2_with (go_at_call 23; refine (hN _).mono ?_; rintro e w1 ⟨rfl, hb1⟩; have k5 := new_cell hb1 5 rfl; have k6 := new_cell hb1 6 rfl; have k8 := new_cell hb1 8 rfl; have k9 := new_cell hb1 9 rfl)
    go_ret
    exact ⟨rfl, hB0.trans (hb1.mono (by simp))⟩
  have d2 : decide ((0 : Int) ≤ start) = true := by simp; omega
  by_cases c3 : stop < start
  · have d3 : decide (start ≤ stop) = false := by simp; omega
    have e : r = false := by rw [← hres]; unfold rightSpan; dsimp only; rw [decide_eq_false (by omega : ¬ (start ≤ stop))]; simp
    subst e
    clear hres
    go_enter Try.func13, Try.ntmps13
    go_wp2_with (go_at_call 23; refine (hN _).mono ?_; rintro e w1 ⟨rfl, hb1⟩; have k5 := new_cell hb1 5 rfl; have k6 := new_cell hb1 6 rfl; have k8 := new_cell hb1 8 rfl; have k9 := new_cell hb1 9 rfl)
    go_ret
    exact ⟨rfl, hB0.trans (hb1.mono (by simp))⟩
  have d3 : decide (start ≤ stop) = true := by simp; omega
  by_cases c4 : 1099511627776 < stop
  · have d4 : decide (stop ≤ 1099511627776) = false := by simp; omega
    have e : r = false := by rw [← hres]; unfold rightSpan; dsimp only; rw [decide_eq_false (by omega : ¬ (stop ≤ 1099511627776))]; simp
    subst e
    clear hres
    go_enter Try.func13, Try.ntmps13
    go_wp2_with (go_at_call 23; refine (hN _).mono ?_; rintro e w1 ⟨rfl, hb1⟩; have k5 := new_cell hb1 5 rfl; have k6 := new_cell hb1 6 rfl; have k8 := new_cell hb1 8 rfl; have k9 := new_cell hb1 9 rfl)
    go_ret
    exact ⟨rfl, hB0.trans (hb1.mono (by simp))⟩
  have d4 : decide (stop ≤ 1099511627776) = true := by simp; omega
  by_cases ha : rightAttrs l = false
  · rw [ha] at hA
    have e : r = false := by rw [← hres]; unfold rightSpan; dsimp only; rw [ha]; simp
    subst e
    clear hres
    go_enter Try.func13, Try.ntmps13
    go_wp2_with (first | (go_at_call 23; refine (hN _).mono ?_; rintro e w1 ⟨rfl, hb1⟩; have k5 := new_cell hb1 5 rfl; have k6 := new_cell hb1 6 rfl; have k8 := new_cell hb1 8 rfl; have k9 := new_cell hb1 9 rfl) | (go_at_call 24; refine (hA _ hb1).mono ?_; rintro e w2 ⟨rfl, hb2⟩; have k9 := new_cell (hb1.trans (hb2.mono hb1.size)) 9 rfl))
    go_ret
    exact ⟨rfl, hB0.trans ((hb1.trans (hb2.mono hb1.size)).mono (by simp))⟩
  have ha : rightAttrs l = true := by simpa using ha
  rw [ha] at hA
  by_cases c6 : 72057594037927936 < rv
  · have d6 : decide ((rv : Int) ≤ 72057594037927936) = false := by simp; omega
    have e : r = false := by rw [← hres]; unfold rightSpan; dsimp only; rw [decide_eq_false (by omega : ¬ (rv ≤ 72057594037927936))]; simp
    subst e
    clear hres
    go_enter Try.func13, Try.ntmps13
    go_wp2_with (first | (go_at_call 23; refine (hN _).mono ?_; rintro e w1 ⟨rfl, hb1⟩; have k5 := new_cell hb1 5 rfl; have k6 := new_cell hb1 6 rfl; have k8 := new_cell hb1 8 rfl; have k9 := new_cell hb1 9 rfl) | (go_at_call 24; refine (hA _ hb1).mono ?_; rintro e w2 ⟨rfl, hb2⟩; have k9 := new_cell (hb1.trans (hb2.mono hb1.size)) 9 rfl))
    go_ret
    exact ⟨rfl, hB0.trans ((hb1.trans (hb2.mono hb1.size)).mono (by simp))⟩
  have d6 : decide ((rv : Int) ≤ 72057594037927936) = true := by simp; omega
  have e : r = true := by
    rw [← hres]; unfold rightSpan; dsimp only
    rw [hb, ha, decide_eq_true G.out, decide_eq_true (by omega : id ≠ 0), decide_eq_true (by omega : 0 ≤ start), decide_eq_true (by omega : start ≤ stop), decide_eq_true (by omega : stop ≤ 1099511627776), decide_eq_true (by omega : rv ≤ 72057594037927936)]; rfl
  subst e
  clear hres
  go_enter Try.func13, Try.ntmps13
  go_wp2_with (first | (go_at_call 23; refine (hN _).mono ?_; rintro e w1 ⟨rfl, hb1⟩; have k5 := new_cell hb1 5 rfl; have k6 := new_cell hb1 6 rfl; have k8 := new_cell hb1 8 rfl; have k9 := new_cell hb1 9 rfl) | (go_at_call 24; refine (hA _ hb1).mono ?_; rintro e w2 ⟨rfl, hb2⟩; have k9 := new_cell (hb1.trans (hb2.mono hb1.size)) 9 rfl))
  go_ret
  exact ⟨rfl, hB0.trans ((hb1.trans (hb2.mono hb1.size)).mono (by simp))⟩

/-- **item.RightSpan at every span.** -/
theorem rightSpan_any (hi lo id par rv : Nat) (name : ByteArray) (start stop : Int) (bad : Bool) (A : Option Addr) (l : List Attr) (n cap : Nat) (w : World) (r : Bool) (hn : l.length = n) (hnm : n ≤ 9223372036854775807) (hname : name.size ≤ 9223372036854775807) (hr : HoldsA w.heap.size w A l) (hres : rightSpan ⟨hi, lo, id, par, name, start, stop, bad, l, rv⟩ = r) :
    Calls Try.prog 13 #[.agg (spCells hi lo id par name start stop bad A n cap rv)] w fun e w' => e = .returned (.bool r) ∧ Below w.heap.size w w' := by
  by_cases g1 : hi = 0
  · by_cases g2 : lo = 0
    · exact rightSpan_none hi lo id par rv name start stop bad A l n cap w r hn hnm hname hr hres g1 g2
    · exact rightSpan_lo hi lo id par rv name start stop bad A l n cap w r hn hnm hname hr hres g1 g2
  · exact rightSpan_hi hi lo id par rv name start stop bad A l n cap w r hn hnm hname hr hres g1

set_option linter.unusedVariables false in
set_option maxRecDepth 100000 in
set_option maxHeartbeats 4000000 in
/-- **item.RightLog at every log.** -/
theorem rightLog_any (key body : ByteArray) (weight : Nat) (at_ : Int) (w : World) (r : Bool) (hkey : key.size ≤ 9223372036854775807) (hbody : body.size ≤ 9223372036854775807) (hres : rightLog ⟨key, weight, at_, body⟩ = r) :
    Calls Try.prog 14 #[.agg (lgCells key weight at_ body)] w fun e w' => e = .returned (.bool r) ∧ Below w.heap.size w w' := by
  have hN := fun W => isName_any key W hkey
  unfold lgCells
  have hB0 : Below w.heap.size w (w.alloc (.cells #[.string key, .int .u64 (weight : Int), .int .i64 at_, .string body] 29)) := (Below.refl _ w).alloc (Nat.le_refl _) _
  by_cases hb : isName key = false
  · rw [hb] at hN
    have e : r = false := by rw [← hres]; unfold rightLog; dsimp only; rw [hb]; simp
    subst e
    clear hres
    go_enter Try.func14, Try.ntmps14
    go_wp2_with (go_at_call 23; refine (hN _).mono ?_; rintro e w1 ⟨rfl, hb1⟩; have k1 := new_cell hb1 1 rfl; have k2 := new_cell hb1 2 rfl; have k3 := new_cell hb1 3 rfl)
    go_ret
    exact ⟨rfl, hB0.trans (hb1.mono (by simp))⟩
  have hb : isName key = true := by simpa using hb
  rw [hb] at hN
  by_cases c0 : weight < 1
  · have d0 : decide ((1 : Int) ≤ (weight : Int)) = false := by simp; omega
    have e : r = false := by rw [← hres]; unfold rightLog; dsimp only; rw [decide_eq_false (by omega : ¬ (1 ≤ weight))]; simp
    subst e
    clear hres
    go_enter Try.func14, Try.ntmps14
    go_wp2_with (go_at_call 23; refine (hN _).mono ?_; rintro e w1 ⟨rfl, hb1⟩; have k1 := new_cell hb1 1 rfl; have k2 := new_cell hb1 2 rfl; have k3 := new_cell hb1 3 rfl)
    go_ret
    exact ⟨rfl, hB0.trans (hb1.mono (by simp))⟩
  have d0 : decide ((1 : Int) ≤ (weight : Int)) = true := by simp; omega
  by_cases c1 : 4294967296 < weight
  · have d1 : decide ((weight : Int) ≤ 4294967296) = false := by simp; omega
    have e : r = false := by rw [← hres]; unfold rightLog; dsimp only; rw [decide_eq_false (by omega : ¬ (weight ≤ 4294967296))]; simp
    subst e
    clear hres
    go_enter Try.func14, Try.ntmps14
    go_wp2_with (go_at_call 23; refine (hN _).mono ?_; rintro e w1 ⟨rfl, hb1⟩; have k1 := new_cell hb1 1 rfl; have k2 := new_cell hb1 2 rfl; have k3 := new_cell hb1 3 rfl)
    go_ret
    exact ⟨rfl, hB0.trans (hb1.mono (by simp))⟩
  have d1 : decide ((weight : Int) ≤ 4294967296) = true := by simp; omega
  by_cases c2 : at_ < 0
  · have d2 : decide ((0 : Int) ≤ at_) = false := by simp; omega
    have e : r = false := by rw [← hres]; unfold rightLog; dsimp only; rw [decide_eq_false (by omega : ¬ (0 ≤ at_))]; simp
    subst e
    clear hres
    go_enter Try.func14, Try.ntmps14
    go_wp2_with (go_at_call 23; refine (hN _).mono ?_; rintro e w1 ⟨rfl, hb1⟩; have k1 := new_cell hb1 1 rfl; have k2 := new_cell hb1 2 rfl; have k3 := new_cell hb1 3 rfl)
    go_ret
    exact ⟨rfl, hB0.trans (hb1.mono (by simp))⟩
  have d2 : decide ((0 : Int) ≤ at_) = true := by simp; omega
  by_cases c3 : 1099511627776 < at_
  · have d3 : decide (at_ ≤ 1099511627776) = false := by simp; omega
    have e : r = false := by rw [← hres]; unfold rightLog; dsimp only; rw [decide_eq_false (by omega : ¬ (at_ ≤ 1099511627776))]; simp
    subst e
    clear hres
    go_enter Try.func14, Try.ntmps14
    go_wp2_with (go_at_call 23; refine (hN _).mono ?_; rintro e w1 ⟨rfl, hb1⟩; have k1 := new_cell hb1 1 rfl; have k2 := new_cell hb1 2 rfl; have k3 := new_cell hb1 3 rfl)
    go_ret
    exact ⟨rfl, hB0.trans (hb1.mono (by simp))⟩
  have d3 : decide (at_ ≤ 1099511627776) = true := by simp; omega
  by_cases c4 : 200 < body.size
  · have d4 : decide ((body.size : Int) ≤ 200) = false := by simp; omega
    have e : r = false := by rw [← hres]; unfold rightLog; dsimp only; rw [decide_eq_false (by omega : ¬ (body.size ≤ 200))]; simp
    subst e
    clear hres
    go_enter Try.func14, Try.ntmps14
    go_wp2_with (go_at_call 23; refine (hN _).mono ?_; rintro e w1 ⟨rfl, hb1⟩; have k1 := new_cell hb1 1 rfl; have k2 := new_cell hb1 2 rfl; have k3 := new_cell hb1 3 rfl)
    go_ret
    exact ⟨rfl, hB0.trans (hb1.mono (by simp))⟩
  have d4 : decide ((body.size : Int) ≤ 200) = true := by simp; omega
  have e : r = true := by
    rw [← hres]; unfold rightLog; dsimp only
    rw [hb, decide_eq_true (by omega : 1 ≤ weight), decide_eq_true (by omega : weight ≤ 4294967296), decide_eq_true (by omega : 0 ≤ at_), decide_eq_true (by omega : at_ ≤ 1099511627776), decide_eq_true (by omega : body.size ≤ 200)]; rfl
  subst e
  clear hres
  go_enter Try.func14, Try.ntmps14
  go_wp2_with (go_at_call 23; refine (hN _).mono ?_; rintro e w1 ⟨rfl, hb1⟩; have k1 := new_cell hb1 1 rfl; have k2 := new_cell hb1 2 rfl; have k3 := new_cell hb1 3 rfl)
  go_ret
  exact ⟨rfl, hB0.trans (hb1.mono (by simp))⟩

end Go.Proofs.Ytklgggolkclebaa
