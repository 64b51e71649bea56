/-
  Parts of SketchCounts: which rows there are none of, a number out of choices; the program's sketch and the document's side by side.
-/
import Derived.Test.YtmacehpfhhlnpaaDoorSkOn
import Derived.Test.YtmacehpfhhlnpaaDoorSkRefAdd
namespace Go.Proofs.YtmacehpfhhlnpaaDoor
open Go.RowKit Go.Proofs.HashMath Go.Proofs.SkMath

set_option maxRecDepth 100000 in
set_option maxHeartbeats 1000000 in
theorem none_yes (r m : Int) (w : World) (h : r < 1 ∨ 8 < r ∨ m < 1 ∨ 1024 < m) :
    Calls Tryd.prog 15 #[.int .i64 r, .int .i64 m] w fun e w' => e = .returned (.bool true) ∧ Below w.heap.size w w' := by
  have HN := Lib.hid (fun W => refNew_no r m 0 W h)
  clear h
  go_enter Tryd.func15, Tryd.ntmps15
  go_wp2_with fail
  refine (HN.out _).mono ?_
  rintro e w1 ⟨rfl, hb⟩
  have HB := Lib.hid (hb.alloc hb.size (.cells #[.slice none 0 0, .int .i64 0, .int .u64 0, .int .u64 0] 37))
  clear hb
  go_wp2_with fail
  go_ret
  exact ⟨rfl, HB.out⟩
set_option maxRecDepth 100000 in
set_option maxHeartbeats 1000000 in
theorem none_no (r m : Nat) (w : World) (r1 : 1 ≤ r) (r8 : r ≤ 8) (m1 : 1 ≤ m) (m2 : m ≤ 1024) :
    Calls Tryd.prog 15 #[.int .i64 (r : Int), .int .i64 (m : Int)] w fun e w' => e = .returned (.bool false) ∧ Below w.heap.size w w' := by
  have HN := Lib.hid (fun W => refNew_any r m 0 W r1 r8 m1 m2)
  go_enter Tryd.func15, Tryd.ntmps15
  go_wp2_with fail
  refine (HN.out _).mono ?_
  rintro e w1 ⟨c, cc, rfl, _, hb⟩
  have HB := Lib.hid (hb.alloc hb.size (.cells #[.slice (some ⟨c, 0, none⟩) r cc, .int .i64 (m : Int), .int .u64 0, .int .u64 0] 37))
  clear hb
  go_wp2_with fail
  go_ret
  exact ⟨rfl, HB.out⟩

def bigOf (a n : Nat) : Nat := if 230 < a then n else a % 10
theorem bigOf_lt {a n : Nat} (h : n < 18446744073709551616) : bigOf a n < 18446744073709551616 := by unfold bigOf; split <;> omega
set_option maxRecDepth 100000 in
theorem big_any (a n : Nat) (w : World) (ha : a ≤ 255) :
    Calls Tryd.prog 17 #[.int .u8 (a : Int), .int .u64 (n : Int)] w fun e w' => e = .returned (.int .u64 (bigOf a n : Int)) ∧ w' = w := by
  by_cases h : 230 < a
  · have e : bigOf a n = n := if_pos h
    rw [e]
    have d1 : decide (230 < (a : Int)) = true := by simp; omega
    go_enter Tryd.func17, Tryd.ntmps17
    go_wp2
    go_ret
    exact ⟨rfl, rfl⟩
  · have e : bigOf a n = a % 10 := if_neg h
    rw [e]
    have d1 : decide (230 < (a : Int)) = false := by simp; omega
    obtain ⟨x, hx, hx'⟩ : ∃ x : Nat, (a : Int) % 10 = (x : Int) ∧ a % 10 = x := ⟨a % 10, by omega, rfl⟩
    rw [hx']
    clear hx'
    go_enter Tryd.func17, Tryd.ntmps17
    go_wp2
    go_ret
    exact ⟨rfl, rfl⟩

/-- The program's sketch and the document's, which have counted the same; the latter lies in the variable nq. -/
def Two (n₀ lo : Nat) (w : World) (S A G r m seed : Nat) (nq : Nat) (f : Nat → Nat → Nat) (tot c cc : Nat) (W : World) : Prop :=
  On n₀ w W S A G r m seed f tot ∧ Blk W nq #[.slice (some ⟨c, 0, none⟩) r cc, .int .i64 (m : Int), .int .u64 (seed : Int), .int .u64 (tot : Int)] 37 ∧ RefS lo W.heap.size W c cc r m f
theorem Two.later {n₀ lo : Nat} {w W W' : World} {S A G r m seed nq tot c cc : Nat} {f : Nat → Nat → Nat} (h : Two n₀ lo w S A G r m seed nq f tot c cc W) (hb : Below W.heap.size W W') : Two n₀ lo w S A G r m seed nq f tot c cc W' := ⟨h.1.later hb, h.2.1.later hb, h.2.2.later hb⟩
theorem Two.drew {n₀ lo : Nat} {w W : World} {S A G r m seed nq tot c cc : Nat} {f : Nat → Nat → Nat} (h : Two n₀ lo w S A G r m seed nq f tot c cc W) : Two n₀ lo w S A G r m seed nq f tot c cc W.drew := h.later (Below.refl _ _).drew
end Go.Proofs.YtmacehpfhhlnpaaDoor
