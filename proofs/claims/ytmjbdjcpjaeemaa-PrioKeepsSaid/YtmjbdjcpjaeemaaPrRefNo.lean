/-
  The document's own Add of layer 11, of a wrong weight: nothing is offered.
-/
import Derived.Test.YtmjbdjcpjaeemaaPrRefAdd
namespace Go.Proofs.Ytmjbdjcpjaeemaa
open Go.RowKit Go.Proofs.PrioMath

set_option linter.unusedSimpArgs false in
set_option maxRecDepth 100000 in
set_option maxHeartbeats 4000000 in
theorem refAdd_no {A : Option Addr} {n cap k m : Nat} (x d : Nat) (w : World) (hx : x < 1 ∨ 4294967296 < x) (hx2 : x < 18446744073709551616) :
    Calls Try.prog 12 #[.agg #[.int .i64 (k : Int), .int .u64 (m : Int), .slice A n cap], .int .u64 (x : Int), .int .u64 (d : Int)] w fun e w' => e = .returned (.tuple #[.agg #[.int .i64 (k : Int), .int .u64 (m : Int), .slice A n cap], .int .i64 (-1), .int .i64 1]) ∧ Below w.heap.size w w' := by
  obtain ⟨n0, hn0⟩ : ∃ n0, w.heap.size = n0 := ⟨_, rfl⟩
  have hB : Below n0 w ((w.alloc (.cells #[.int .i64 (k : Int), .int .u64 (m : Int), .slice A n cap] 42)).alloc (.cells #[.int .i64 (k : Int), .int .u64 (m : Int), .slice A n cap] 42)) := by
    rw [← hn0]
    exact (box_below _).alloc (by simp) _
  have hk0 := blk_new w #[.int .i64 (k : Int), .int .u64 (m : Int), .slice A n cap] 42
  have hk1 := blk_new (w.alloc (.cells #[.int .i64 (k : Int), .int .u64 (m : Int), .slice A n cap] 42)) #[.int .i64 (k : Int), .int .u64 (m : Int), .slice A n cap] 42
  simp only [World.size_alloc, hn0] at hk0 hk1
  have HB := Lib.hid hB
  have q0 := Lib.hid (hk1.cell 0 rfl)
  have q1 := Lib.hid (hk1.cell 1 rfl)
  have q2 := Lib.hid (hk1.cell 2 rfl)
  rw [hn0]
  clear hB hk0 hk1
  by_cases h1 : x < 1
  · have t1 : decide ((x : Int) < 1) = true := by simp; omega
    have t1' : decide (x < 1) = true := by simp; omega
    clear hx h1
    go_enter Try.func12, Try.ntmps12
    go_wp2_with fail
    have k0 := q0.out
    have k1 := q1.out
    have k2 := q2.out
    exact bodyPost_ret (v := .tuple #[.agg #[.int .i64 (k : Int), .int .u64 (m : Int), .slice A n cap], .int .i64 (-1), .int .i64 1]) (by simp [results, Try.results12, go_sem, k0, k1, k2]) rfl ⟨rfl, HB.out⟩
  · have t1 : decide ((x : Int) < 1) = false := by simp; omega
    have t1' : decide (x < 1) = false := by simp; omega
    have t2 : decide ((4294967296 : Int) < (x : Int)) = true := by simp; omega
    have t2' : decide (4294967296 < x) = true := by simp; omega
    clear hx h1
    go_enter Try.func12, Try.ntmps12
    go_wp2_with fail
    have k0 := q0.out
    have k1 := q1.out
    have k2 := q2.out
    exact bodyPost_ret (v := .tuple #[.agg #[.int .i64 (k : Int), .int .u64 (m : Int), .slice A n cap], .int .i64 (-1), .int .i64 1]) (by simp [results, Try.results12, go_sem, k0, k1, k2]) rfl ⟨rfl, HB.out⟩
end Go.Proofs.Ytmjbdjcpjaeemaa
