/-
  A parent, and marks, that came in: their values.
-/
import Derived.Test.YtkfidolbbnmjfaaDoorLift0
namespace Go.Proofs.YtkfidolbbnmjfaaDoor
open Go.ChangeShapes Go.WideShapes Go.ChangeAt Go.RowKit

set_option maxRecDepth 100000 in
theorem four_of {l : List Value} (h : l.length = 4) : ∃ a b c d, l = [a, b, c, d] := by
  match l, h with
  | [a, b, c, d], _ => exact ⟨a, b, c, d, rfl⟩
set_option maxRecDepth 100000 in
theorem cell_u64 {W : World} {base : Nat} {v : Value} (h : Cell.okWide Tryd.prog W .any base 22 v) : ∃ n : Nat, n < 18446744073709551616 ∧ v = .int .u64 (n : Int) := by
  simp only [Cell.okWide, Tryd.underlying22] at h
  cases v <;> simp_all [Cell.ok, Tryd.underlying22]
  rename_i k n
  obtain ⟨rfl, h1, h2⟩ := h
  have e1 : IntKind.u64.min = 0 := rfl
  have e2 : IntKind.u64.max = 18446744073709551615 := rfl
  rw [e1] at h1
  rw [e2] at h2
  exact ⟨n.toNat, by omega, by omega⟩
set_option maxRecDepth 100000 in
theorem cell_u8 {W : World} {base : Nat} {v : Value} (h : Cell.okWide Tryd.prog W .any base 5 v) : ∃ n : Nat, n < 256 ∧ v = .int .u8 (n : Int) := by
  simp only [Cell.okWide, Tryd.underlying5] at h
  cases v <;> simp_all [Cell.ok, Tryd.underlying5]
  rename_i k n
  obtain ⟨rfl, h1, h2⟩ := h
  have e1 : IntKind.u8.min = 0 := rfl
  have e2 : IntKind.u8.max = 255 := rfl
  rw [e1] at h1
  rw [e2] at h2
  exact ⟨n.toNat, by omega, by omega⟩
set_option maxRecDepth 100000 in
theorem cell_bool {W : World} {base : Nat} {v : Value} (h : Cell.okWide Tryd.prog W .any base 4 v) : ∃ b : Bool, v = .bool b := by
  simp only [Cell.okWide, Tryd.underlying4] at h
  cases v <;> simp_all [Cell.ok, Tryd.underlying4]
set_option maxRecDepth 100000 in
theorem arg_parent {W : World} {base : Nat} {v : Value} (h : Value.okWide Tryd.prog W .any base 33 v) :
    ∃ hi lo sp fl : Nat, v = .agg #[.int .u64 (hi : Int), .int .u64 (lo : Int), .int .u64 (sp : Int), .int .u8 (fl : Int)] ∧ hi < 18446744073709551616 ∧ lo < 18446744073709551616 ∧ sp < 18446744073709551616 ∧ fl < 256 := by
  simp only [Value.okWide, Tryd.underlying33] at h
  obtain ⟨cs, rfl, hs, ts, hts, _, hc⟩ := h
  rw [show Tryd.prog.cellsOf 33 = 4 by kernel_rfl] at hs
  have e : Tryd.prog.cellTypes Tryd.prog.depth 33 = some [22, 22, 22, 5] := by kernel_rfl
  rw [e] at hts
  injection hts with hts
  subst hts
  obtain ⟨l⟩ := cs
  obtain ⟨a, b, c, d, rfl⟩ := four_of (l := l) (by simpa using hs)
  obtain ⟨u0, hu0, h0⟩ := hc 0 a rfl
  obtain ⟨u1, hu1, h1⟩ := hc 1 b rfl
  obtain ⟨u2, hu2, h2⟩ := hc 2 c rfl
  obtain ⟨u3, hu3, h3⟩ := hc 3 d rfl
  simp at hu0 hu1 hu2 hu3
  subst hu0 hu1 hu2 hu3
  obtain ⟨n0, g0, rfl⟩ := cell_u64 h0
  obtain ⟨n1, g1, rfl⟩ := cell_u64 h1
  obtain ⟨n2, g2, rfl⟩ := cell_u64 h2
  obtain ⟨n3, g3, rfl⟩ := cell_u8 h3
  exact ⟨n0, n1, n2, n3, rfl, g0, g1, g2, g3⟩
set_option maxRecDepth 100000 in
theorem arg_marks {W : World} {base : Nat} {v : Value} (h : Value.okWide Tryd.prog W .any base 29 v) :
    ∃ (a : Bool) (t : Nat) (b : Bool) (r : Nat), v = .agg #[.bool a, .int .u64 (t : Int), .bool b, .int .u64 (r : Int)] ∧ t < 18446744073709551616 ∧ r < 18446744073709551616 := by
  simp only [Value.okWide, Tryd.underlying29] at h
  obtain ⟨cs, rfl, hs, ts, hts, _, hc⟩ := h
  rw [show Tryd.prog.cellsOf 29 = 4 by kernel_rfl] at hs
  have e : Tryd.prog.cellTypes Tryd.prog.depth 29 = some [4, 22, 4, 22] := by kernel_rfl
  rw [e] at hts
  injection hts with hts
  subst hts
  obtain ⟨l⟩ := cs
  obtain ⟨a, b, c, d, rfl⟩ := four_of (l := l) (by simpa using hs)
  obtain ⟨u0, hu0, h0⟩ := hc 0 a rfl
  obtain ⟨u1, hu1, h1⟩ := hc 1 b rfl
  obtain ⟨u2, hu2, h2⟩ := hc 2 c rfl
  obtain ⟨u3, hu3, h3⟩ := hc 3 d rfl
  simp at hu0 hu1 hu2 hu3
  subst hu0 hu1 hu2 hu3
  obtain ⟨b0, rfl⟩ := cell_bool h0
  obtain ⟨n1, g1, rfl⟩ := cell_u64 h1
  obtain ⟨b2, rfl⟩ := cell_bool h2
  obtain ⟨n3, g3, rfl⟩ := cell_u64 h3
  exact ⟨b0, n1, b2, n3, rfl, g1, g3⟩
end Go.Proofs.YtkfidolbbnmjfaaDoor
