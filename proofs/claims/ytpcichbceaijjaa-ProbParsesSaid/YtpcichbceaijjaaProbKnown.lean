/-
  prob.Number; what the laws of layer 5 have in common: known, near, tells' first half.
-/
import Derived.Test.YtpcichbceaijjaaProbText
namespace Go.Proofs.Ytpcichbceaijjaa
open Go.RowKit Go.Proofs.ProbMath

set_option maxRecDepth 100000 in
theorem number_any (hi lo rv : Nat) (v2 v3 v4 v5 v6 v7 v8 : Value) (w : World) :
    Calls Try.prog 27 #[.agg #[.int .u64 (hi : Int), .int .u64 (lo : Int), v2, v3, v4, v5, v6, v7, v8, .int .u64 (rv : Int)]] w fun e w' => e = .returned (.int .u64 (number lo rv : Int)) ∧ Below w.heap.size w w' := by
  by_cases h1 : 1 ≤ rv
  · have d1 : decide ((1 : Int) ≤ (rv : Int)) = true := by simp; omega
    by_cases h2 : rv ≤ 72057594037927936
    · have d2 : decide ((rv : Int) ≤ 72057594037927936) = true := by simp; omega
      have e : (rv : Int) - 1 = (number lo rv : Int) := by unfold number; rw [if_pos ⟨h1, h2⟩]; omega
      have E := Lib.hid e
      clear e
      go_enter Try.func27, Try.ntmps27
      go_wp2_with fail
      go_ret
      exact ⟨ret_i' E.out, (Below.refl _ _).alloc (Nat.le_refl _) _⟩
    · have d2 : decide ((rv : Int) ≤ 72057594037927936) = false := by simp; omega
      have e : (lo : Int) % 72057594037927936 = (number lo rv : Int) := by unfold number; rw [if_neg (by omega)]; omega
      have E := Lib.hid e
      clear e
      go_enter Try.func27, Try.ntmps27
      go_wp2_with fail
      go_ret
      exact ⟨ret_i' E.out, (Below.refl _ _).alloc (Nat.le_refl _) _⟩
  · have d1 : decide ((1 : Int) ≤ (rv : Int)) = false := by simp; omega
    have e : (lo : Int) % 72057594037927936 = (number lo rv : Int) := by unfold number; rw [if_neg (by omega)]; omega
    have E := Lib.hid e
    clear e
    go_enter Try.func27, Try.ntmps27
    go_wp2_with fail
    go_ret
    exact ⟨ret_i' E.out, (Below.refl _ _).alloc (Nat.le_refl _) _⟩

def SomeU64 (w : World) (e : Ending) (w' : World) : Prop := ∃ n : Nat, n < 18446744073709551616 ∧ e = .returned (.int .u64 (n : Int)) ∧ w = w'
theorem someU64 {w : World} {x : Int} (h0 : 0 ≤ x) (h1 : x < 18446744073709551616) : SomeU64 w (.returned (.int .u64 x)) w := ⟨x.toNat, by omega, by rw [show ((x.toNat : Nat) : Int) = x by omega], rfl⟩

set_option maxRecDepth 100000 in
set_option maxHeartbeats 1000000 in
theorem near_any (a k : Nat) (w : World) (ha : a < 18446744073709551616) (hk : k < 256) : Calls Try.prog 16 #[.int .u64 (a : Int), .int .u8 (k : Int)] w (SomeU64 w) := by
  obtain ⟨c, hc⟩ : ∃ c, c = k / 6 := ⟨_, rfl⟩
  have e1 : (k : Int) / 6 = (c : Int) := by omega
  have hc2 : c ≤ 42 := by omega
  obtain ⟨x, hx⟩ : ∃ x, x = a % 72057594037927936 / 2 ^ c := ⟨_, rfl⟩
  have e2 : (a : Int) % 72057594037927936 / 2 ^ c = (x : Int) := by rw [hx]; simp
  obtain ⟨y, hy⟩ : ∃ y, y = x * 2 ^ c := ⟨_, rfl⟩
  have e3 : (x : Int) * 2 ^ c = (y : Int) := by rw [hy]; simp
  have hyl : y ≤ a % 72057594037927936 := by rw [hy, hx]; exact Nat.div_mul_le_self _ _
  have hxl : x ≤ a % 72057594037927936 := by rw [hx]; exact Nat.div_le_self _ _
  obtain ⟨r, hr⟩ : ∃ r, r = k % 6 := ⟨_, rfl⟩
  have e4 : (k : Int) % 6 = (r : Int) := by omega
  have e5 : IntKind.u64.wrap (y : Int) = (y : Int) := by rw [IntKind.wrap_u64]; omega
  have hr6 : r < 6 := by omega
  clear hc hx hy hr
  go_enter Try.func16, Try.ntmps16
  rcases (by omega : r = 0 ∨ r = 1 ∨ r = 2 ∨ r = 3 ∨ r = 4 ∨ r = 5) with rfl | rfl | rfl | rfl | rfl | rfl
  all_goals
    go_wp2_with fail
    go_ret
    exact someU64 (by omega) (by omega)

theorem threshold_k (w : World) : Calls Try.prog 13 #[.int .u64 1, .int .u64 4] w fun e w' => e = .returned (.tuple #[.int .u64 54043195528445952, .int .u16 0]) ∧ Below w.heap.size w w' := by
  have := threshold_any 1 4 w (by omega) (by omega) (by omega)
  rw [show 72057594037927936 - share 1 4 = 54043195528445952 by decide +kernel] at this
  exact this
theorem weight_k (w : World) : Calls Try.prog 15 #[.int .u64 54043195528445952] w fun e w' => e = .returned (.tuple #[.int .u64 4, .int .u64 1, .int .u16 0]) ∧ Below w.heap.size w w' := by
  have := weight_any 54043195528445952 w (by omega)
  rw [show both 54043195528445952 = 18014398509481984 by decide +kernel, show kept 54043195528445952 = 18014398509481984 by decide +kernel] at this
  exact this
theorem digits_k (w : World) : Calls Try.prog 18 #[.int .u64 54043195528445952] w fun e w' => e = .returned (.tuple #[.string ⟨#[99]⟩, .int .u16 0]) ∧ Below w.heap.size w w' := by
  have := digits_any 54043195528445952 w (by omega)
  rw [show digits 54043195528445952 = [99] by decide +kernel] at this
  exact this
theorem parse_k (w : World) : Calls Try.prog 25 #[.string ⟨#[99]⟩] w fun e w' => e = .returned (.tuple #[.int .u64 54043195528445952, .int .u16 0]) ∧ Below w.heap.size w w' := by
  have := parse_any ⟨#[99]⟩ w (by decide)
  rw [show parse (⟨#[99]⟩ : ByteArray).data.toList = (54043195528445952, 0) by decide +kernel] at this
  exact this
theorem keep_k1 (w : World) : Calls Try.prog 20 #[.int .u64 54043195528445952, .int .u64 54043195528445952] w fun e w' => e = .returned (.bool true) ∧ w = w' := by
  have := keep_any 54043195528445952 54043195528445952 w
  rw [show keep 54043195528445952 54043195528445952 = true by decide +kernel] at this
  exact this
theorem keep_k2 (w : World) : Calls Try.prog 20 #[.int .u64 54043195528445951, .int .u64 54043195528445952] w fun e w' => e = .returned (.bool false) ∧ w = w' := by
  have := keep_any 54043195528445951 54043195528445952 w
  rw [show keep 54043195528445951 54043195528445952 = false by decide +kernel] at this
  exact this
theorem kept_k (w : World) : Calls Try.prog 22 #[.int .u64 54043195528445952] w fun e w' => e = .returned (.int .u64 18014398509481984) ∧ w = w' := by
  have := kept_any 54043195528445952 w
  rw [show kept 54043195528445952 = 18014398509481984 by decide +kernel] at this
  exact this

set_option maxRecDepth 100000 in
set_option maxHeartbeats 1000000 in
theorem known_any (w : World) : Calls Try.prog 14 #[] w fun e w' => e = .returned (.bool true) ∧ Below w.heap.size w w' := by
  go_enter Try.func14, Try.ntmps14
  go_wp2_with fail
  refine (threshold_k _).mono ?_
  rintro e w1 ⟨rfl, hb1⟩
  go_wp2_with fail
  refine (weight_k _).mono ?_
  rintro e w2 ⟨rfl, hb2⟩
  go_wp2_with fail
  refine (digits_k _).mono ?_
  rintro e w3 ⟨rfl, hb3⟩
  go_wp2_with fail
  refine (parse_k _).mono ?_
  rintro e w4 ⟨rfl, hb4⟩
  have hB : Below w.heap.size w w4 := hb1.trans ((hb2.trans ((hb3.trans (hb4.mono hb3.size)).mono hb2.size)).mono hb1.size)
  clear hb1 hb2 hb3 hb4
  go_wp2_with fail
  refine (keep_k1 _).mono ?_
  rintro e w5 ⟨rfl, rfl⟩
  go_wp2_with fail
  refine (keep_k2 _).mono ?_
  rintro e w5 ⟨rfl, rfl⟩
  go_wp2_with fail
  refine (kept_k _).mono ?_
  rintro e w5 ⟨rfl, rfl⟩
  go_wp2_with fail
  go_ret
  exact ⟨rfl, hB⟩

end Go.Proofs.Ytpcichbceaijjaa
