/-
  Length of any spans, of the program and of the document.
-/
import Derived.Deep.DeepCutAuto
import Derived.Test.YtmjbdjcpjaeemaaDoorPoMath
namespace Go.Proofs.YtmjbdjcpjaeemaaDoor
open Go.RowKit

theorem cut_one (b off n cap : Nat) (h0 : 0 < n) (hc : n ≤ cap) : ∃ A1, (0 < n - 1 → A1 = some ⟨b, off + 10, none⟩) ∧ ∀ W, (Instr.slice 28 (.slice (some ⟨b, off, none⟩) n cap) (some (.int .i64 1)) none none).run Tryd.prog W = .ok (.slice A1 (n - 1) (cap - 1)) W := by
  refine ⟨if cap = 1 then some ⟨b, off, none⟩ else some ⟨b, off + 10, none⟩, fun h => if_neg (by omega), fun W => ?_⟩
  rw [run_slice_l W 28 (some ⟨b, off, none⟩) n cap (by kernel_rfl) .i64 1 (by omega) (by omega)]
  have hz : (sizeOf (Tryd.prog.elem 28)).run Tryd.prog W = .ok 10 W := by kernel_rfl
  rw [hz]
  have hp : (⟨b, off, none⟩ : Addr).add 10 = ⟨b, off + 10, none⟩ := by unfold Addr.add; split <;> simp_all
  simp only [sliced, Result.andThen, Int.toNat_one, Nat.one_mul, Option.map_some, hp]

set_option linter.unusedSimpArgs false in
set_option maxRecDepth 100000 in
set_option maxHeartbeats 2000000 in
theorem len_any (A : Option Addr) (l : List Sp) (n cap : Nat) (w : World) (hn : l.length = n) (hcap : n ≤ cap) (hcap2 : cap ≤ 9223372036854775807) (hr : HoldsS w.heap.size w A l) :
    Calls Tryd.prog 19 #[.slice A n cap] w fun e w' => e = .returned (.int .i64 (lenM l)) ∧ Below w.heap.size w w' := by
  have HR := Lib.hid hr
  have HN := Lib.hid hn
  clear hr
  by_cases h0 : n = 0
  · have hz : lenM l = 0 := by unfold lenM; rw [if_pos (by omega)]
    rw [hz]
    have t0 : ((n : Int) == 0) = true := by simp; omega
    clear hz h0 hn
    go_enter Tryd.func19, Tryd.ntmps19
    go_wp2_with fail
    go_ret
    exact ⟨rfl, Below.refl _ _⟩
  have t0 : ((n : Int) == 0) = false := by simp; omega
  obtain ⟨b, off, rfl, hb, hc⟩ := HR.out (by omega)
  obtain ⟨B0, c0, -, -, -, -, -, k5, k6, -, -, -, -⟩ := hc 0 (by omega)
  obtain ⟨lo, hlo⟩ : ∃ x, lowN l 1 = x := ⟨_, rfl⟩
  obtain ⟨hi, hhi⟩ : ∃ x, highN l 1 = x := ⟨_, rfl⟩
  have k5' : w.cell? ⟨b, off + 5, none⟩ = some (.int .i64 lo) := by rw [← hlo]; simpa [lowN] using k5
  have k6' : w.cell? ⟨b, off + 6, none⟩ = some (.int .i64 hi) := by rw [← hhi]; simpa [highN] using k6
  have HC := Lib.hid hc
  have hpos : 0 < n := by omega
  obtain ⟨A1, hA1, hcut⟩ := cut_one b off n cap hpos hcap
  have HA1 := Lib.hid hA1
  obtain ⟨n1, hn1⟩ : ∃ x, n - 1 = x := ⟨_, rfl⟩
  obtain ⟨c1, hc1⟩ : ∃ x, cap - 1 = x := ⟨_, rfl⟩
  rw [hn1, hc1] at hcut
  rw [hn1] at HA1
  have HN1 : Hid (n = n1 + 1) := Lib.hid (by omega)
  have hn1b : n1 ≤ 9223372036854775806 := by omega
  have HLO : Hid (lowN l 1 = lo ∧ highN l 1 = hi) := Lib.hid ⟨hlo, hhi⟩
  clear k5 k6 hc hn h0 hA1 hn1 hc1 hlo hhi
  go_enter Tryd.func19, Tryd.ntmps19
  go_wp2_with fail
  go_quiet (fail)
  clear k5' k6'
  go_wp2_with fail
  go_loopw [3, 4, 21] (fun a c jv wr => ∃ (j : Nat) (x y : Int), a = .int .i64 x ∧ c = .int .i64 y ∧ jv = .int .i64 (j : Int) ∧ j ≤ n1 ∧ Hid (lowN l (j + 1) = x ∧ highN l (j + 1) = y) ∧ Below w.heap.size w wr) (fun _ _ jv _ => n1 - (intOf jv).toNat)
  case atStart => exact ⟨0, lo, hi, rfl, rfl, rfl, by omega, HLO, draws (Below.refl _ _) _⟩
  case round =>
    obtain ⟨j, x, y, rfl, rfl, rfl, hj, HX, hB⟩ := hrel
    by_cases hlt : j < n1
    · obtain rfl := HA1.out (by omega)
      obtain ⟨B0, c0, h0, h1, h2, h3, h4, h5, h6, h7, h8, h9, -⟩ := HC.out (j + 1) (by rw [HN.out, HN1.out]; omega)
      rw [show off + (j + 1) * 10 = off + 10 + j * 10 by omega] at h0 h1 h2 h3 h4 h5 h6 h7 h8 h9
      obtain ⟨⟨a0, a1, a2, a3, a4, a5, a6, a7, a8, a9⟩, ha⟩ : ∃ s, l.getD (j + 1) sp0 = s := ⟨_, rfl⟩
      rw [ha] at h0 h1 h2 h3 h4 h5 h6 h7 h8 h9
      dsimp only at h0 h1 h2 h3 h4 h5 h6 h7 h8 h9
      obtain ⟨na, hna⟩ : ∃ x, a8.length = x := ⟨_, rfl⟩
      rw [hna] at h8
      have t : ∀ k, wr.cell? ⟨b, k, none⟩ = w.cell? ⟨b, k, none⟩ := fun k => hB.cell (p := ⟨b, k, none⟩) hb
      rw [← t] at h0 h1 h2 h3 h4 h5 h6 h7 h8 h9
      have HX' : Hid (lowN l (j + 1 + 1) = (if a5 < x then a5 else x) ∧ highN l (j + 1 + 1) = (if y < a6 then a6 else y)) := Lib.hid (by
        rw [lowN, highN, HX.out.1, HX.out.2, ha]; exact ⟨rfl, rfl⟩)
      have HBB := Lib.hid hB
      have tj : decide ((j : Int) < (n1 : Int)) = true := by simp; omega
      clear ha hna t hB
      go_wp2_with fail
      go_quiet (fail)
      go_wp2_with fail
      go_roundw
      case rel => exact ⟨j + 1, _, _, rfl, rfl, by simp, by omega, HX', draws (HBB.out.alloc HBB.out.size _) _⟩
      case measure => simp [intOf]; omega
    · have hje : j = n1 := by omega
      subst hje
      have hz : lenM l = wrap64 (y - x) := by
        unfold lenM
        rw [if_neg (by rw [HN.out]; omega), HN.out, HN1.out, HX.out.1, HX.out.2]
      have tj : decide ((j : Int) < (j : Int)) = false := by simp
      have HZ := Lib.hid hz
      clear hlt hz hcut
      go_wp2_with fail
      go_ret
      exact ⟨by rw [HZ.out]; rfl, hB⟩

set_option linter.unusedSimpArgs false in
set_option maxRecDepth 100000 in
set_option maxHeartbeats 2000000 in
theorem refLen_any (A : Option Addr) (l : List Sp) (n cap : Nat) (w : World) (hn : l.length = n) (hcap2 : n ≤ 9223372036854775807) (hr : HoldsS w.heap.size w A l) :
    Calls Tryd.prog 32 #[.slice A n cap] w fun e w' => e = .returned (.int .i64 (lenM l)) ∧ Below w.heap.size w w' := by
  have HR := Lib.hid hr
  have HN := Lib.hid hn
  clear hr
  by_cases h0 : n = 0
  · have hz : lenM l = 0 := by unfold lenM; rw [if_pos (by omega)]
    rw [hz]
    have t0 : ((n : Int) == 0) = true := by simp; omega
    clear hz h0 hn
    go_enter Tryd.func32, Tryd.ntmps32
    go_wp2_with fail
    go_ret
    exact ⟨rfl, Below.refl _ _⟩
  have t0 : ((n : Int) == 0) = false := by simp; omega
  obtain ⟨b, off, rfl, hb, hc⟩ := HR.out (by omega)
  obtain ⟨B0, c0, -, -, -, -, -, k5, k6, -, -, -, -⟩ := hc 0 (by omega)
  obtain ⟨lo, hlo⟩ : ∃ x, lowN l 0 = x := ⟨_, rfl⟩
  obtain ⟨hi, hhi⟩ : ∃ x, highN l 0 = x := ⟨_, rfl⟩
  have k5' : w.cell? ⟨b, off + 5, none⟩ = some (.int .i64 lo) := by rw [← hlo]; simpa [lowN] using k5
  have k6' : w.cell? ⟨b, off + 6, none⟩ = some (.int .i64 hi) := by rw [← hhi]; simpa [highN] using k6
  have HC := Lib.hid hc
  have hpos : 0 < n := by omega
  have HLO : Hid (lowN l 0 = lo ∧ highN l 0 = hi) := Lib.hid ⟨hlo, hhi⟩
  clear k5 k6 hc hn h0 hlo hhi
  go_enter Tryd.func32, Tryd.ntmps32
  go_wp2_with fail
  clear k5' k6'
  go_loopw [3, 4, 5] (fun a c jv wr => ∃ (j : Nat) (x y : Int), a = .int .i64 x ∧ c = .int .i64 y ∧ jv = .int .i64 (j : Int) ∧ j ≤ n ∧ Hid (lowN l j = x ∧ highN l j = y) ∧ Below w.heap.size w wr) (fun _ _ jv _ => n - (intOf jv).toNat)
  case atStart => exact ⟨0, lo, hi, rfl, rfl, rfl, by omega, HLO, Below.refl _ _⟩
  case round =>
    obtain ⟨j, x, y, rfl, rfl, rfl, hj, HX, hB⟩ := hrel
    by_cases hlt : j < n
    · obtain ⟨B0, c0, -, -, -, -, -, h5, h6, -, -, -, -⟩ := HC.out j (by rw [HN.out]; omega)
      obtain ⟨a5, ha5⟩ : ∃ s, (l.getD j sp0).start = s := ⟨_, rfl⟩
      obtain ⟨a6, ha6⟩ : ∃ s, (l.getD j sp0).stop = s := ⟨_, rfl⟩
      rw [ha5] at h5
      rw [ha6] at h6
      have t : ∀ k, wr.cell? ⟨b, k, none⟩ = w.cell? ⟨b, k, none⟩ := fun k => hB.cell (p := ⟨b, k, none⟩) hb
      rw [← t] at h5 h6
      have HX' : Hid (lowN l (j + 1) = (if a5 < x then a5 else x) ∧ highN l (j + 1) = (if y < a6 then a6 else y)) := Lib.hid (by
        rw [lowN, highN, HX.out.1, HX.out.2, ha5, ha6]; exact ⟨rfl, rfl⟩)
      have HBB := Lib.hid hB
      have tj : decide ((j : Int) < (n : Int)) = true := by simp; omega
      clear ha5 ha6 t hB
      go_wp2_with fail
      go_roundw
      case rel => exact ⟨j + 1, _, _, rfl, rfl, by simp, by omega, HX', HBB.out⟩
      case measure => simp [intOf]; omega
    · have hje : j = n := by omega
      subst hje
      have hz : lenM l = wrap64 (y - x) := by
        unfold lenM
        rw [if_neg (by rw [HN.out]; omega), HN.out, HX.out.1, HX.out.2]
      have tj : decide ((j : Int) < (j : Int)) = false := by simp
      have HZ := Lib.hid hz
      clear hlt hz
      go_wp2_with fail
      go_ret
      exact ⟨by rw [HZ.out]; rfl, hB⟩
end Go.Proofs.YtmjbdjcpjaeemaaDoor
