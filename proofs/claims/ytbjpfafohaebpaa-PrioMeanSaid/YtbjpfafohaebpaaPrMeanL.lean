/-
  What PrioMean's walk leans on: lcm; the weights of bytes; Add by the digits of a number.
-/
import Derived.Deep.RegionHeld
import Derived.Test.YtbjpfafohaebpaaBytes0
import Derived.Test.YtbjpfafohaebpaaPrMean2
import Derived.Test.YtbjpfafohaebpaaPrLaw
namespace Go.Proofs.Ytbjpfafohaebpaa
open Go.RowKit Go.Proofs.PrioMath

set_option maxRecDepth 100000 in
set_option maxHeartbeats 2000000 in
theorem lcm_any (m : Nat) (w : World) (hm : 1 ≤ m) (hm5 : m ≤ 5) :
    Calls Try.prog 18 #[.int .u64 (m : Int)] w fun e w' => e = .returned (.int .u64 (lcmF m : Int)) ∧ w = w' := by
  have h1 : lcmF 1 = 1 := by decide
  have H1 : Hid (lcmF 1 = 1) := Lib.hid h1
  clear h1
  go_enter Try.func18, Try.ntmps18
  go_wp2_with fail
  go_loopw [3, 4] (fun xv iv wr => ∃ x i : Nat, xv = .int .u64 (x : Int) ∧ iv = .int .u64 (i : Int) ∧ 2 ≤ i ∧ i ≤ m + 1 ∧ Hid (lcmF (i - 1) = x) ∧ w = wr) (fun _ iv _ => m + 1 - (intOf iv).toNat)
  case atStart => exact ⟨1, 2, rfl, rfl, by omega, by omega, H1, rfl⟩
  case round =>
    obtain ⟨x, i, rfl, rfl, hi2, him, HX, rfl⟩ := hrel
    by_cases h : i ≤ m
    · have t1 : decide ((i : Int) ≤ (m : Int)) = true := by simp; omega
      have t1' : decide (i ≤ m) = true := by simp; omega
      obtain ⟨hxl, hxu⟩ := lcmF_le (n := i - 1) (by omega)
      rw [HX.out] at hxl hxu
      obtain ⟨g, hg⟩ : ∃ g, Nat.gcd x i = g := ⟨_, rfl⟩
      have hg0 : 0 < g := by rw [← hg]; exact Nat.gcd_pos_of_pos_left _ (by omega)
      obtain ⟨q, hq⟩ : ∃ q, x / g = q := ⟨_, rfl⟩
      have hqx : q ≤ x := by rw [← hq]; exact Nat.div_le_self _ _
      have e1 : (x : Int) / (g : Int) = (q : Int) := by rw [← hq]; simp
      have hnext : lcmF i = q * i := by
        have e := show lcmF (i - 1 + 1) = lcmF (i - 1) / Nat.gcd (lcmF (i - 1)) (i - 1 + 1) * (i - 1 + 1) from rfl
        rw [HX.out, show i - 1 + 1 = i by omega, hg, hq] at e
        exact e
      obtain ⟨y, hy⟩ : ∃ y, q * i = y := ⟨_, rfl⟩
      rw [hy] at hnext
      have e2 : (q : Int) * (i : Int) = (y : Int) := by rw [← hy]; simp
      have hyu := (lcmF_le (n := i) (by omega)).2
      rw [hnext] at hyu
      have HG := Lib.hid hg
      have HNX : Hid (lcmF (i + 1 - 1) = y) := Lib.hid hnext
      clear hg hq hnext hy HX
      go_wp2_with fail
      go_loopw [5, 6] (fun av bv wr => ∃ a b : Nat, av = .int .u64 (a : Int) ∧ bv = .int .u64 (b : Int) ∧ a ≤ 60 ∧ b ≤ 60 ∧ Hid (Nat.gcd a b = g) ∧ w = wr) (fun _ bv _ => (intOf bv).toNat)
      case atStart => exact ⟨x, i, rfl, rfl, by omega, by omega, HG, rfl⟩
      case round =>
        obtain ⟨a, b, rfl, rfl, ha, hb, HG1, rfl⟩ := hrel
        by_cases h0 : b = 0
        · subst h0
          have hag : a = g := by rw [← HG1.out]; simp
          subst hag
          have a0 : ((a : Int) == 0) = false := by simp; omega
          have a0' : decide ((a : Int) = 0) = false := by simp; omega
          clear HG HG1
          go_wp2_with fail
          go_roundw
          case rel => exact ⟨y, i + 1, rfl, by simp, by omega, by omega, HNX, by first | rfl | trivial⟩
          case measure => simp [intOf]; omega
        · have t2 : decide ((0 : Int) < (b : Int)) = true := by simp; omega
          have t2' : decide (0 < b) = true := by simp; omega
          have a0 : ((b : Int) == 0) = false := by simp [h0]
          obtain ⟨r, hr⟩ : ∃ r, a % b = r := ⟨_, rfl⟩
          have hrb : r < b := by rw [← hr]; exact Nat.mod_lt _ (by omega)
          have e3 : (a : Int) % (b : Int) = (r : Int) := by rw [← hr]; simp
          have hg2 : Nat.gcd b r = g := by
            rw [← HG1.out, ← hr, Nat.gcd_comm a b, Nat.gcd_rec b a, Nat.gcd_comm]
          have HG2 := Lib.hid hg2
          clear hg2 hr HG1
          go_wp2_with fail
          go_roundw
          case rel => exact ⟨b, r, rfl, by rw [← e3], by omega, by omega, HG2, by first | rfl | trivial⟩
          case measure => simp [intOf]; omega
    · have t1 : decide ((i : Int) ≤ (m : Int)) = false := by simp; omega
      have t1' : decide (i ≤ m) = false := by simp; omega
      have hx : x = lcmF m := by rw [← HX.out, show i - 1 = m by omega]
      subst hx
      clear HX h
      go_wp2_with fail
      go_ret
      exact ⟨rfl, rfl⟩

/-- The weights of bytes. -/
def wOf (cs : List UInt8) (i : Nat) : Nat := (cs.getD i 0).toNat % 30 + 1
theorem wOf_le (cs : List UInt8) (i : Nat) : 1 ≤ wOf cs i ∧ wOf cs i ≤ 30 := by unfold wOf; omega
theorem byte_at {B : Nat} {W : World} {b off n i : Nat} {cs : List UInt8} (h : ∀ j, j < cs.length → W.cell? ⟨b, off + j, none⟩ = some (b8 (cs.getD j 0))) (hb : b < B) (hi : i < n) (hn : n ≤ cs.length) {x r : Nat} (hx : (cs.getD i 0).toNat = x) (hr : x % 30 = r) :
    (x ≤ 255 ∧ r ≤ 29 ∧ wOf cs i = r + 1 ∧ (x : Int) % 30 = (r : Int) ∧ (x : Int).tmod 30 = (r : Int)) ∧ ∀ W', Below B W W' → W'.cell? ⟨b, off + i, none⟩ = some (.int .u8 (x : Int)) := by
  have h1 := h i (by omega)
  unfold b8 at h1
  rw [hx] at h1
  have := (cs.getD i 0).toNat_lt
  rw [hx] at this
  refine ⟨⟨by omega, by omega, by unfold wOf; rw [hx, hr], by omega, ?_⟩, fun W' hw => (hw.cell (p := ⟨b, off + i, none⟩) hb).trans h1⟩
  rw [Int.tmod_eq_emod_of_nonneg (by omega)]
  omega
theorem v_add {w W : World} {S k m i v x1 dg : Nat} {U : Nat → Nat} (h : Of_ w W S k m (mkV U m v i)) (hx : U i = x1) (hd : dig m v i = dg) (hxl : 1 ≤ x1 ∧ x1 ≤ 30) (hdl : dg < m) (hm5 : m ≤ 5) (hi : i ≤ 1000000) :
    Calls Try.prog 11 #[.pointer (some ⟨S, 0, none⟩), .int .u64 (x1 : Int), .int .u64 (dg : Int)] W fun e w' => e = .returned (.tuple #[.int .i64 (i : Int), .int .u16 0]) ∧ Hid (Of_ w w' S k m (mkV U m v (i + 1))) := by
  obtain ⟨bs, h⟩ := h
  have := own_add x1 dg h (by omega) (by omega) (by omega) (by rw [mkV_len]; exact hi)
  rw [mkV_len] at this
  refine this.mono fun e w' ⟨he, bs', h2⟩ => ⟨he, Lib.hid ⟨bs', ?_⟩⟩
  have e1 : dg % dr m = dg := Nat.mod_eq_of_lt (by unfold dr; split <;> omega)
  rw [e1] at h2
  rw [mkV, hx, hd]
  exact h2.out.1

end Go.Proofs.Ytbjpfafohaebpaa
