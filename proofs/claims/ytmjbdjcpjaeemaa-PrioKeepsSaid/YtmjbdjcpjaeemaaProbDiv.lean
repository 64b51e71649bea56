/-
  math/bits.Div64 at every quotient that fits; telemeter/prob's Threshold.
-/
import Derived.WalkKit
import Derived.BigQuiet
import Derived.Deep.QuietTactic
import Derived.Lib.Hide
import Derived.Outline
import Derived.Deep.CutBlock
import Derived.Deep.DeepCutAuto
import Derived.Lib.ItoaNum
import Derived.Lib.Mul64
import Derived.Laws.Bits64b
import Derived.Laws.BitsAllLaws
import Derived.Test.YtmjbdjcpjaeemaaProbBits
import Derived.Test.YtmjbdjcpjaeemaaProbMath
namespace Go.Proofs.Ytmjbdjcpjaeemaa
open Go.RowKit Go.Proofs.ProbMath

/-- The names of what Div64 reckons ahead of its first digit. -/
structure Named (hi lo y s k Y y1 y0 H l u L d1 d0 q m r : Nat) : Prop where
  sk : s + k = 64
  k1 : 1 ≤ k
  lz : (64 : Int) - (Lib.bitLen y : Int) = (s : Int)
  wY : IntKind.u64.wrap ((y : Int) * 2 ^ s) = (Y : Int)
  dY : (Y : Int) / 4294967296 = (y1 : Int)
  aY : bits .and .u64 (Y : Int) 4294967295 = (y0 : Int)
  wH : IntKind.u64.wrap ((hi : Int) * 2 ^ s) = (H : Int)
  sub : (64 : Int) - (s : Int) = (k : Int)
  dl : (lo : Int) / 2 ^ k = (l : Int)
  ou : bits .or .u64 (H : Int) (l : Int) = (u : Int)
  wL : IntKind.u64.wrap ((lo : Int) * 2 ^ s) = (L : Int)
  dL : (L : Int) / 4294967296 = (d1 : Int)
  aL : bits .and .u64 (L : Int) 4294967295 = (d0 : Int)
  qu : (u : Int) / (y1 : Int) = (q : Int)
  mq : (q : Int) * (y1 : Int) = (m : Int)
  rm : (u : Int) - (m : Int) = (r : Int)
  Yy : Y = y * 2 ^ s
  Y10 : Y = y1 * 4294967296 + y0
  by1 : y1 < 4294967296
  ly1 : 2147483648 ≤ y1
  by0 : y0 < 4294967296
  bd1 : d1 < 4294967296
  bd0 : d0 < 4294967296
  bL : L < 18446744073709551616
  bH : H < 18446744073709551616
  bl : l < 18446744073709551616
  uY : u < Y
  all : (hi * 18446744073709551616 + lo) * 2 ^ s = u * 18446744073709551616 + (d1 * 4294967296 + d0)
  qr : q * y1 + r = u
  qlo : (u * 4294967296 + d1) / (y1 * 4294967296 + y0) ≤ q
  qhi : q ≤ 8589934592
  rlt : r < 4294967296
  bm : m < 18446744073709551616

theorem named (hi lo y : Nat) (hy : y < 18446744073709551616) (hlo : lo < 18446744073709551616) (h : hi < y) : ∃ s k Y y1 y0 H l u L d1 d0 q m r, Named hi lo y s k Y y1 y0 H l u L d1 d0 q m r := by
  have hb := Lib.bitLenAux_bounds 64 y hy (by omega)
  have hle := Lib.bitLen_le y 64 (Nat.le_refl _) hy
  change 1 ≤ Lib.bitLen y ∧ 2 ^ (Lib.bitLen y - 1) ≤ y ∧ y < 2 ^ Lib.bitLen y at hb
  generalize hk : Lib.bitLen y = k at hb hle
  obtain ⟨k1, kl, ku⟩ := hb
  obtain ⟨s, hs⟩ : ∃ s, s + k = 64 := ⟨64 - k, by omega⟩
  have p1 : 2 ^ s * 2 ^ k = 18446744073709551616 := by rw [← Nat.pow_add, hs]
  have p2 : 2 ^ (k - 1) * 2 ^ s = 9223372036854775808 := by rw [← Nat.pow_add, show k - 1 + s = 63 by omega]
  have hY1 : y * 2 ^ s < 18446744073709551616 := by
    rw [← p1, Nat.mul_comm (2 ^ s)]
    exact Nat.mul_lt_mul_of_pos_right ku (Nat.two_pow_pos s)
  have hY0 : 9223372036854775808 ≤ y * 2 ^ s := by
    rw [← p2]
    exact Nat.mul_le_mul_right _ kl
  obtain ⟨c1, c2, c3, c4⟩ := cut_at hi lo y s k hs hY1 hlo h
  have hl2 : (2 : Nat) ^ s ≤ 9223372036854775808 := by
    have : (2 : Nat) ^ s ≤ 2 ^ 63 := Nat.pow_le_pow_right (by omega) (by omega)
    omega
  have hL := Nat.mod_lt (lo * 2 ^ s) (show 0 < 18446744073709551616 by omega)
  have cst : ∀ n : Nat, ((n : Int) * 2 ^ s) = ((n * 2 ^ s : Nat) : Int) := fun n => by simp
  refine ⟨s, k, y * 2 ^ s, y * 2 ^ s / 4294967296, y * 2 ^ s % 4294967296, hi * 2 ^ s, lo / 2 ^ k, hi * 2 ^ s + lo / 2 ^ k, lo * 2 ^ s % 18446744073709551616, lo * 2 ^ s % 18446744073709551616 / 4294967296, lo * 2 ^ s % 18446744073709551616 % 4294967296,
    (hi * 2 ^ s + lo / 2 ^ k) / (y * 2 ^ s / 4294967296), (hi * 2 ^ s + lo / 2 ^ k) / (y * 2 ^ s / 4294967296) * (y * 2 ^ s / 4294967296), (hi * 2 ^ s + lo / 2 ^ k) % (y * 2 ^ s / 4294967296), ?_⟩
  have hq0 := q_start (y * 2 ^ s / 4294967296) (y * 2 ^ s % 4294967296) (hi * 2 ^ s + lo / 2 ^ k) (lo * 2 ^ s % 18446744073709551616 / 4294967296) (by omega) (by omega)
  have hor : hi * 2 ^ s ||| lo / 2 ^ k = hi * 2 ^ s + lo / 2 ^ k := by
    rw [Nat.mul_comm hi]; exact (Nat.two_pow_add_eq_or_of_lt c2 hi).symm
  have hdm := Nat.div_add_mod (hi * 2 ^ s + lo / 2 ^ k) (y * 2 ^ s / 4294967296)
  have hml := Nat.mod_lt (hi * 2 ^ s + lo / 2 ^ k) (show 0 < y * 2 ^ s / 4294967296 by omega)
  rw [Nat.mul_comm (y * 2 ^ s / 4294967296)] at hdm
  have hqb : (hi * 2 ^ s + lo / 2 ^ k) / (y * 2 ^ s / 4294967296) ≤ 8589934592 := by
    refine Nat.le_of_lt_succ (Nat.div_lt_of_lt_mul ?_)
    omega
  have hdk : (lo : Int) / 2 ^ k = ((lo / 2 ^ k : Nat) : Int) := by
    rw [Int.natCast_ediv]; simp
  refine { sk := hs, k1 := k1, lz := by rw [hk]; omega, wY := ?_, dY := by omega, aY := ?_, wH := ?_, sub := by omega, dl := hdk, ou := ?_, wL := ?_, dL := by omega, aL := ?_, qu := ?_, mq := ?_, rm := ?_, Yy := rfl, Y10 := by omega, by1 := by omega, ly1 := by omega, by0 := by omega, bd1 := by omega, bd0 := by omega, bL := hL, bH := c1, bl := by omega, uY := c3, all := ?_, qr := hdm, qlo := hq0, qhi := hqb, rlt := by omega, bm := ?_ }
  · rw [cst, IntKind.wrap_u64]; omega
  · rw [show (4294967295 : Int) = ((4294967295 : Nat) : Int) from rfl, bits_and_u64_nat _ _ hY1 (by omega)]
    exact congrArg _ (Nat.and_two_pow_sub_one_eq_mod _ 32)
  · rw [cst, IntKind.wrap_u64]; omega
  · rw [u64_or_nat _ _ c1 (by omega), hor]
  · rw [cst, IntKind.wrap_u64]; omega
  · rw [show (4294967295 : Int) = ((4294967295 : Nat) : Int) from rfl, bits_and_u64_nat _ _ hL (by omega)]
    exact congrArg _ (Nat.and_two_pow_sub_one_eq_mod _ 32)
  · exact (Int.natCast_ediv _ _).symm
  · exact (Int.natCast_mul _ _).symm
  · omega
  · rw [c4]; omega
  · omega

theorem lz_any (y s : Nat) (w : World) (hy : y < 18446744073709551616) (h : (64 : Int) - (Lib.bitLen y : Int) = (s : Int)) : Calls Try.prog 57 #[.int .u64 (y : Int)] w fun e w' => e = .returned (.int .i64 (s : Int)) ∧ w = w' :=
  (Try.bits_LeadingZeros64 _ _ (by omega) (by omega)).mono fun _ _ ⟨he, hw⟩ => ⟨by rw [he]; simpa using h, hw.symm⟩

/-- What is left of u * 2^32 + d when q times Y is taken off, modulo 2^64. -/
theorem left_named (Y u d q v : Nat) (hv : q * Y + v = u * 4294967296 + d) (hvY : v < Y) (hY : Y < 18446744073709551616) :
    ∃ U V M : Nat, IntKind.u64.wrap ((u : Int) * 4294967296) = (U : Int) ∧ IntKind.u64.wrap ((U : Int) + (d : Int)) = (V : Int) ∧ IntKind.u64.wrap ((q : Int) * (Y : Int)) = (M : Int) ∧ IntKind.u64.wrap ((V : Int) - (M : Int)) = (v : Int) ∧ U < 18446744073709551616 ∧ V < 18446744073709551616 ∧ M < 18446744073709551616 := by
  have e : (q : Int) * (Y : Int) = ((q * Y : Nat) : Int) := by simp
  generalize q * Y = p at *
  refine ⟨u * 4294967296 % 18446744073709551616, (u * 4294967296 % 18446744073709551616 + d) % 18446744073709551616, p % 18446744073709551616, ?_, ?_, ?_, ?_, Nat.mod_lt _ (by omega), Nat.mod_lt _ (by omega), Nat.mod_lt _ (by omega)⟩
  · rw [IntKind.wrap_u64]; omega
  · rw [IntKind.wrap_u64]; omega
  · rw [e, IntKind.wrap_u64]; omega
  · rw [IntKind.wrap_u64]; omega

set_option maxRecDepth 100000 in
set_option maxHeartbeats 4000000 in
theorem div_any (hi lo y : Nat) (w : World) (hy : y < 18446744073709551616) (hlo : lo < 18446744073709551616) (h : hi < y) (h0 : 0 < hi) :
    Calls Try.prog 51 #[.int .u64 (hi : Int), .int .u64 (lo : Int), .int .u64 (y : Int)] w fun e w' => e = .returned (.tuple #[.int .u64 (((hi * 18446744073709551616 + lo) / y : Nat) : Int), .int .u64 (((hi * 18446744073709551616 + lo) % y : Nat) : Int)]) ∧ w = w' := by
  have a0 : ((y : Int) == 0) = false := by simp; omega
  have a1 : decide ((y : Int) ≤ (hi : Int)) = false := by simp; omega
  have a1' : decide (y ≤ hi) = false := by simp; omega
  have a2 : ((hi : Int) == 0) = false := by simp; omega
  obtain ⟨s, k, Y, y1, y0, H, l, u, L, d1, d0, q, m, r, N⟩ := named hi lo y hy hlo h
  obtain ⟨sk, k1, lz, wY, dY, aY, wH, sub, dl, ou, wL, dL, aL, qu, mq, rm, Yy, Y10, by1, ly1, by0, bd1, bd0, bL, bH, bl, uY, all, qr, qlo, qhi, rlt, bm⟩ := N
  have HL := Lib.hid lz
  have HY := Lib.hid Yy
  have H10 := Lib.hid Y10
  have HA := Lib.hid all
  have HQ := Lib.hid qr
  have HO := Lib.hid qlo
  have HS := Lib.hid sk
  have g1 : s ≤ 63 := by omega
  have g2 : 0 < y1 := by omega
  have g3 : (0 : Int) < (y1 : Int) := by omega
  have g4 : ((y1 : Int) == 0) = false := by simp; omega
  have g5 : u < 18446744073709551616 := by omega
  have g6 : Y < 18446744073709551616 := by omega
  clear lz Yy Y10 all qr qlo sk
  go_enter Try.func51, Try.ntmps51
  go_wp2_with fail
  refine (lz_any y s _ hy HL.out).mono ?_
  rintro e w' ⟨rfl, rfl⟩
  go_upto_block 0 with fail
  go_cut [15] (fun s15 wx => ∃ Q : Nat, s15 = .int .u64 (Q : Int) ∧ Q = (u * 4294967296 + d1) / (y1 * 4294967296 + y0) ∧ w = wx)
  case first =>
    go_wp2_with fail
    go_loop [15, 16] (fun a b => ∃ x z : Nat, a = .int .u64 (x : Int) ∧ b = .int .u64 (z : Int) ∧ Hid (x * y1 + z = u) ∧ Hid ((u * 4294967296 + d1) / (y1 * 4294967296 + y0) ≤ x) ∧ x ≤ 8589934592 ∧ z < 4294967296) (fun a _ => (intOf a).toNat)
    case atStart => exact ⟨_, _, rfl, rfl, HQ, HO, qhi, rlt⟩
    case round =>
      obtain ⟨x, z, rfl, rfl, hx, hz, hx2, hz2⟩ := hrel
      by_cases hb : 4294967296 ≤ x
      · have dx : decide ((4294967296 : Int) ≤ (x : Int)) = true := by simp; omega
        obtain ⟨x', hx'⟩ : ∃ x', x = x' + 1 := ⟨x - 1, by omega⟩
        have hnew : x' * y1 + (z + y1) = u := by rw [← hx.out, hx', Nat.add_mul]; omega
        have hle : (u * 4294967296 + d1) / (y1 * 4294967296 + y0) ≤ x' := by have := q_lt y1 y0 u d1 (by rw [← H10.out]; omega) (by omega); omega
        have HN := Lib.hid hnew
        have HE := Lib.hid hle
        have ex : (x : Int) - 1 = (x' : Int) := by omega
        have ez : (z : Int) + (y1 : Int) = ((z + y1 : Nat) : Int) := by omega
        obtain ⟨zz, hzz⟩ : ∃ zz, zz = z + y1 := ⟨_, rfl⟩
        rw [← hzz] at ez
        have HZZ := Lib.hid hzz
        have hzb : zz < 8589934592 := by omega
        have hxx : x' < x := by omega
        clear hzz hnew hle hx hz hx'
        by_cases hc : 4294967296 ≤ zz
        · have dz : decide ((4294967296 : Int) ≤ (zz : Int)) = true := by simp; omega
          go_wp2_with fail
          go_meet
          refine ⟨_, rfl, Nat.le_antisymm (q_break y1 y0 u d1 x' (z + y1) (by omega) by0 (by rw [← H10.out]; omega) HN.out (by rw [← HZZ.out]; exact hc)) HE.out, rfl⟩
        · have dz : decide ((4294967296 : Int) ≤ (zz : Int)) = false := by simp; omega
          go_wp2_with fail
          go_round
          case rel => exact ⟨x', zz, rfl, rfl, by rw [HZZ.out]; exact HN, HE, by omega, by omega⟩
          case measure => simp [intOf]; omega
      · have dx : decide ((4294967296 : Int) ≤ (x : Int)) = false := by simp; omega
        have ep : (x : Int) * (y0 : Int) = ((x * y0 : Nat) : Int) := by simp
        have ec : (4294967296 : Int) * (z : Int) + (d1 : Int) = ((4294967296 * z + d1 : Nat) : Int) := by omega
        have hpb : x * y0 ≤ 4294967295 * 4294967295 := Nat.mul_le_mul (by omega) (by omega)
        obtain ⟨pp, hpp⟩ : ∃ pp, pp = x * y0 := ⟨_, rfl⟩
        obtain ⟨cc, hcc⟩ : ∃ cc, cc = 4294967296 * z + d1 := ⟨_, rfl⟩
        have hcb : cc < 18446744073709551616 := by omega
        rw [← hpp] at ep hpb
        rw [← hcc] at ec
        have HPP := Lib.hid hpp
        have HCC := Lib.hid hcc
        clear hpp hcc
        by_cases ht : cc < pp
        · have dt : decide ((cc : Int) < (pp : Int)) = true := by simp; omega
          have dt' : decide (cc < pp) = true := by simp; omega
          have hq := q_above y1 y0 u d1 x z hx.out (by rw [← HCC.out, ← HPP.out]; exact ht)
          have hx1 : 1 ≤ x := Nat.lt_of_le_of_lt (Nat.zero_le _) hq
          obtain ⟨x', hx'⟩ : ∃ x', x = x' + 1 := ⟨x - 1, by omega⟩
          have hnew : x' * y1 + (z + y1) = u := by rw [← hx.out, hx', Nat.add_mul]; omega
          have hle : (u * 4294967296 + d1) / (y1 * 4294967296 + y0) ≤ x' := Nat.le_of_lt_succ (by rw [hx'] at hq; exact hq)
          clear hq
          have HN := Lib.hid hnew
          have HE := Lib.hid hle
          have ex : (x : Int) - 1 = (x' : Int) := by omega
          have ez : (z : Int) + (y1 : Int) = ((z + y1 : Nat) : Int) := by omega
          obtain ⟨zz, hzz⟩ : ∃ zz, zz = z + y1 := ⟨_, rfl⟩
          rw [← hzz] at ez
          have HZZ := Lib.hid hzz
          have hzb : zz < 8589934592 := by omega
          have hxx : x' < x := by omega
          clear hzz hnew hle hx hz hx'
          by_cases hc : 4294967296 ≤ zz
          · have dz : decide ((4294967296 : Int) ≤ (zz : Int)) = true := by simp; omega
            go_wp2_with fail
            go_meet
            refine ⟨_, rfl, Nat.le_antisymm (q_break y1 y0 u d1 x' (z + y1) (by omega) by0 (by rw [← H10.out]; omega) HN.out (by rw [← HZZ.out]; exact hc)) HE.out, rfl⟩
          · have dz : decide ((4294967296 : Int) ≤ (zz : Int)) = false := by simp; omega
            go_wp2_with fail
            go_round
            case rel => exact ⟨x', zz, rfl, rfl, by rw [HZZ.out]; exact HN, HE, by omega, by omega⟩
            case measure => simp [intOf]; omega
        · have dt : decide ((cc : Int) < (pp : Int)) = false := by simp; omega
          have dt' : decide (cc < pp) = false := by simp; omega
          have hq := Nat.le_antisymm (q_below y1 y0 u d1 x z (by omega) hx.out (by rw [← HCC.out, ← HPP.out]; omega)) hz.out
          have HF := Lib.hid hq
          clear hq hx hz
          go_wp2_with fail
          go_meet
          exact ⟨_, rfl, HF.out, rfl⟩
  case rest =>
    obtain ⟨Q, rfl, hQ, rfl⟩ := hcut
    have hQY : Q * Y + (u * 4294967296 + d1) % Y = u * 4294967296 + d1 := q_left Y u d1 Q (by rw [H10.out]; exact hQ)
    have hQb : Q < 4294967296 := by rw [hQ]; exact q_lt y1 y0 u d1 (by rw [← H10.out]; exact uY) bd1
    obtain ⟨v, hv⟩ : ∃ v, v = (u * 4294967296 + d1) % Y := ⟨_, rfl⟩
    have hvY : v < Y := by rw [hv]; exact Nat.mod_lt _ (by omega)
    rw [← hv] at hQY
    obtain ⟨U1, V1, M1, n1, n2, n3, n4, n5, n6, n7⟩ := left_named Y u d1 Q v hQY hvY g6
    have hv64 : v < 18446744073709551616 := by omega
    obtain ⟨q', hq'⟩ : ∃ q', q' = v / y1 := ⟨_, rfl⟩
    obtain ⟨r', hr'⟩ : ∃ r', r' = v % y1 := ⟨_, rfl⟩
    obtain ⟨m', hm'⟩ : ∃ m', m' = q' * y1 := ⟨_, rfl⟩
    have hdm : q' * y1 + r' = v := by rw [hq', hr', Nat.mul_comm]; exact Nat.div_add_mod _ _
    have rlt2 : r' < 4294967296 := by rw [hr']; have := Nat.mod_lt v g2; omega
    have qhi2 : q' ≤ 8589934592 := by rw [hq']; exact Nat.le_of_lt_succ (Nat.div_lt_of_lt_mul (by omega))
    have hlo2 : (v * 4294967296 + d0) / (y1 * 4294967296 + y0) ≤ q' := by rw [hq']; exact q_start y1 y0 v d0 g2 bd0
    have bm2 : m' < 18446744073709551616 := by omega
    have qu2 : (v : Int) / (y1 : Int) = (q' : Int) := by rw [hq']; exact (Int.natCast_ediv _ _).symm
    have mq2 : (q' : Int) * (y1 : Int) = (m' : Int) := by rw [hm']; exact (Int.natCast_mul _ _).symm
    have rm2 : (v : Int) - (m' : Int) = (r' : Int) := by omega
    have HQ2 := Lib.hid hdm
    have HO2 := Lib.hid hlo2
    have HE1 := Lib.hid hQY
    clear hQ hv hq' hr' hm' hdm hlo2 hQY
    go_upto_block 2 with fail
    go_cut [18] (fun s18 wx => ∃ Q : Nat, s18 = .int .u64 (Q : Int) ∧ Q = (v * 4294967296 + d0) / (y1 * 4294967296 + y0) ∧ w = wx)
    case first =>
      go_wp2_with fail
      go_loop [18, 16] (fun a b => ∃ x z : Nat, a = .int .u64 (x : Int) ∧ b = .int .u64 (z : Int) ∧ Hid (x * y1 + z = v) ∧ Hid ((v * 4294967296 + d0) / (y1 * 4294967296 + y0) ≤ x) ∧ x ≤ 8589934592 ∧ z < 4294967296) (fun a _ => (intOf a).toNat)
      case atStart => exact ⟨_, _, rfl, rfl, HQ2, HO2, qhi2, rlt2⟩
      case round =>
        obtain ⟨x, z, rfl, rfl, hx, hz, hx2, hz2⟩ := hrel
        by_cases hb : 4294967296 ≤ x
        · have dx : decide ((4294967296 : Int) ≤ (x : Int)) = true := by simp; omega
          obtain ⟨x', hx'⟩ : ∃ x', x = x' + 1 := ⟨x - 1, by omega⟩
          have hnew : x' * y1 + (z + y1) = v := by rw [← hx.out, hx', Nat.add_mul]; omega
          have hle : (v * 4294967296 + d0) / (y1 * 4294967296 + y0) ≤ x' := by have := q_lt y1 y0 v d0 (by rw [← H10.out]; omega) (by omega); omega
          have HN := Lib.hid hnew
          have HE := Lib.hid hle
          have ex : (x : Int) - 1 = (x' : Int) := by omega
          have ez : (z : Int) + (y1 : Int) = ((z + y1 : Nat) : Int) := by omega
          obtain ⟨zz, hzz⟩ : ∃ zz, zz = z + y1 := ⟨_, rfl⟩
          rw [← hzz] at ez
          have HZZ := Lib.hid hzz
          have hzb : zz < 8589934592 := by omega
          have hxx : x' < x := by omega
          clear hzz hnew hle hx hz hx'
          by_cases hc : 4294967296 ≤ zz
          · have dz : decide ((4294967296 : Int) ≤ (zz : Int)) = true := by simp; omega
            go_wp2_with fail
            go_meet
            refine ⟨_, rfl, Nat.le_antisymm (q_break y1 y0 v d0 x' (z + y1) (by omega) by0 (by rw [← H10.out]; omega) HN.out (by rw [← HZZ.out]; exact hc)) HE.out, rfl⟩
          · have dz : decide ((4294967296 : Int) ≤ (zz : Int)) = false := by simp; omega
            go_wp2_with fail
            go_round
            case rel => exact ⟨x', zz, rfl, rfl, by rw [HZZ.out]; exact HN, HE, by omega, by omega⟩
            case measure => simp [intOf]; omega
        · have dx : decide ((4294967296 : Int) ≤ (x : Int)) = false := by simp; omega
          have ep : (x : Int) * (y0 : Int) = ((x * y0 : Nat) : Int) := by simp
          have ec : (4294967296 : Int) * (z : Int) + (d0 : Int) = ((4294967296 * z + d0 : Nat) : Int) := by omega
          have hpb : x * y0 ≤ 4294967295 * 4294967295 := Nat.mul_le_mul (by omega) (by omega)
          obtain ⟨pp, hpp⟩ : ∃ pp, pp = x * y0 := ⟨_, rfl⟩
          obtain ⟨cc, hcc⟩ : ∃ cc, cc = 4294967296 * z + d0 := ⟨_, rfl⟩
          have hcb : cc < 18446744073709551616 := by omega
          rw [← hpp] at ep hpb
          rw [← hcc] at ec
          have HPP := Lib.hid hpp
          have HCC := Lib.hid hcc
          clear hpp hcc
          by_cases ht : cc < pp
          · have dt : decide ((cc : Int) < (pp : Int)) = true := by simp; omega
            have dt' : decide (cc < pp) = true := by simp; omega
            have hq := q_above y1 y0 v d0 x z hx.out (by rw [← HCC.out, ← HPP.out]; exact ht)
            have hx1 : 1 ≤ x := Nat.lt_of_le_of_lt (Nat.zero_le _) hq
            obtain ⟨x', hx'⟩ : ∃ x', x = x' + 1 := ⟨x - 1, by omega⟩
            have hnew : x' * y1 + (z + y1) = v := by rw [← hx.out, hx', Nat.add_mul]; omega
            have hle : (v * 4294967296 + d0) / (y1 * 4294967296 + y0) ≤ x' := Nat.le_of_lt_succ (by rw [hx'] at hq; exact hq)
            clear hq
            have HN := Lib.hid hnew
            have HE := Lib.hid hle
            have ex : (x : Int) - 1 = (x' : Int) := by omega
            have ez : (z : Int) + (y1 : Int) = ((z + y1 : Nat) : Int) := by omega
            obtain ⟨zz, hzz⟩ : ∃ zz, zz = z + y1 := ⟨_, rfl⟩
            rw [← hzz] at ez
            have HZZ := Lib.hid hzz
            have hzb : zz < 8589934592 := by omega
            have hxx : x' < x := by omega
            clear hzz hnew hle hx hz hx'
            by_cases hc : 4294967296 ≤ zz
            · have dz : decide ((4294967296 : Int) ≤ (zz : Int)) = true := by simp; omega
              go_wp2_with fail
              go_meet
              refine ⟨_, rfl, Nat.le_antisymm (q_break y1 y0 v d0 x' (z + y1) (by omega) by0 (by rw [← H10.out]; omega) HN.out (by rw [← HZZ.out]; exact hc)) HE.out, rfl⟩
            · have dz : decide ((4294967296 : Int) ≤ (zz : Int)) = false := by simp; omega
              go_wp2_with fail
              go_round
              case rel => exact ⟨x', zz, rfl, rfl, by rw [HZZ.out]; exact HN, HE, by omega, by omega⟩
              case measure => simp [intOf]; omega
          · have dt : decide ((cc : Int) < (pp : Int)) = false := by simp; omega
            have dt' : decide (cc < pp) = false := by simp; omega
            have hq := Nat.le_antisymm (q_below y1 y0 v d0 x z (by omega) hx.out (by rw [← HCC.out, ← HPP.out]; omega)) hz.out
            have HF := Lib.hid hq
            clear hq hx hz
            go_wp2_with fail
            go_meet
            exact ⟨_, rfl, HF.out, rfl⟩
    case rest =>
      obtain ⟨Q0, rfl, hQ0, rfl⟩ := hcut
      have hQY0 : Q0 * Y + (v * 4294967296 + d0) % Y = v * 4294967296 + d0 := q_left Y v d0 Q0 (by rw [H10.out]; exact hQ0)
      have hQb0 : Q0 < 4294967296 := by rw [hQ0]; exact q_lt y1 y0 v d0 (by rw [← H10.out]; exact hvY) bd0
      obtain ⟨x, hx⟩ : ∃ x, x = (v * 4294967296 + d0) % Y := ⟨_, rfl⟩
      have hxY : x < Y := by rw [hx]; exact Nat.mod_lt _ (by omega)
      rw [← hx] at hQY0
      obtain ⟨U2, V2, M2, o1, o2, o3, o4, o5, o6, o7⟩ := left_named Y v d0 Q0 x hQY0 hxY g6
      have ht := two_digits Y u d1 d0 Q Q0 v x hxY HE1.out hQY0
      rw [← HA.out, HY.out] at ht
      obtain ⟨ht1, ht2⟩ := ht
      have hsc := scaled (hi * 18446744073709551616 + lo) y (2 ^ s) (Nat.two_pow_pos s)
      rw [hsc.1] at ht1
      rw [hsc.2] at ht2
      obtain ⟨R, hR⟩ : ∃ R, R = (hi * 18446744073709551616 + lo) % y := ⟨_, rfl⟩
      rw [← hR] at ht2
      have hs2 : (x : Int) / 2 ^ s = (R : Int) := by
        rw [← ht2]
        have e : ((R * 2 ^ s : Nat) : Int) = (R : Int) * 2 ^ s := by simp
        rw [e]
        exact Int.mul_ediv_cancel _ (by have := Nat.two_pow_pos s; have e3 : ((2 ^ s : Nat) : Int) = (2 : Int) ^ s := by simp
                                        omega)
      have hx64 : x < 18446744073709551616 := by omega
      have HT := Lib.hid ht1
      have HR := Lib.hid hR
      clear hQ0 hx hQY0 ht1 ht2 hsc hR
      go_wp2_with fail
      go_ret2
      refine ⟨?_, rfl⟩
      rw [← HR.out, HT.out]
      simp

end Go.Proofs.Ytmjbdjcpjaeemaa
