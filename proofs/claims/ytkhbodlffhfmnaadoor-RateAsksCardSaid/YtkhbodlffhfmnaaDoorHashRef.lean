/-
  What the document's own Mix, Back, Of and In answer: the same numbers; no memory turns.
-/
import Derived.Test.YtkhbodlffhfmnaaDoorHashOf
namespace Go.Proofs.YtkhbodlffhfmnaaDoor
open Go.RowKit Go.Proofs.HashMath

set_option maxRecDepth 100000 in
set_option maxHeartbeats 1000000 in
theorem refStir_any (x d : Nat) (w : World) (hx : x < 18446744073709551616) (hd : d ≤ 63) :
    Calls Tryd.prog 59 #[.int .u64 (x : Int), .int .i64 (d : Int)] w fun e w' => e = .returned (.int .u64 (stir d x : Int)) ∧ w = w' := by
  obtain ⟨y, hy, hy', hyl⟩ := xor_part (d := d) hx
  rw [← hy']
  clear hy'
  go_enter Tryd.func59, Tryd.ntmps59
  go_wp2
  go_ret
  exact ⟨rfl, rfl⟩

set_option maxRecDepth 100000 in
set_option maxHeartbeats 1000000 in
theorem refMix_any (x : Nat) (w : World) (hx : x < 18446744073709551616) :
    Calls Tryd.prog 57 #[.int .u64 (x : Int)] w fun e w' => e = .returned (.int .u64 (mix x : Int)) ∧ w = w' := by
  obtain ⟨y, hy, hyl⟩ : ∃ y, stir 30 x = y ∧ y < 18446744073709551616 := ⟨_, rfl, stir_lt _ hx⟩
  obtain ⟨a, ha0, ha', hal⟩ := mul_name 13787848793156543929 y
  have ha : IntKind.u64.wrap ((y : Int) * 13787848793156543929) = (a : Int) := ha0
  obtain ⟨z, hz, hzl⟩ : ∃ z, stir 27 a = z ∧ z < 18446744073709551616 := ⟨_, rfl, stir_lt _ hal⟩
  obtain ⟨b, hb0, hb', hbl⟩ := mul_name 10723151780598845931 z
  have hb : IntKind.u64.wrap ((z : Int) * 10723151780598845931) = (b : Int) := hb0
  have p0 : ∀ W, Calls Tryd.prog 59 #[.int .u64 (x : Int), .int .i64 30] W fun e w' => e = .returned (.int .u64 ((stir 30 x : Nat) : Int)) ∧ W = w' := fun W => refStir_any x 30 W hx (by omega)
  have p1 : ∀ W, Calls Tryd.prog 59 #[.int .u64 (a : Int), .int .i64 27] W fun e w' => e = .returned (.int .u64 ((stir 27 a : Nat) : Int)) ∧ W = w' := fun W => refStir_any a 27 W hal (by omega)
  have p2 : ∀ W, Calls Tryd.prog 59 #[.int .u64 (b : Int), .int .i64 31] W fun e w' => e = .returned (.int .u64 ((stir 31 b : Nat) : Int)) ∧ W = w' := fun W => refStir_any b 31 W hbl (by omega)
  have e : mix x = stir 31 b := by rw [hb', ← hz, ha', ← hy]; rfl
  rw [e]
  rw [hy] at p0
  rw [hz] at p1
  obtain ⟨r, hr⟩ : ∃ r, stir 31 b = r := ⟨_, rfl⟩
  rw [hr] at p2 ⊢
  have P0 := Lib.hid p0
  have P1 := Lib.hid p1
  have P2 := Lib.hid p2
  clear hr e p0 p1 p2 hy hz ha' hb' ha0 hb0
  go_enter Tryd.func57, Tryd.ntmps57
  go_wp2_with fail
  refine (P0.out _).mono ?_
  rintro e w' ⟨rfl, rfl⟩
  go_wp2_with fail
  refine (P1.out _).mono ?_
  rintro e w' ⟨rfl, rfl⟩
  go_wp2_with fail
  refine (P2.out _).mono ?_
  rintro e w' ⟨rfl, rfl⟩
  go_wp2_with fail
  go_ret
  exact ⟨rfl, rfl⟩

set_option maxRecDepth 100000 in
set_option maxHeartbeats 1000000 in
theorem refOf_any (seed : Nat) (s : ByteArray) (w : World) (hx : seed < 18446744073709551616) (hs : s.size ≤ 9223372036854775807) :
    Calls Tryd.prog 54 #[.int .u64 (seed : Int), .string s] w fun e w' => e = .returned (.int .u64 (ofText seed s.data.toList : Int)) ∧ w = w' := by
  obtain ⟨cs, hcs⟩ : ∃ cs, s.data.toList = cs := ⟨_, rfl⟩
  have hl : cs.length = s.size := by rw [← hcs]; simp
  have hat : ∀ i (h : i < s.size), s[i] = cs.getD i 0 := fun i h => by
    rw [← hcs, List.getD_eq_getElem?_getD, List.getElem?_eq_getElem (by rw [size_list]; exact h)]; rfl
  rw [hcs]
  obtain ⟨n, hn⟩ : ∃ n, s.size = n := ⟨_, rfl⟩
  rw [hn] at hl hs
  have HL := Lib.hid hl
  have HA := Lib.hid hat
  obtain ⟨m, hm, hml⟩ : ∃ m, mix seed = m ∧ m < 18446744073709551616 := ⟨_, rfl, mix_lt hx⟩
  have hM := refMix_any seed w hx
  rw [hm] at hM
  have hF : ∀ k, k < n → folds m (cs.take (k + 1)) = times 1099511628211 (folds m (cs.take k) ^^^ (cs.getD k 0).toNat) := fun k hk => folds_next (by rw [hl]; exact hk)
  have HF := Lib.hid hF
  have hO : ofText seed cs = mix (folds m cs ^^^ n) := by unfold ofText; rw [hm, hl]
  rw [hO]
  obtain ⟨r, hr⟩ : ∃ r, mix (folds m cs ^^^ n) = r := ⟨_, rfl⟩
  have HR := Lib.hid hr
  rw [hr]
  clear hr hO hF hm hcs hl hat
  go_enter Tryd.func54, Tryd.ntmps54
  go_wp2_with fail
  refine hM.mono ?_
  rintro e w1 ⟨rfl, rfl⟩
  go_wp2_with fail
  go_loopw [5, 6] (fun xv kv wr => ∃ k q : Nat, k ≤ n ∧ kv = .int .i64 (k : Int) ∧ xv = .int .u64 (q : Int) ∧ q < 18446744073709551616 ∧ Hid (q = folds m (cs.take k)) ∧ wr = w) (fun _ kv _ => n - (intOf kv).toNat)
  case atStart => exact ⟨0, m, by omega, rfl, rfl, hml, by simp [Hid, folds], rfl⟩
  case round =>
    obtain ⟨k, q, hk, rfl, rfl, hq, HQ, rfl⟩ := hrel
    by_cases hlt : k < n
    · have hi2 : k < s.size := by omega
      have hx := HA.out k hi2
      obtain ⟨c, hc⟩ : ∃ c, cs.getD k 0 = c := ⟨_, rfl⟩
      rw [hc] at hx
      have hcc : ∀ hh : k < s.size, s[k]'hh = c := fun _ => hx
      have hc0 := c.toNat_lt
      obtain ⟨y, hy, hy', hyl⟩ := xor_two hq (b := c.toNat) (by omega)
      obtain ⟨z, hz0, hz', hzl⟩ := mul_name 1099511628211 y
      have hz : IntKind.u64.wrap ((y : Int) * 1099511628211) = (z : Int) := hz0
      clear hz0
      have hnx : z = folds m (cs.take (k + 1)) := by rw [HF.out k hlt, hc, ← HQ.out, ← hy', hz']
      have HN := Lib.hid hnx
      have dl : decide ((k : Int) < (n : Int)) = true := by simp; omega
      clear hnx hc hy' hz' HQ
      go_wp2
      go_roundw
      case rel => exact ⟨k + 1, z, by omega, by go_num, rfl, hzl, HN, by trivial⟩
      case measure => simp [intOf]; omega
    · obtain rfl : k = n := by omega
      obtain ⟨y, hy, hy', hyl⟩ := xor_two hq (b := k) (by omega)
      have hM2 := refMix_any y wr hyl
      have e : mix y = r := by rw [← HR.out, hy', HQ.out, List.take_of_length_le (by rw [HL.out]; omega)]
      rw [e] at hM2
      clear e hy' HQ HR
      go_wp2_with fail
      refine hM2.mono ?_
      rintro e w2 ⟨rfl, rfl⟩
      go_wp2_with fail
      go_ret
      exact ⟨rfl, rfl⟩

set_option maxRecDepth 100000 in
set_option maxHeartbeats 1000000 in
theorem refIn_any (seed : Nat) (s : ByteArray) (n : Int) (w : World) (hx : seed < 18446744073709551616) (hs : s.size ≤ 9223372036854775807) (hn0 : -9223372036854775808 ≤ n) (hn1 : n ≤ 9223372036854775807) :
    Calls Tryd.prog 50 #[.int .u64 (seed : Int), .string s, .int .i64 n] w fun e w' => e = .returned (.int .i64 (inText seed s.data.toList n : Int)) ∧ w = w' := by
  by_cases h : n < 1
  · rw [in_no h]
    have d1 : decide (n < 1) = true := by simp; omega
    go_enter Tryd.func50, Tryd.ntmps50
    go_wp2_with fail
    go_ret
    exact ⟨rfl, rfl⟩
  · obtain ⟨m, rfl⟩ : ∃ m : Nat, n = m := ⟨n.toNat, by omega⟩
    rw [in_yes h]
    have hO := refOf_any seed s w hx hs
    obtain ⟨o, ho, hol⟩ : ∃ o, ofText seed s.data.toList = o ∧ o < 18446744073709551616 := ⟨_, rfl, of_lt _ _⟩
    rw [ho] at hO ⊢
    rw [Int.toNat_natCast]
    obtain ⟨r, hr, hrl⟩ : ∃ r, o % m = r ∧ r < m := ⟨_, rfl, Nat.mod_lt _ (by omega)⟩
    have e1 : (o : Int) % (m : Int) = (r : Int) := by rw [← hr]; simp
    rw [hr]
    have d1 : decide ((m : Int) < 1) = false := by simp; omega
    clear hr ho
    go_enter Tryd.func50, Tryd.ntmps50
    go_wp2_with fail
    refine hO.mono ?_
    rintro e w1 ⟨rfl, rfl⟩
    go_wp2_with fail
    go_ret
    exact ⟨rfl, rfl⟩
end Go.Proofs.YtkhbodlffhfmnaaDoor
