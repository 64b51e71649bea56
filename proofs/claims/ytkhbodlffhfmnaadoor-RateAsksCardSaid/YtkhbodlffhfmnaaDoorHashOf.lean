/-
  What hash's Of and In do, whatever the text: the number of the bytes; nothing that lay has turned.
-/
import Derived.Test.YtkhbodlffhfmnaaDoorHashMix
import Derived.Test.YtkhbodlffhfmnaaDoorBytes0
namespace Go.Proofs.YtkhbodlffhfmnaaDoor
open Go.RowKit Go.Proofs.HashMath

set_option maxRecDepth 100000 in
set_option maxHeartbeats 1000000 in
theorem of_any (seed : Nat) (s : ByteArray) (w : World) (hS : Steps w) (hx : seed < 18446744073709551616) (hs : s.size ≤ 9223372036854775807) :
    Calls Tryd.prog 56 #[.int .u64 (seed : Int), .string s] w fun e w' => e = .returned (.int .u64 (ofText seed s.data.toList : Int)) ∧ Below w.heap.size w w' := by
  obtain ⟨cs, hcs⟩ : ∃ cs, s.data.toList = cs := ⟨_, rfl⟩
  have hl : cs.length = s.size := by rw [← hcs]; simp
  have hat : ∀ i (h : i < s.size), s[i] = cs.getD i 0 := fun i h => by
    rw [← hcs, List.getD_eq_getElem?_getD, List.getElem?_eq_getElem (by rw [size_list]; exact h)]; rfl
  rw [hcs]
  obtain ⟨n, hn⟩ : ∃ n, s.size = n := ⟨_, rfl⟩
  rw [hn] at hl hs
  have HL := Lib.hid hl
  have HA := Lib.hid hat
  obtain ⟨m, hm, hml⟩ : ∃ m, mix seed = m ∧ m < 18446744073709551616 := ⟨_, rfl, mix_lt hx⟩
  have hM := mix_any seed w hS hx
  rw [hm] at hM
  have hF : ∀ k, k < n → folds m (cs.take (k + 1)) = times 1099511628211 (folds m (cs.take k) ^^^ (cs.getD k 0).toNat) := fun k hk => folds_next (by rw [hl]; exact hk)
  have HF := Lib.hid hF
  have hO : ofText seed cs = mix (folds m cs ^^^ n) := by unfold ofText; rw [hm, hl]
  rw [hO]
  obtain ⟨r, hr⟩ : ∃ r, mix (folds m cs ^^^ n) = r := ⟨_, rfl⟩
  have HR := Lib.hid hr
  rw [hr]
  clear hr hO hF hm hcs hl hat
  go_enter Tryd.func56, Tryd.ntmps56
  go_wp2_with fail
  refine hM.mono ?_
  rintro e w1 ⟨rfl, hb⟩
  go_wp2_with fail
  go_loopw [5, 11] (fun xv kv wr => ∃ k q : Nat, k ≤ n ∧ kv = .int .i64 (k : Int) ∧ xv = .int .u64 (q : Int) ∧ q < 18446744073709551616 ∧ Hid (q = folds m (cs.take k)) ∧ wr = w1) (fun _ kv _ => n - (intOf kv).toNat)
  case atStart => exact ⟨0, m, by omega, rfl, rfl, hml, by simp [Hid, folds], rfl⟩
  case round =>
    obtain ⟨k, q, hk, rfl, rfl, hq, HQ, rfl⟩ := hrel
    by_cases hlt : k < n
    · have hi2 : k < s.size := by omega
      have hx := HA.out k hi2
      obtain ⟨c, hc⟩ : ∃ c, cs.getD k 0 = c := ⟨_, rfl⟩
      rw [hc] at hx
      have hcc : ∀ hh : k < s.size, s[k]'hh = c := fun _ => hx
      have hc0 := c.toNat_lt
      obtain ⟨y, hy, hy', hyl⟩ := xor_two hq (b := c.toNat) (by omega)
      obtain ⟨z, hz0, hz', hzl⟩ := mul_name 1099511628211 y
      have hz : IntKind.u64.wrap ((y : Int) * 1099511628211) = (z : Int) := hz0
      clear hz0
      have hnx : z = folds m (cs.take (k + 1)) := by rw [HF.out k hlt, hc, ← HQ.out, ← hy', hz']
      have HN := Lib.hid hnx
      have dl : decide ((k : Int) < (n : Int)) = true := by simp; omega
      clear hnx hc hy' hz' HQ
      go_wp2
      go_roundw
      case rel => exact ⟨k + 1, z, by omega, by go_num, rfl, hzl, HN, by trivial⟩
      case measure => simp [intOf]; omega
    · obtain rfl : k = n := by omega
      obtain ⟨y, hy, hy', hyl⟩ := xor_two hq (b := k) (by omega)
      have hM2 := mix_any y _ (hS.later hb) hyl
      have e : mix y = r := by rw [← HR.out, hy', HQ.out, List.take_of_length_le (by rw [HL.out]; omega)]
      rw [e] at hM2
      clear e hy' HQ HR
      go_wp2_with fail
      refine hM2.mono ?_
      rintro e w2 ⟨rfl, hb2⟩
      go_wp2_with fail
      go_ret
      exact ⟨rfl, hb.trans (hb2.mono hb.size)⟩

def inText (seed : Nat) (cs : List UInt8) (n : Int) : Nat := if n < 1 then 0 else ofText seed cs % n.toNat
theorem in_no {seed : Nat} {cs : List UInt8} {n : Int} (h : n < 1) : inText seed cs n = 0 := if_pos h
theorem in_yes {seed : Nat} {cs : List UInt8} {n : Int} (h : ¬ n < 1) : inText seed cs n = ofText seed cs % n.toNat := if_neg h

set_option maxRecDepth 100000 in
set_option maxHeartbeats 1000000 in
theorem in_any (seed : Nat) (s : ByteArray) (n : Int) (w : World) (hS : Steps w) (hx : seed < 18446744073709551616) (hs : s.size ≤ 9223372036854775807) (hn0 : -9223372036854775808 ≤ n) (hn1 : n ≤ 9223372036854775807) :
    Calls Tryd.prog 53 #[.int .u64 (seed : Int), .string s, .int .i64 n] w fun e w' => e = .returned (.int .i64 (inText seed s.data.toList n : Int)) ∧ Below w.heap.size w w' := by
  by_cases h : n < 1
  · rw [in_no h]
    have d1 : decide (n < 1) = true := by simp; omega
    go_enter Tryd.func53, Tryd.ntmps53
    go_wp2_with fail
    go_ret
    exact ⟨rfl, Below.refl _ _⟩
  · obtain ⟨m, rfl⟩ : ∃ m : Nat, n = m := ⟨n.toNat, by omega⟩
    rw [in_yes h]
    have hO := of_any seed s w hS hx hs
    obtain ⟨o, ho, hol⟩ : ∃ o, ofText seed s.data.toList = o ∧ o < 18446744073709551616 := ⟨_, rfl, of_lt _ _⟩
    rw [ho] at hO ⊢
    rw [Int.toNat_natCast]
    obtain ⟨r, hr, hrl⟩ : ∃ r, o % m = r ∧ r < m := ⟨_, rfl, Nat.mod_lt _ (by omega)⟩
    have e1 : (o : Int) % (m : Int) = (r : Int) := by rw [← hr]; simp
    rw [hr]
    have d1 : decide ((m : Int) < 1) = false := by simp; omega
    clear hr ho
    go_enter Tryd.func53, Tryd.ntmps53
    go_wp2_with fail
    refine hO.mono ?_
    rintro e w1 ⟨rfl, hb⟩
    go_wp2_with fail
    go_ret
    exact ⟨rfl, hb⟩
end Go.Proofs.YtkhbodlffhfmnaaDoor
