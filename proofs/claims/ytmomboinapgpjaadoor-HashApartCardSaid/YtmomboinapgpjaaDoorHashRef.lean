/-
  What the document's own Mix, Back, Of and In answer: the same numbers; no memory turns.
-/
import Derived.Test.YtmomboinapgpjaaDoorHashOf
namespace Go.Proofs.YtmomboinapgpjaaDoor
open Go.RowKit Go.Proofs.HashMath

set_option maxRecDepth 100000 in
set_option maxHeartbeats 1000000 in
theorem refStir_any (x d : Nat) (w : World) (hx : x < 18446744073709551616) (hd : d ≤ 63) :
    Calls Tryd.prog 18 #[.int .u64 (x : Int), .int .i64 (d : Int)] w fun e w' => e = .returned (.int .u64 (stir d x : Int)) ∧ w = w' := by
  obtain ⟨y, hy, hy', hyl⟩ := xor_part (d := d) hx
  rw [← hy']
  clear hy'
  go_enter Tryd.func18, Tryd.ntmps18
  go_wp2
  go_ret
  exact ⟨rfl, rfl⟩

set_option maxRecDepth 100000 in
set_option maxHeartbeats 1000000 in
theorem refMix_any (x : Nat) (w : World) (hx : x < 18446744073709551616) :
    Calls Tryd.prog 10 #[.int .u64 (x : Int)] w fun e w' => e = .returned (.int .u64 (mix x : Int)) ∧ w = w' := by
  obtain ⟨y, hy, hyl⟩ : ∃ y, stir 30 x = y ∧ y < 18446744073709551616 := ⟨_, rfl, stir_lt _ hx⟩
  obtain ⟨a, ha0, ha', hal⟩ := mul_name 13787848793156543929 y
  have ha : IntKind.u64.wrap ((y : Int) * 13787848793156543929) = (a : Int) := ha0
  obtain ⟨z, hz, hzl⟩ : ∃ z, stir 27 a = z ∧ z < 18446744073709551616 := ⟨_, rfl, stir_lt _ hal⟩
  obtain ⟨b, hb0, hb', hbl⟩ := mul_name 10723151780598845931 z
  have hb : IntKind.u64.wrap ((z : Int) * 10723151780598845931) = (b : Int) := hb0
  have p0 : ∀ W, Calls Tryd.prog 18 #[.int .u64 (x : Int), .int .i64 30] W fun e w' => e = .returned (.int .u64 ((stir 30 x : Nat) : Int)) ∧ W = w' := fun W => refStir_any x 30 W hx (by omega)
  have p1 : ∀ W, Calls Tryd.prog 18 #[.int .u64 (a : Int), .int .i64 27] W fun e w' => e = .returned (.int .u64 ((stir 27 a : Nat) : Int)) ∧ W = w' := fun W => refStir_any a 27 W hal (by omega)
  have p2 : ∀ W, Calls Tryd.prog 18 #[.int .u64 (b : Int), .int .i64 31] W fun e w' => e = .returned (.int .u64 ((stir 31 b : Nat) : Int)) ∧ W = w' := fun W => refStir_any b 31 W hbl (by omega)
  have e : mix x = stir 31 b := by rw [hb', ← hz, ha', ← hy]; rfl
  rw [e]
  rw [hy] at p0
  rw [hz] at p1
  obtain ⟨r, hr⟩ : ∃ r, stir 31 b = r := ⟨_, rfl⟩
  rw [hr] at p2 ⊢
  have P0 := Lib.hid p0
  have P1 := Lib.hid p1
  have P2 := Lib.hid p2
  clear hr e p0 p1 p2 hy hz ha' hb' ha0 hb0
  go_enter Tryd.func10, Tryd.ntmps10
  go_wp2_with fail
  refine (P0.out _).mono ?_
  rintro e w' ⟨rfl, rfl⟩
  go_wp2_with fail
  refine (P1.out _).mono ?_
  rintro e w' ⟨rfl, rfl⟩
  go_wp2_with fail
  refine (P2.out _).mono ?_
  rintro e w' ⟨rfl, rfl⟩
  go_wp2_with fail
  go_ret
  exact ⟨rfl, rfl⟩

theorem bit_name (x i : Nat) : x / 2 ^ i % 2 = (x.testBit i).toNat := by
  rw [Nat.toNat_testBit]
theorem and_bit {a : Nat} (ha : a < 18446744073709551616) : bits .and .u64 (a : Int) 1 = ((a % 2 : Nat) : Int) := by
  have := u64_and_nat a 1 ha (by omega)
  rw [Nat.and_one_is_mod] at this
  exact this
theorem or_two {a b : Nat} (ha : a < 18446744073709551616) (hb : b < 18446744073709551616) : ∃ y : Nat, bits .or .u64 (a : Int) (b : Int) = (y : Int) ∧ y = a ||| b ∧ y < 18446744073709551616 :=
  ⟨_, u64_or_nat a b ha hb, rfl, Nat.or_lt_two_pow (n := 64) ha hb⟩
theorem shl_bit {d i : Nat} (hd : d ≤ 1) (hi : i ≤ 63) : ∃ f : Nat, IntKind.u64.wrap ((d : Int) * 2 ^ i) = (f : Int) ∧ f = d * 2 ^ i ∧ f < 18446744073709551616 := by
  have h1 : 2 ^ i ≤ 2 ^ 63 := Nat.pow_le_pow_right (by omega) hi
  have h2 : d * 2 ^ i ≤ 1 * 2 ^ i := Nat.mul_le_mul_right _ hd
  have h3 : d * 2 ^ i < 18446744073709551616 := by omega
  refine ⟨d * 2 ^ i, ?_, rfl, h3⟩
  rw [IntKind.wrap_u64, show (d : Int) * 2 ^ i = ((d * 2 ^ i : Nat) : Int) by simp]
  omega
theorem xor_bits (a b : Bool) : a.toNat ^^^ b.toNat = (a ^^ b).toNat := by cases a <;> cases b <;> rfl
theorem bit_le (b : Bool) : b.toNat ≤ 1 := by cases b <;> simp

set_option maxRecDepth 100000 in
set_option maxHeartbeats 1000000 in
theorem refWhole_any (x s : Nat) (w : World) (hx : x < 18446744073709551616) (hs : 22 ≤ s) (hs2 : s ≤ 31) :
    Calls Tryd.prog 20 #[.int .u64 (x : Int), .int .i64 (s : Int)] w fun e w' => e = .returned (.int .u64 (unstir s x : Int)) ∧ w = w' := by
  obtain ⟨r, hr⟩ : ∃ r, unstir s x = r := ⟨_, rfl⟩
  have HR := Lib.hid hr
  rw [hr]
  clear hr
  go_enter Tryd.func20, Tryd.ntmps20
  go_wp2
  go_loopw [5, 6] (fun ov iv wr => ∃ (z : Int) (q : Nat), -1 ≤ z ∧ z ≤ 63 ∧ iv = .int .i64 z ∧ ov = .int .u64 (q : Int) ∧ q < 18446744073709551616 ∧ Hid (∀ j : Nat, q.testBit j = (decide (z < (j : Int)) && r.testBit j)) ∧ wr = w) (fun _ iv _ => (intOf iv + 1).toNat)
  case atStart => exact ⟨63, 0, by omega, by omega, rfl, rfl, by omega, fun j => by
    have hb : 63 < j → r.testBit j = false := fun h => by rw [← HR.out]; exact bit_out (unstir_lt _ hx) (by omega)
    by_cases h : 63 < j
    · simp [hb h]
    · simp; omega, rfl⟩
  case round =>
    obtain ⟨z, q, hz1, hz2, rfl, rfl, hq, HQ, rfl⟩ := hrel
    by_cases h0 : 0 ≤ z
    · obtain ⟨i, rfl⟩ : ∃ i : Nat, z = i := ⟨z.toNat, by omega⟩
      have hi : i ≤ 63 := by omega
      obtain ⟨t, ht⟩ : ∃ t : Nat, (i : Int) + (s : Int) = (t : Int) := ⟨i + s, by simp⟩
      obtain ⟨a, ha⟩ : ∃ a : Nat, (x : Int) / 2 ^ i = (a : Int) := ⟨x / 2 ^ i, by simp⟩
      have hal : a < 18446744073709551616 := by
        have h1 : a = x / 2 ^ i := by
          have : ((x / 2 ^ i : Nat) : Int) = (a : Int) := by rw [← ha]; simp
          omega
        rw [h1]; exact Nat.lt_of_le_of_lt (Nat.div_le_self _ _) hx
      have ha2 : a % 2 = (x.testBit i).toNat := by
        have h1 : x / 2 ^ i = a := by
          have : ((x / 2 ^ i : Nat) : Int) = (a : Int) := by rw [← ha]; simp
          omega
        rw [← h1, bit_name]
      have hb := and_bit hal
      rw [ha2] at hb
      obtain ⟨b, hb'⟩ : ∃ b, (x.testBit i).toNat = b := ⟨_, rfl⟩
      have hbl : b ≤ 1 := by rw [← hb']; exact bit_le _
      rw [hb'] at hb
      have step : ∀ d : Nat, d = (x.testBit i ^^ q.testBit (i + s)).toNat → ∀ j : Nat, (q ||| d * 2 ^ i).testBit j = (decide ((i : Int) - 1 < (j : Int)) && r.testBit j) := fun d hd j => by
        have h := unstir_step (s := s) (x := x) (o := q) (d := d) (i := i) hs hx (fun j => by rw [HR.out, HQ.out]; simp) hd j
        rw [HR.out] at h
        rw [h]
        congr 1
        simp
        omega
      have hti : t = i + s := by omega
      by_cases ht6 : (t : Int) < 64
      · obtain ⟨g, hg⟩ : ∃ g : Nat, (q : Int) / 2 ^ t = (g : Int) := ⟨q / 2 ^ t, by simp⟩
        have hg1 : q / 2 ^ t = g := by
          have : ((q / 2 ^ t : Nat) : Int) = (g : Int) := by rw [← hg]; simp
          omega
        have hgl : g < 18446744073709551616 := by rw [← hg1]; exact Nat.lt_of_le_of_lt (Nat.div_le_self _ _) hq
        have hc := and_bit hgl
        rw [show g % 2 = (q.testBit (i + s)).toNat by rw [← hg1, bit_name, hti]] at hc
        obtain ⟨c, hc'⟩ : ∃ c, (q.testBit (i + s)).toNat = c := ⟨_, rfl⟩
        have hcl : c ≤ 1 := by rw [← hc']; exact bit_le _
        rw [hc'] at hc
        obtain ⟨d, hd, hd', _⟩ := xor_two (a := b) (b := c) (by omega) (by omega)
        have hdd : d = (x.testBit i ^^ q.testBit (i + s)).toNat := by rw [hd', ← hb', ← hc', xor_bits]
        have hdl : d ≤ 1 := by rw [hdd]; exact bit_le _
        obtain ⟨f, hf, hf', hfl⟩ := shl_bit hdl hi
        obtain ⟨o, ho, ho', hol⟩ := or_two hq hfl
        have HN : Hid (∀ j : Nat, o.testBit j = (decide ((i : Int) - 1 < (j : Int)) && r.testBit j)) := Lib.hid (fun j => by rw [ho', hf']; exact step d hdd j)
        clear step hdd hd' hf' ho' hc' hb' hg1 hti HQ ha2
        go_wp2
        go_roundw
        case rel => exact ⟨(i : Int) - 1, o, by omega, by omega, rfl, rfl, hol, HN, by trivial⟩
        case measure => simp [intOf]
      · have hdd : b = (x.testBit i ^^ q.testBit (i + s)).toNat := by
          rw [bit_out hq (show 64 ≤ i + s by omega), Bool.xor_false, hb']
        obtain ⟨f, hf, hf', hfl⟩ := shl_bit hbl hi
        obtain ⟨o, ho, ho', hol⟩ := or_two hq hfl
        have HN : Hid (∀ j : Nat, o.testBit j = (decide ((i : Int) - 1 < (j : Int)) && r.testBit j)) := Lib.hid (fun j => by rw [ho', hf']; exact step b hdd j)
        clear step hdd hf' ho' hb' hti HQ ha2
        go_wp2
        go_roundw
        case rel => exact ⟨(i : Int) - 1, o, by omega, by omega, rfl, rfl, hol, HN, by trivial⟩
        case measure => simp [intOf]
    · have hz : z = -1 := by omega
      have hqr : q = r := Nat.eq_of_testBit_eq fun j => by
        rw [HQ.out, hz]
        simp
        omega
      subst hz hqr
      clear HQ HR
      go_wp2
      go_ret
      exact ⟨rfl, rfl⟩

def oneOf (k : Nat) : Nat := if k = 0 then 1 else 0
set_option maxRecDepth 100000 in
theorem refOne_any (k : Nat) (w : World) :
    Calls Tryd.prog 22 #[.int .i64 (k : Int)] w fun e w' => e = .returned (.int .u64 (oneOf k : Int)) ∧ w = w' := by
  by_cases h : k = 0
  · subst h
    go_enter Tryd.func22, Tryd.ntmps22
    go_wp2
    go_ret
    exact ⟨rfl, rfl⟩
  · have e : oneOf k = 0 := if_neg h
    rw [e]
    have d1 : ((k : Int) == 0) = false := by simp; omega
    go_enter Tryd.func22, Tryd.ntmps22
    go_wp2
    go_ret
    exact ⟨rfl, rfl⟩

set_option maxRecDepth 100000 in
set_option maxHeartbeats 1000000 in
theorem refInverse_any (n : Nat) (w : World) :
    Calls Tryd.prog 21 #[.int .u64 (n : Int)] w fun e w' => e = .returned (.int .u64 (invs n 64 : Int)) ∧ w = w' := by
  obtain ⟨r, hr⟩ : ∃ r, invs n 64 = r := ⟨_, rfl⟩
  have HR := Lib.hid hr
  rw [hr]
  clear hr
  go_enter Tryd.func21, Tryd.ntmps21
  go_wp2
  go_loopw [3, 4] (fun ov iv wr => ∃ k q : Nat, k ≤ 64 ∧ iv = .int .i64 (k : Int) ∧ ov = .int .u64 (q : Int) ∧ q < 18446744073709551616 ∧ Hid (q = invs n k) ∧ wr = w) (fun _ iv _ => 64 - (intOf iv).toNat)
  case atStart => exact ⟨0, 0, by omega, rfl, rfl, by omega, rfl, rfl⟩
  case round =>
    obtain ⟨k, q, hk, rfl, rfl, hq, HQ, rfl⟩ := hrel
    by_cases hlt : k < 64
    · have dl : decide ((k : Int) < 64) = true := by simp; omega
      have hk6 : k ≤ 63 := by omega
      obtain ⟨m, hm, hm', hml⟩ := mul_name n q
      obtain ⟨g, hg⟩ : ∃ g : Nat, (m : Int) / 2 ^ k = (g : Int) := ⟨m / 2 ^ k, by simp⟩
      have hg1 : m / 2 ^ k = g := by
        have : ((m / 2 ^ k : Nat) : Int) = (g : Int) := by rw [← hg]; simp
        omega
      have hgl : g < 18446744073709551616 := by rw [← hg1]; exact Nat.lt_of_le_of_lt (Nat.div_le_self _ _) hml
      have hb := and_bit hgl
      obtain ⟨b, hb'⟩ : ∃ b, g % 2 = b := ⟨_, rfl⟩
      rw [hb'] at hb
      obtain ⟨o, ho⟩ : ∃ o, oneOf k = o := ⟨_, rfl⟩
      have hO := fun W => refOne_any k W
      rw [ho] at hO
      have HO := Lib.hid hO
      have hq2 : q * n % 18446744073709551616 / 2 ^ k % 2 = b := by rw [← hb', ← hg1, hm']; rfl
      have hst : invs n (k + 1) = if b ≠ o then q ||| 2 ^ k else q := by
        show invStep n k (invs n k) = _
        rw [← HQ.out, ← ho]
        unfold invStep
        rw [hq2]
        rfl
      by_cases hbo : b = o
      · have HN : Hid (q = invs n (k + 1)) := Lib.hid (by rw [hst, if_neg (by simpa using hbo)])
        have e1 : ((b : Int) == (o : Int)) = true := by simp; omega
        clear hst hq2 ho hO hb' hg1 hm' HQ
        go_wp2_with fail
        refine (HO.out _).mono ?_
        rintro e w' ⟨rfl, rfl⟩
        go_wp2_with fail
        go_roundw
        case rel => exact ⟨k + 1, q, by omega, by go_num, rfl, hq, HN, by trivial⟩
        case measure => simp [intOf]; omega
      · have e1 : ((b : Int) == (o : Int)) = false := by simp; omega
        obtain ⟨f, hf, hf', hfl⟩ := shl_bit (d := 1) (by omega) hk6
        have hf2 : IntKind.u64.wrap (2 ^ k) = (f : Int) := by rw [← hf]; simp
        obtain ⟨y, hy, hy', hyl⟩ := or_two hq hfl
        have HN : Hid (y = invs n (k + 1)) := Lib.hid (by rw [hst, if_pos hbo, hy', hf', Nat.one_mul])
        clear hst hq2 ho hO hb' hg1 hm' HQ hbo hf' hy'
        go_wp2_with fail
        refine (HO.out _).mono ?_
        rintro e w' ⟨rfl, rfl⟩
        go_wp2_with fail
        go_roundw
        case rel => exact ⟨k + 1, y, by omega, by go_num, rfl, hyl, HN, by trivial⟩
        case measure => simp [intOf]; omega
    · obtain rfl : k = 64 := by omega
      have e : q = r := by rw [HQ.out, HR.out]
      subst e
      clear HQ HR
      go_wp2
      go_ret
      exact ⟨rfl, rfl⟩

theorem inverse_1 : ∀ W, Calls Tryd.prog 21 #[.int .u64 13787848793156543929] W fun e w' => e = .returned (.int .u64 10871156337175269513) ∧ W = w' := fun W => by
  have h := refInverse_any 13787848793156543929 W
  rw [inv1] at h
  exact h
theorem inverse_2 : ∀ W, Calls Tryd.prog 21 #[.int .u64 10723151780598845931] W fun e w' => e = .returned (.int .u64 3573116690164977347) ∧ W = w' := fun W => by
  have h := refInverse_any 10723151780598845931 W
  rw [inv2] at h
  exact h

set_option maxRecDepth 100000 in
set_option maxHeartbeats 1000000 in
theorem refBack_any (x : Nat) (w : World) (hx : x < 18446744073709551616) :
    Calls Tryd.prog 12 #[.int .u64 (x : Int)] w fun e w' => e = .returned (.int .u64 (back x : Int)) ∧ w = w' := by
  obtain ⟨y, hy, hyl⟩ : ∃ y, unstir 31 x = y ∧ y < 18446744073709551616 := ⟨_, rfl, unstir_lt _ hx⟩
  obtain ⟨a, ha0, ha', hal⟩ := mul_name 3573116690164977347 y
  have ha : IntKind.u64.wrap ((y : Int) * 3573116690164977347) = (a : Int) := ha0
  obtain ⟨z, hz, hzl⟩ : ∃ z, unstir 27 a = z ∧ z < 18446744073709551616 := ⟨_, rfl, unstir_lt _ hal⟩
  obtain ⟨b, hb0, hb', hbl⟩ := mul_name 10871156337175269513 z
  have hb : IntKind.u64.wrap ((z : Int) * 10871156337175269513) = (b : Int) := hb0
  have p0 : ∀ W, Calls Tryd.prog 20 #[.int .u64 (x : Int), .int .i64 31] W fun e w' => e = .returned (.int .u64 ((unstir 31 x : Nat) : Int)) ∧ W = w' := fun W => refWhole_any x 31 W hx (by omega) (by omega)
  have p1 : ∀ W, Calls Tryd.prog 20 #[.int .u64 (a : Int), .int .i64 27] W fun e w' => e = .returned (.int .u64 ((unstir 27 a : Nat) : Int)) ∧ W = w' := fun W => refWhole_any a 27 W hal (by omega) (by omega)
  have p2 : ∀ W, Calls Tryd.prog 20 #[.int .u64 (b : Int), .int .i64 30] W fun e w' => e = .returned (.int .u64 ((unstir 30 b : Nat) : Int)) ∧ W = w' := fun W => refWhole_any b 30 W hbl (by omega) (by omega)
  have e : back x = unstir 30 b := by rw [hb', ← hz, ha', ← hy]; rfl
  rw [e]
  rw [hy] at p0
  rw [hz] at p1
  obtain ⟨r, hr⟩ : ∃ r, unstir 30 b = r := ⟨_, rfl⟩
  rw [hr] at p2 ⊢
  have P0 := Lib.hid p0
  have P1 := Lib.hid p1
  have P2 := Lib.hid p2
  clear hr e p0 p1 p2 hy hz ha' hb' ha0 hb0
  go_enter Tryd.func12, Tryd.ntmps12
  go_wp2_with fail
  refine (P0.out _).mono ?_
  rintro e w' ⟨rfl, rfl⟩
  go_wp2_with fail
  refine (inverse_2 _).mono ?_
  rintro e w' ⟨rfl, rfl⟩
  go_wp2_with fail
  refine (P1.out _).mono ?_
  rintro e w' ⟨rfl, rfl⟩
  go_wp2_with fail
  refine (inverse_1 _).mono ?_
  rintro e w' ⟨rfl, rfl⟩
  go_wp2_with fail
  refine (P2.out _).mono ?_
  rintro e w' ⟨rfl, rfl⟩
  go_wp2_with fail
  go_ret
  exact ⟨rfl, rfl⟩

set_option maxRecDepth 100000 in
set_option maxHeartbeats 1000000 in
theorem refOf_any (seed : Nat) (s : ByteArray) (w : World) (hx : seed < 18446744073709551616) (hs : s.size ≤ 9223372036854775807) :
    Calls Tryd.prog 14 #[.int .u64 (seed : Int), .string s] w fun e w' => e = .returned (.int .u64 (ofText seed s.data.toList : Int)) ∧ w = w' := by
  obtain ⟨cs, hcs⟩ : ∃ cs, s.data.toList = cs := ⟨_, rfl⟩
  have hl : cs.length = s.size := by rw [← hcs]; simp
  have hat : ∀ i (h : i < s.size), s[i] = cs.getD i 0 := fun i h => by
    rw [← hcs, List.getD_eq_getElem?_getD, List.getElem?_eq_getElem (by rw [size_list]; exact h)]; rfl
  rw [hcs]
  obtain ⟨n, hn⟩ : ∃ n, s.size = n := ⟨_, rfl⟩
  rw [hn] at hl hs
  have HL := Lib.hid hl
  have HA := Lib.hid hat
  obtain ⟨m, hm, hml⟩ : ∃ m, mix seed = m ∧ m < 18446744073709551616 := ⟨_, rfl, mix_lt hx⟩
  have hM := refMix_any seed w hx
  rw [hm] at hM
  have hF : ∀ k, k < n → folds m (cs.take (k + 1)) = times 1099511628211 (folds m (cs.take k) ^^^ (cs.getD k 0).toNat) := fun k hk => folds_next (by rw [hl]; exact hk)
  have HF := Lib.hid hF
  have hO : ofText seed cs = mix (folds m cs ^^^ n) := by unfold ofText; rw [hm, hl]
  rw [hO]
  obtain ⟨r, hr⟩ : ∃ r, mix (folds m cs ^^^ n) = r := ⟨_, rfl⟩
  have HR := Lib.hid hr
  rw [hr]
  clear hr hO hF hm hcs hl hat
  go_enter Tryd.func14, Tryd.ntmps14
  go_wp2_with fail
  refine hM.mono ?_
  rintro e w1 ⟨rfl, rfl⟩
  go_wp2_with fail
  go_loopw [5, 6] (fun xv kv wr => ∃ k q : Nat, k ≤ n ∧ kv = .int .i64 (k : Int) ∧ xv = .int .u64 (q : Int) ∧ q < 18446744073709551616 ∧ Hid (q = folds m (cs.take k)) ∧ wr = w) (fun _ kv _ => n - (intOf kv).toNat)
  case atStart => exact ⟨0, m, by omega, rfl, rfl, hml, by simp [Hid, folds], rfl⟩
  case round =>
    obtain ⟨k, q, hk, rfl, rfl, hq, HQ, rfl⟩ := hrel
    by_cases hlt : k < n
    · have hi2 : k < s.size := by omega
      have hx := HA.out k hi2
      obtain ⟨c, hc⟩ : ∃ c, cs.getD k 0 = c := ⟨_, rfl⟩
      rw [hc] at hx
      have hcc : ∀ hh : k < s.size, s[k]'hh = c := fun _ => hx
      have hc0 := c.toNat_lt
      obtain ⟨y, hy, hy', hyl⟩ := xor_two hq (b := c.toNat) (by omega)
      obtain ⟨z, hz0, hz', hzl⟩ := mul_name 1099511628211 y
      have hz : IntKind.u64.wrap ((y : Int) * 1099511628211) = (z : Int) := hz0
      clear hz0
      have hnx : z = folds m (cs.take (k + 1)) := by rw [HF.out k hlt, hc, ← HQ.out, ← hy', hz']
      have HN := Lib.hid hnx
      have dl : decide ((k : Int) < (n : Int)) = true := by simp; omega
      clear hnx hc hy' hz' HQ
      go_wp2
      go_roundw
      case rel => exact ⟨k + 1, z, by omega, by go_num, rfl, hzl, HN, by trivial⟩
      case measure => simp [intOf]; omega
    · obtain rfl : k = n := by omega
      obtain ⟨y, hy, hy', hyl⟩ := xor_two hq (b := k) (by omega)
      have hM2 := refMix_any y wr hyl
      have e : mix y = r := by rw [← HR.out, hy', HQ.out, List.take_of_length_le (by rw [HL.out]; omega)]
      rw [e] at hM2
      clear e hy' HQ HR
      go_wp2_with fail
      refine hM2.mono ?_
      rintro e w2 ⟨rfl, rfl⟩
      go_wp2_with fail
      go_ret
      exact ⟨rfl, rfl⟩

set_option maxRecDepth 100000 in
set_option maxHeartbeats 1000000 in
theorem refIn_any (seed : Nat) (s : ByteArray) (n : Int) (w : World) (hx : seed < 18446744073709551616) (hs : s.size ≤ 9223372036854775807) (hn0 : -9223372036854775808 ≤ n) (hn1 : n ≤ 9223372036854775807) :
    Calls Tryd.prog 16 #[.int .u64 (seed : Int), .string s, .int .i64 n] w fun e w' => e = .returned (.int .i64 (inText seed s.data.toList n : Int)) ∧ w = w' := by
  by_cases h : n < 1
  · rw [in_no h]
    have d1 : decide (n < 1) = true := by simp; omega
    go_enter Tryd.func16, Tryd.ntmps16
    go_wp2_with fail
    go_ret
    exact ⟨rfl, rfl⟩
  · obtain ⟨m, rfl⟩ : ∃ m : Nat, n = m := ⟨n.toNat, by omega⟩
    rw [in_yes h]
    have hO := refOf_any seed s w hx hs
    obtain ⟨o, ho, hol⟩ : ∃ o, ofText seed s.data.toList = o ∧ o < 18446744073709551616 := ⟨_, rfl, of_lt _ _⟩
    rw [ho] at hO ⊢
    rw [Int.toNat_natCast]
    obtain ⟨r, hr, hrl⟩ : ∃ r, o % m = r ∧ r < m := ⟨_, rfl, Nat.mod_lt _ (by omega)⟩
    have e1 : (o : Int) % (m : Int) = (r : Int) := by rw [← hr]; simp
    rw [hr]
    have d1 : decide ((m : Int) < 1) = false := by simp; omega
    clear hr ho
    go_enter Tryd.func16, Tryd.ntmps16
    go_wp2_with fail
    refine hO.mono ?_
    rintro e w1 ⟨rfl, rfl⟩
    go_wp2_with fail
    go_ret
    exact ⟨rfl, rfl⟩
end Go.Proofs.YtmomboinapgpjaaDoor
