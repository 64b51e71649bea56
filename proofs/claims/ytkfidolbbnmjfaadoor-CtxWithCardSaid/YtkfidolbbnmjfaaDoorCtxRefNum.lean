/-
  The document's own digits of layer 4 (telemeterref04): digit, hex, digits; and what a parent is.
-/
import Derived.Test.YtkfidolbbnmjfaaDoorCtxNum
namespace Go.Proofs.YtkfidolbbnmjfaaDoor
open Go.RowKit Go.Proofs.CtxMath

def isPar (hi lo sp : Nat) : Bool := decide ((hi ≠ 0 ∨ lo ≠ 0) ∧ sp ≠ 0)
set_option maxRecDepth 100000 in
set_option maxHeartbeats 1000000 in
theorem isParent_any (hi lo sp fl : Nat) (w : World) (b : Bool) (hb : isPar hi lo sp = b) :
    Calls Tryd.prog 28 #[.agg #[.int .u64 (hi : Int), .int .u64 (lo : Int), .int .u64 (sp : Int), .int .u8 (fl : Int)]] w fun e w' => e = .returned (.bool b) ∧ Below w.heap.size w w' := by
  obtain ⟨x, hx⟩ : ∃ x, ((hi : Int) != 0) = x := ⟨_, rfl⟩
  obtain ⟨y, hy⟩ : ∃ y, ((lo : Int) != 0) = y := ⟨_, rfl⟩
  obtain ⟨z, hz⟩ : ∃ z, ((sp : Int) != 0) = z := ⟨_, rfl⟩
  have e : b = ((x || y) && z) := by
    rw [← hb, ← hx, ← hy, ← hz]
    unfold isPar
    rw [Bool.eq_iff_iff]
    simp
  subst e
  clear hb
  cases x <;> cases y <;> cases z <;> (go_enter Tryd.func28, Tryd.ntmps28; go_wp2_with fail; go_ret; exact ⟨rfl, (Below.refl _ _).alloc (Nat.le_refl _) _⟩)

theorem unhex_hexd : ∀ i : Fin 16, unhex (hexd i.val) = some i.val := by decide
theorem hexd_unhex : ∀ c : Fin 256, (match unhex (UInt8.ofNat c.val) with | some d => decide (hexd d = UInt8.ofNat c.val) | none => true) = true := by decide +kernel
theorem hexd_of {c : UInt8} {d : Nat} (h : unhex c = some d) : hexd d = c := by
  have := hexd_unhex ⟨c.toNat, c.toNat_lt⟩
  have e1 : UInt8.ofNat c.toNat = c := by simp
  rw [e1, h] at this
  simpa using this
def digV (o : Option Nat) : Int := match o with | some d => (d : Int) | none => -1

set_option maxRecDepth 100000 in
set_option maxHeartbeats 1000000 in
theorem refDigit_any (c : UInt8) (w : World) : Calls Tryd.prog 62 #[.int .u8 (c.toNat : Int)] w fun e w' => e = .returned (.int .i64 (digV (unhex c))) ∧ w = w' := by
  obtain ⟨P, hP⟩ : ∃ P, digV (unhex c) = P := ⟨_, rfl⟩
  rw [hP]
  have HP := Lib.hid hP
  clear hP
  go_enter Tryd.func62, Tryd.ntmps62
  go_wp2_with fail
  go_loopw [3] (fun iv wr => ∃ i : Nat, i ≤ 16 ∧ iv = .int .i64 (i : Int) ∧ Hid (∀ j, j < i → hexd j ≠ c) ∧ wr = w) (fun iv _ => 16 - (intOf iv).toNat)
  case atStart => exact ⟨0, by omega, rfl, Lib.hid (fun j hj => by omega), rfl⟩
  case round =>
    obtain ⟨i, hi, rfl, hN, rfl⟩ := hrel
    by_cases hlt : i < 16
    · have dl : decide ((i : Int) < 16) = true := by simp; omega
      obtain ⟨q, hq⟩ : ∃ q, hexd i = q := ⟨_, rfl⟩
      have hx : ∀ hh : i < 16, (⟨#[48, 49, 50, 51, 52, 53, 54, 55, 56, 57, 97, 98, 99, 100, 101, 102]⟩ : ByteArray)[i]'hh = q := fun hh => by rw [← hq]; exact hex_sign ⟨i, hh⟩
      by_cases he : q = c
      · have ed : ((q.toNat : Int) == (c.toNat : Int)) = true := by rw [he]; simp
        have hp : P = (i : Int) := by
          rw [← HP.out, ← he, ← hq]
          have := unhex_hexd ⟨i, hlt⟩
          rw [this]; rfl
        subst hp
        clear hN HP he hq
        generalize c.toNat = cn at *
        go_wp2_with fail
        go_ret
        exact ⟨rfl, rfl⟩
      · have ed : ((q.toNat : Int) == (c.toNat : Int)) = false := by
          rw [beq_eq_false_iff_ne]
          intro h
          exact he (UInt8.toNat_inj.1 (by omega))
        have HN : Hid (∀ j, j < i + 1 → hexd j ≠ c) := Lib.hid (fun j hj => by
          rcases Nat.lt_or_ge j i with h | h
          · exact hN.out j h
          · have : j = i := by omega
            subst this
            rw [hq]; exact he)
        clear hN he hq
        generalize c.toNat = cn at *
        go_wp2_with fail
        go_roundw
        case rel => exact ⟨i + 1, by omega, by go_num, HN, by trivial⟩
        case measure => simp [intOf]; omega
    · have dl : decide ((i : Int) < 16) = false := by simp; omega
      obtain rfl : i = 16 := by omega
      have hp : P = -1 := by
        rw [← HP.out]
        cases hu : unhex c with
        | none => rfl
        | some d => exact absurd (hexd_of hu) (hN.out d (unhex_lt hu))
      subst hp
      clear hN HP
      go_wp2_with fail
      go_ret
      exact ⟨rfl, rfl⟩

set_option maxRecDepth 100000 in
set_option maxHeartbeats 2000000 in
theorem refHex_any (s : ByteArray) (w : World) (hs : s.size ≤ 9223372036854775807) : Calls Tryd.prog 42 #[.string s] w fun e w' => e = .returned (numV (hexNum s.data.toList)) ∧ w = w' := by
  obtain ⟨cs, hcs⟩ : ∃ cs, s.data.toList = cs := ⟨_, rfl⟩
  have hl : cs.length = s.size := by rw [← hcs]; simp
  have hat : ∀ i (h : i < s.size), s[i] = cs.getD i 0 := fun i h => by
    rw [← hcs, List.getD_eq_getElem?_getD, List.getElem?_eq_getElem (by rw [size_list]; exact h)]; rfl
  rw [hcs]
  obtain ⟨P, hP⟩ : ∃ P, hexNum cs = P := ⟨_, rfl⟩
  rw [hP]
  have HP := Lib.hid hP
  obtain ⟨n, hn⟩ : ∃ n, s.size = n := ⟨_, rfl⟩
  rw [hn] at hl hs
  have HL := Lib.hid hl
  have HA := Lib.hid hat
  clear hcs hl hP hat
  go_enter Tryd.func42, Tryd.ntmps42
  go_wp2_with fail
  go_loopw [4, 5] (fun a b wr => ∃ v k : Nat, k ≤ n ∧ a = .int .u64 (v : Int) ∧ b = .int .i64 (k : Int) ∧ v < 18446744073709551616 ∧ Hid (hexNum cs = hexOn (cs.drop k) v) ∧ wr = w) (fun _ b _ => n - (intOf b).toNat)
  case atStart => exact ⟨0, 0, by omega, rfl, rfl, by omega, by simp [Hid, hexNum], rfl⟩
  case round =>
    obtain ⟨v, k, hk, rfl, rfl, hv, hR, rfl⟩ := hrel
    by_cases hlt : k < n
    · have dl : decide ((k : Int) < (n : Int)) = true := by simp; omega
      have dl' : decide (k < n) = true := by simp; omega
      have hi2 : k < s.size := by omega
      have hx := HA.out k hi2
      obtain ⟨c, hc⟩ : ∃ c, cs.getD k 0 = c := ⟨_, rfl⟩
      rw [hc] at hx
      have hcc : ∀ hh : k < s.size, s[k]'hh = c := fun _ => hx
      have hc0 := c.toNat_lt
      have hkl : k < cs.length := by rw [HL.out]; exact hlt
      have hI := fun W => refDigit_any c W
      cases hu : unhex c with
      | none =>
        have hno := hexOn_none (v := v) hkl hc hu
        have hpn : P = none := by rw [← HP.out, hR.out, hno]
        rw [hu] at hI
        have hI' : ∀ W, Calls Tryd.prog 62 #[.int .u8 (c.toNat : Int)] W fun e w' => e = .returned (.int .i64 (-1)) ∧ W = w' := hI
        subst hpn
        have HI := Lib.hid hI'
        clear hI hI' hno hR HP hu hc hkl hv
        go_wp2_with fail
        refine (HI.out _).mono ?_
        rintro e w' ⟨rfl, rfl⟩
        go_wp2_with fail
        go_ret2
        exact ⟨rfl, rfl⟩
      | some d =>
        have hyes := hexOn_some (v := v) hkl hc hu
        have hd := unhex_lt hu
        rw [hu] at hI
        have hI' : ∀ W, Calls Tryd.prog 62 #[.int .u8 (c.toNat : Int)] W fun e w' => e = .returned (.int .i64 (d : Int)) ∧ W = w' := hI
        obtain ⟨a, ha, ha'⟩ : ∃ a : Nat, IntKind.u64.wrap (16 * (v : Int)) = (a : Int) ∧ a = v * 16 % 18446744073709551616 := ⟨v * 16 % 18446744073709551616, by rw [IntKind.wrap_u64]; omega, rfl⟩
        obtain ⟨b, hb, hb'⟩ : ∃ b : Nat, IntKind.u64.wrap ((a : Int) + (d : Int)) = (b : Int) ∧ b = (v * 16 + d) % 18446744073709551616 := ⟨(v * 16 + d) % 18446744073709551616, by rw [IntKind.wrap_u64, ha']; omega, rfl⟩
        have hR2 : hexNum cs = hexOn (cs.drop (k + 1)) b := by rw [hR.out, hyes, hb']
        have hbl : b < 18446744073709551616 := by rw [hb']; exact Nat.mod_lt _ (by omega)
        have HI := Lib.hid hI'
        have HR2 := Lib.hid hR2
        clear hI hI' hyes hR hu hc hkl hR2 ha' hb'
        go_wp2_with fail
        refine (HI.out _).mono ?_
        rintro e w' ⟨rfl, rfl⟩
        go_wp2_with fail
        go_roundw
        case rel => exact ⟨b, k + 1, by omega, rfl, by go_num, hbl, HR2, by trivial⟩
        case measure => simp [intOf]; omega
    · have dl : decide ((k : Int) < (n : Int)) = false := by simp; omega
      have dl' : decide (k < n) = false := by simp; omega
      obtain rfl : k = n := by omega
      have hpn : P = some v := by rw [← HP.out, hR.out, List.drop_of_length_le (by rw [HL.out]; omega)]; rfl
      subst hpn
      clear hR HP
      go_wp2_with fail
      go_ret2
      exact ⟨rfl, rfl⟩

theorem last_next (n i : Nat) (hi : i < 16) : last n (i + 1) = hexd (dig n (15 - i)) :: last n i := by
  refine List.ext_getElem? fun j => ?_
  cases j with
  | zero =>
    rw [List.getElem?_eq_getElem (by rw [last_len n (i + 1) (by omega)]; omega)]
    have := last_get n (i + 1) 0 (by omega) (by omega)
    rw [List.getD_eq_getElem?_getD, List.getElem?_eq_getElem (by rw [last_len n (i + 1) (by omega)]; omega), Option.getD_some, show 16 - (i + 1) + 0 = 15 - i by omega] at this
    rw [this]; rfl
  | succ j =>
    rw [List.getElem?_cons_succ]
    by_cases h : j < i
    · rw [List.getElem?_eq_getElem (by rw [last_len n (i + 1) (by omega)]; omega), List.getElem?_eq_getElem (by rw [last_len n i (by omega)]; omega)]
      have a1 := last_get n (i + 1) (j + 1) (by omega) (by omega)
      have a2 := last_get n i j (by omega) h
      rw [List.getD_eq_getElem?_getD, List.getElem?_eq_getElem (by rw [last_len n (i + 1) (by omega)]; omega), Option.getD_some] at a1
      rw [List.getD_eq_getElem?_getD, List.getElem?_eq_getElem (by rw [last_len n i (by omega)]; omega), Option.getD_some] at a2
      rw [a1, a2, show 16 - (i + 1) + (j + 1) = 16 - i + j by omega]
    · rw [List.getElem?_eq_none (by rw [last_len n (i + 1) (by omega)]; omega), List.getElem?_eq_none (by rw [last_len n i (by omega)]; omega)]
theorem hex_cut : ∀ g : Fin 16, (⟨#[48, 49, 50, 51, 52, 53, 54, 55, 56, 57, 97, 98, 99, 100, 101, 102]⟩ : ByteArray).extract g.val (g.val + 1) = ⟨#[hexd g.val]⟩ := by decide

set_option maxRecDepth 100000 in
set_option maxHeartbeats 2000000 in
theorem refDigits_any (n many : Nat) (w : World) (hn : n < 18446744073709551616) (hm : many ≤ 16) : Calls Tryd.prog 30 #[.int .u64 (n : Int), .int .i64 (many : Int)] w fun e w' => e = .returned (.string ⟨(last n many).toArray⟩) ∧ w = w' := by
  go_enter Tryd.func30, Tryd.ntmps30
  go_wp2_with fail
  go_loopw [0, 5, 6] (fun nv sv iv wr => ∃ (i v : Nat) (t : ByteArray), i ≤ many ∧ v < 18446744073709551616 ∧ nv = .int .u64 (v : Int) ∧ sv = .string t ∧ iv = .int .i64 (i : Int) ∧ Hid (v = n / 16 ^ i) ∧ Hid (t = ⟨(last n i).toArray⟩) ∧ wr = w) (fun _ _ iv _ => many - (intOf iv).toNat)
  case atStart => exact ⟨0, n, ⟨#[]⟩, by omega, hn, rfl, rfl, rfl, by simp [Hid], Lib.hid (by simp [last, full_len]), rfl⟩
  case round =>
    obtain ⟨i, v, t, hi, hvl, rfl, rfl, rfl, hV, hT, rfl⟩ := hrel
    by_cases hlt : i < many
    · have dl : decide ((i : Int) < (many : Int)) = true := by simp; omega
      have dl' : decide (i < many) = true := by simp; omega
      obtain ⟨g, hg⟩ : ∃ g, g = v % 16 := ⟨_, rfl⟩
      have e5 : (v : Int) % 16 = (g : Int) := by omega
      have hg16 : g < 16 := by omega
      obtain ⟨u, hu⟩ : ∃ u, u = v / 16 := ⟨_, rfl⟩
      have e4 : (v : Int) / 16 = (u : Int) := by omega
      have hul : u < 18446744073709551616 := by omega
      have hU : Hid (u = n / 16 ^ (i + 1)) := Lib.hid (by rw [hu, hV.out, Nat.div_div_eq_div_mul, Nat.pow_succ])
      have hgd : g = dig n (15 - i) := by unfold dig; rw [hg, hV.out, show 15 - (15 - i) = i by omega]
      have hcut := hex_cut ⟨g, hg16⟩
      obtain ⟨one, hone⟩ : ∃ o : ByteArray, o = ⟨#[hexd g]⟩ := ⟨_, rfl⟩
      have hcut' : (⟨#[48, 49, 50, 51, 52, 53, 54, 55, 56, 57, 97, 98, 99, 100, 101, 102]⟩ : ByteArray).extract g (g + 1) = one := by rw [hone]; exact hcut
      obtain ⟨t2, ht2⟩ : ∃ t2, one ++ t = t2 := ⟨_, rfl⟩
      have hsz1 : one.size = 1 := by rw [hone]; rfl
      have hszt : t.size = i := by rw [hT.out]; show (last n i).toArray.size = i; simp [last_len n i (by omega)]
      have hns : ¬ 9223372036854775807 < one.size + t.size := by omega
      have hT2 : Hid (t2 = ⟨(last n (i + 1)).toArray⟩) := Lib.hid (by
        rw [← ht2, hone, hT.out, last_next n i (by omega), ← hgd]
        rfl)
      clear hcut hone hgd hg hu hV hT hsz1 hszt
      go_wp2_with fail
      go_roundw
      case rel => exact ⟨i + 1, u, t2, by omega, hul, rfl, rfl, by go_num, hU, hT2, by trivial⟩
      case measure => simp [intOf]; omega
    · have dl : decide ((i : Int) < (many : Int)) = false := by simp; omega
      have dl' : decide (i < many) = false := by simp; omega
      obtain rfl : i = many := by omega
      go_wp2_with fail
      go_ret
      exact ⟨by rw [hT.out]; rfl, rfl⟩
end Go.Proofs.YtkfidolbbnmjfaaDoor
