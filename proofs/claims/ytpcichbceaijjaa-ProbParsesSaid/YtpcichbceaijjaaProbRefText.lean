/-
  The document's own answers of layer 5 (telemeterref05): Digits, Parse, Number, at every input.
-/
import Derived.Test.YtpcichbceaijjaaProbRef
namespace Go.Proofs.Ytpcichbceaijjaa
open Go.RowKit Go.Proofs.ProbMath

theorem refDigits_bad (t : Nat) (w : World) (h : 72057594037927936 ≤ t) : Calls Try.prog 19 #[.int .u64 (t : Int)] w fun e w' => e = .returned (.tuple #[.string ⟨#[]⟩, .int .i64 1]) ∧ w = w' := by
  have d : decide (72057594037927936 ≤ (t : Int)) = true := by simp; omega
  go_enter Try.func19, Try.ntmps19
  go_wp2_with fail
  go_ret2
  exact ⟨rfl, rfl⟩

theorem hex_cut : ∀ g : Fin 16, (⟨#[48, 49, 50, 51, 52, 53, 54, 55, 56, 57, 97, 98, 99, 100, 101, 102]⟩ : ByteArray).extract g.val (g.val + 1) = ⟨#[hexd g.val]⟩ := by decide +kernel
theorem hex_nought : ∀ g : Fin 16, ((hexd g.val).toNat = 48) ↔ g.val = 0 := by decide
theorem drop_dig (t i : Nat) (h : i < 14) : (ProbMath.full t).drop (14 - (i + 1)) = hexd (t / 2 ^ (4 * i) % 16) :: (ProbMath.full t).drop (14 - i) := by
  have hl := full_len t
  rw [List.drop_eq_getElem_cons (by rw [hl]; omega)]
  have hg := full_get t (14 - (i + 1)) (by omega)
  rw [List.getD_eq_getElem?_getD, List.getElem?_eq_getElem (by rw [hl]; omega)] at hg
  simp only [Option.getD_some] at hg
  rw [hg]
  unfold dig
  rw [show 13 - (14 - (i + 1)) = i by omega, show 14 - (i + 1) + 1 = 14 - i by omega]
theorem str_ext {a b : ByteArray} (h : a.data.toList = b.data.toList) : a = b := ByteArray.ext (Array.toList_inj.1 h)

set_option maxRecDepth 100000 in
set_option maxHeartbeats 1000000 in
theorem refDigits_any (t : Nat) (w : World) (h : t < 72057594037927936) : Calls Try.prog 19 #[.int .u64 (t : Int)] w fun e w' => e = .returned (.tuple #[.string ⟨(digits t).toArray⟩, .int .i64 0]) ∧ w = w' := by
  have d : decide (72057594037927936 ≤ (t : Int)) = false := by simp; omega
  go_enter Try.func19, Try.ntmps19
  go_wp2_with fail
  go_loop [0, 4, 5] (fun a b c => ∃ (x i : Nat) (s : ByteArray), i ≤ 14 ∧ a = .int .u64 (x : Int) ∧ b = .string s ∧ c = .int .i64 (i : Int) ∧ x < 72057594037927936 ∧ Hid (x = t / 2 ^ (4 * i)) ∧ Hid (s.data.toList = (ProbMath.full t).drop (14 - i))) (fun _ _ c => 14 - (intOf c).toNat)
  case atStart => exact ⟨t, 0, ⟨#[]⟩, by omega, rfl, rfl, rfl, h, by simp [Hid], by show _ = _; rw [List.drop_of_length_le (by rw [full_len]; omega)]⟩
  case round =>
    obtain ⟨x, i, s, hi, rfl, rfl, rfl, hxb, hx, hs⟩ := hrel
    have hsz : s.size = i := by rw [← size_list, hs.out, List.length_drop, full_len]; omega
    have hsl : s.size ≤ 14 := by omega
    by_cases hlt : i < 14
    · have dl : decide ((i : Int) < 14) = true := by simp; omega
      obtain ⟨g, e1, hg⟩ : ∃ g : Nat, (x : Int) % 16 = (g : Int) ∧ g = x % 16 := ⟨x % 16, by omega, rfl⟩
      obtain ⟨y, e2, hy⟩ : ∃ y : Nat, (x : Int) / 16 = (y : Int) ∧ y = x / 16 := ⟨x / 16, by omega, rfl⟩
      have hg16 : g < 16 := by omega
      have hyb : y < 72057594037927936 := by omega
      have hns : ¬ 9223372036854775807 < min (g + 1) 16 - g + s.size := by omega
      have hy2 : y = t / 2 ^ (4 * (i + 1)) := by rw [hy, hx.out, Nat.div_div_eq_div_mul, show 4 * (i + 1) = 4 * i + 4 by omega, Nat.pow_add]
      have hcut : ∀ z : ByteArray, z = (⟨#[48, 49, 50, 51, 52, 53, 54, 55, 56, 57, 97, 98, 99, 100, 101, 102]⟩ : ByteArray).extract g (g + 1) ++ s → z.data.toList = (ProbMath.full t).drop (14 - (i + 1)) := fun z hz => by
        rw [hz, hex_cut ⟨g, hg16⟩, drop_dig t i hlt, ← hx.out, ← hg, ← hs.out]
        simp
      have HY := Lib.hid hy2
      have HC := Lib.hid hcut
      clear hg hy hy2 hcut hsz hs hx
      go_wp2_with fail
      go_round
      case rel => exact ⟨y, i + 1, _, by omega, rfl, rfl, by go_num, hyb, HY, HC.out _ rfl⟩
      case measure => simp [intOf]; omega
    · have dl : decide ((i : Int) < 14) = false := by simp; omega
      obtain rfl : i = 14 := by omega
      rw [show 14 - 14 = 0 by omega, List.drop_zero] at hs
      have hs2 : s.data.toList = (ProbMath.full t).take 14 := by rw [hs.out, List.take_of_length_le (by rw [full_len]; omega)]
      have HS := Lib.hid hs2
      clear hs hs2 hx hsz
      go_wp2_with fail
      go_loop [4] (fun b => ∃ (n : Nat) (z : ByteArray), b = .string z ∧ 1 ≤ n ∧ n ≤ 14 ∧ z.size = n ∧ Hid (z.data.toList = (ProbMath.full t).take n) ∧ Hid (stay t 14 = stay t n)) (fun b => (match b with | .string z => z.size | _ => 0))
      case atStart => exact ⟨14, s, rfl, by omega, by omega, by rw [← size_list, HS.out, List.length_take, full_len]; omega, HS, rfl⟩
      case round =>
        obtain ⟨n, z, rfl, h1, h14, hz, hzt, hst⟩ := hrel
        by_cases hn1 : n = 1
        · subst hn1
          have e : stay t 1 = 1 := by unfold stay; split <;> rfl
          have hfin : z = ⟨(digits t).toArray⟩ := str_ext (by rw [hzt.out]; unfold digits; rw [hst.out, e])
          have HF := Lib.hid hfin
          clear hfin hzt hst
          go_wp2_with fail
          go_ret2
          exact ⟨by rw [← HF.out]; rfl, rfl⟩
        · obtain ⟨m, hm⟩ : ∃ m, n = m + 1 := ⟨n - 1, by omega⟩
          have e1 : (n : Int) - 1 = (m : Int) := by omega
          have d1 : decide ((1 : Int) < (n : Int)) = true := by simp; omega
          have hmz : m < z.size := by omega
          obtain ⟨c, hc⟩ : ∃ c, z[m] = c := ⟨_, rfl⟩
          have hc2 : c = hexd (dig t m) := by
            have h2 := full_get t m (by omega)
            rw [← hc, ← h2]
            have h3 : z.data.toList[m]? = (ProbMath.full t)[m]? := by rw [hzt.out, List.getElem?_take_of_lt (by omega)]
            have h4 : z.data.toList[m]? = some z[m] := by
              rw [List.getElem?_eq_getElem (by rw [size_list]; exact hmz)]; rfl
            rw [h4] at h3
            rw [List.getD_eq_getElem?_getD, ← h3]; rfl
          have hn48 := hex_nought ⟨dig t m, dig_lt t m⟩
          simp only at hn48
          rw [← hc2] at hn48
          have hcc : ∀ hh : m < z.size, z[m]'hh = c := fun _ => hc
          have hst2 : stay t (m + 1) = if dig t m = 0 then stay t m else m + 1 := rfl
          have hex : (z.extract 0 m).data.toList = (ProbMath.full t).take m := by
            have : (z.extract 0 m).data.toList = z.data.toList.take m := by simp [ByteArray.data_extract]
            rw [this, hzt.out, List.take_take, show min m n = m by omega]
          have hes : (z.extract 0 m).size = m := by rw [← size_list, hex, List.length_take, full_len]; omega
          by_cases h48 : c.toNat = 48
          · have dc : ((c.toNat : Int) == 48) = true := by simp; omega
            have hS : stay t 14 = stay t m := by rw [hst.out, hm, hst2, if_pos (hn48.1 h48)]
            have HS2 := Lib.hid hS
            have HE := Lib.hid hex
            have HES := Lib.hid hes
            clear hc hc2 hn48 h48 hst2 hex hes hS hst hzt
            go_wp2_with fail
            go_round
            case rel => exact ⟨m, _, rfl, by omega, by omega, HES.out, HE, HS2⟩
            case measure => have := HES.out; simp; omega
          · have dc : ((c.toNat : Int) == 48) = false := by simp; omega
            have hS : stay t 14 = n := by rw [hst.out, hm, hst2, if_neg (fun h => h48 (hn48.2 h))]
            have hfin : z = ⟨(digits t).toArray⟩ := str_ext (by rw [hzt.out]; unfold digits; rw [hS])
            have HF := Lib.hid hfin
            clear hc hc2 hn48 h48 hst2 hex hes hS hst hzt hfin
            go_wp2_with fail
            go_ret2
            exact ⟨by rw [← HF.out]; rfl, rfl⟩

set_option maxRecDepth 100000 in
set_option maxHeartbeats 2000000 in
theorem refParse_any (s : ByteArray) (w : World) (hs : s.size ≤ 9223372036854775807) : Calls Try.prog 26 #[.string s] w fun e w' => e = .returned (.tuple #[.int .u64 ((parse s.data.toList).1 : Int), .int .i64 ((parse s.data.toList).2 : Int)]) ∧ w = w' := by
  by_cases h0 : s.size = 0
  · rw [parse_bad (by rw [size_list]; omega)]
    have d1 : decide ((s.size : Int) < 1) = true := by simp; omega
    go_enter Try.func26, Try.ntmps26
    go_wp2_with fail
    go_ret2
    exact ⟨rfl, rfl⟩
  have d0 : decide ((s.size : Int) < 1) = false := by simp; omega
  by_cases h1 : 14 < s.size
  · rw [parse_bad (by rw [size_list]; omega)]
    have d1 : decide ((14 : Int) < (s.size : Int)) = true := by simp; omega
    go_enter Try.func26, Try.ntmps26
    go_wp2_with fail
    go_ret2
    exact ⟨rfl, rfl⟩
  have d1 : decide ((14 : Int) < (s.size : Int)) = false := by simp; omega
  obtain ⟨cs, hcs⟩ : ∃ cs, s.data.toList = cs := ⟨_, rfl⟩
  have hl : cs.length = s.size := by rw [← hcs]; simp
  have hat : ∀ i (h : i < s.size), s[i] = cs.getD i 0 := fun i h => by
    rw [← hcs, List.getD_eq_getElem?_getD, List.getElem?_eq_getElem (by rw [size_list]; exact h)]; rfl
  rw [hcs]
  obtain ⟨P, hP⟩ : ∃ P, parse cs = P := ⟨_, rfl⟩
  obtain ⟨P1, P2⟩ := P
  rw [hP]
  dsimp only
  have HP := Lib.hid hP
  obtain ⟨n, hn⟩ : ∃ n, s.size = n := ⟨_, rfl⟩
  rw [hn] at hl d1 d0 h0 h1
  have HL := Lib.hid hl
  have HA := Lib.hid hat
  clear hP hcs hl hat hs
  go_enter Try.func26, Try.ntmps26
  go_wp2_with fail
  go_loop [4, 5] (fun a b => ∃ v i : Nat, i ≤ 14 ∧ a = .int .u64 (v : Int) ∧ b = .int .i64 (i : Int) ∧ v < 16 ^ i ∧ Hid (i ≤ n → readOn cs 0 = readOn (cs.drop i) v) ∧ Hid (n ≤ i → ∃ u, readOn cs 0 = some u ∧ v = u * 16 ^ (i - n))) (fun _ b => 14 - (intOf b).toNat)
  case atStart => exact ⟨0, 0, by omega, rfl, rfl, by simp, fun _ => by simp, fun h => by omega⟩
  case round =>
    obtain ⟨v, i, hi, rfl, rfl, hv, hR, hU⟩ := hrel
    by_cases hlt : i < 14
    · have dl : decide ((i : Int) < 14) = true := by simp; omega
      have hp := pow16 i (by omega)
      have hv2 : v < 4503599627370496 := by omega
      by_cases hin : i < n
      · have di : decide ((i : Int) < (n : Int)) = true := by simp; omega
        have di' : decide (i < n) = true := by simp; omega
        have hi2 : i < s.size := by omega
        have hx := HA.out i hi2
        obtain ⟨c, hc⟩ : ∃ c, cs.getD i 0 = c := ⟨_, rfl⟩
        rw [hc] at hx
        have hcc : ∀ hh : i < s.size, s[i]'hh = c := fun _ => hx
        have hc0 := c.toNat_lt
        have hkl : i < cs.length := by rw [HL.out]; exact hin
        clear hp
        by_cases g1 : 48 ≤ c.toNat
        · by_cases g2 : c.toNat ≤ 57
          · obtain ⟨d, hd⟩ : ∃ d, d = c.toNat - 48 := ⟨_, rfl⟩
            have hu : unhex c = some d := by unfold unhex; rw [if_pos (by omega), hd]
            have hd16 := unhex_lt hu
            have hyes := readOn_some (v := v) hkl hc hu
            have hR2 : i + 1 ≤ n → readOn cs 0 = readOn (cs.drop (i + 1)) (v * 16 + d) := fun _ => by rw [hR.out (by omega), hyes]
            have HU : Hid (n ≤ i + 1 → ∃ u, readOn cs 0 = some u ∧ v * 16 + d = u * 16 ^ (i + 1 - n)) := Lib.hid (fun h => ⟨v * 16 + d, by
              rw [hR.out (by omega), hyes, List.drop_of_length_le (by rw [HL.out]; omega)]; rfl, by rw [show i + 1 - n = 0 by omega]; simp⟩)
            have hv3 : v * 16 + d < 16 ^ (i + 1) := by rw [Nat.pow_succ]; omega
            have HR := Lib.hid hR2
            have HV := Lib.hid hv3
            have es : (c.toNat : Int) - 48 = (d : Int) := by omega
            have t1 : decide ((48 : Int) ≤ (c.toNat : Int)) = true := by simp; omega
            have t2 : decide ((c.toNat : Int) ≤ 57) = true := by simp; omega
            have em : (16 : Int) * (v : Int) + (d : Int) = ((v * 16 + d : Nat) : Int) := by omega
            have EM := Lib.hid em
            clear hyes hR2 hv3 hR hU hc hkl hv hx em hu hi2 hd
            go_wp2_with fail
            go_round
            case rel => exact ⟨v * 16 + d, i + 1, by omega, by rw [EM.out], by go_num, HV.out, HR, HU⟩
            case measure => simp [intOf]; omega
          · by_cases g3 : 97 ≤ c.toNat
            · by_cases g4 : c.toNat ≤ 102
              · obtain ⟨d, hd⟩ : ∃ d, d = c.toNat - 87 := ⟨_, rfl⟩
                have hu : unhex c = some d := by unfold unhex; rw [if_neg (by omega), if_pos (by omega), hd]
                have hd16 := unhex_lt hu
                have hyes := readOn_some (v := v) hkl hc hu
                have hR2 : i + 1 ≤ n → readOn cs 0 = readOn (cs.drop (i + 1)) (v * 16 + d) := fun _ => by rw [hR.out (by omega), hyes]
                have HU : Hid (n ≤ i + 1 → ∃ u, readOn cs 0 = some u ∧ v * 16 + d = u * 16 ^ (i + 1 - n)) := Lib.hid (fun h => ⟨v * 16 + d, by
                  rw [hR.out (by omega), hyes, List.drop_of_length_le (by rw [HL.out]; omega)]; rfl, by rw [show i + 1 - n = 0 by omega]; simp⟩)
                have hv3 : v * 16 + d < 16 ^ (i + 1) := by rw [Nat.pow_succ]; omega
                have HR := Lib.hid hR2
                have HV := Lib.hid hv3
                obtain ⟨x, ex, hxd⟩ : ∃ x : Nat, (c.toNat : Int) - 97 = (x : Int) ∧ x + 10 = d := ⟨c.toNat - 97, by omega, by omega⟩
                have ed : (x : Int) + 10 = (d : Int) := by omega
                clear hxd
                have t1 : decide ((48 : Int) ≤ (c.toNat : Int)) = true := by simp; omega
                have t2 : decide ((c.toNat : Int) ≤ 57) = false := by simp; omega
                have t3 : decide ((97 : Int) ≤ (c.toNat : Int)) = true := by simp; omega
                have t4 : decide ((c.toNat : Int) ≤ 102) = true := by simp; omega
                have em : (16 : Int) * (v : Int) + (d : Int) = ((v * 16 + d : Nat) : Int) := by omega
                have EM := Lib.hid em
                clear hyes hR2 hv3 hR hU hc hkl hv hx em hu hi2 hd
                go_wp2_with fail
                go_round
                case rel => exact ⟨v * 16 + d, i + 1, by omega, by rw [EM.out], by go_num, HV.out, HR, HU⟩
                case measure => simp [intOf]; omega
              · skip
                have hno : (P1, P2) = (0, 31) := by
                  rw [← HP.out]; exact parse_none (by rw [hR.out (by omega), readOn_none hkl hc (by unfold unhex; rw [if_neg (by omega), if_neg (by omega)])])
                injection hno with q1 q2
                subst q1 q2
                have t1 : decide ((48 : Int) ≤ (c.toNat : Int)) = true := by simp; omega
                have t2 : decide ((c.toNat : Int) ≤ 57) = false := by simp; omega
                have t3 : decide ((97 : Int) ≤ (c.toNat : Int)) = true := by simp; omega
                have t4 : decide ((c.toNat : Int) ≤ 102) = false := by simp; omega
                clear HP hR hU hc hkl hv hx hi2
                go_wp2_with fail
                go_ret2
                exact ⟨rfl, rfl⟩
            · skip
              have hno : (P1, P2) = (0, 31) := by
                rw [← HP.out]; exact parse_none (by rw [hR.out (by omega), readOn_none hkl hc (by unfold unhex; rw [if_neg (by omega), if_neg (by omega)])])
              injection hno with q1 q2
              subst q1 q2
              have t1 : decide ((48 : Int) ≤ (c.toNat : Int)) = true := by simp; omega
              have t2 : decide ((c.toNat : Int) ≤ 57) = false := by simp; omega
              have t3 : decide ((97 : Int) ≤ (c.toNat : Int)) = false := by simp; omega
              clear HP hR hU hc hkl hv hx hi2
              go_wp2_with fail
              go_ret2
              exact ⟨rfl, rfl⟩
        · skip
          have hno : (P1, P2) = (0, 31) := by
            rw [← HP.out]; exact parse_none (by rw [hR.out (by omega), readOn_none hkl hc (by unfold unhex; rw [if_neg (by omega), if_neg (by omega)])])
          injection hno with q1 q2
          subst q1 q2
          have t1 : decide ((48 : Int) ≤ (c.toNat : Int)) = false := by simp; omega
          have t3 : decide ((97 : Int) ≤ (c.toNat : Int)) = false := by simp; omega
          clear HP hR hU hc hkl hv hx hi2
          go_wp2_with fail
          go_ret2
          exact ⟨rfl, rfl⟩
      · have di : decide ((i : Int) < (n : Int)) = false := by simp; omega
        have di' : decide (i < n) = false := by simp; omega
        have hU2 : n ≤ i + 1 → ∃ u, readOn cs 0 = some u ∧ v * 16 = u * 16 ^ (i + 1 - n) := fun _ => by
          obtain ⟨u, h2, h3⟩ := hU.out (by omega)
          exact ⟨u, h2, by rw [h3, show i + 1 - n = (i - n) + 1 by omega, Nat.pow_succ, Nat.mul_assoc]⟩
        have hR2 : i + 1 ≤ n → readOn cs 0 = readOn (cs.drop (i + 1)) (v * 16) := fun h => by omega
        have hv3 : v * 16 < 16 ^ (i + 1) := by rw [Nat.pow_succ]; omega
        have em : (16 : Int) * (v : Int) = ((v * 16 : Nat) : Int) := by omega
        have HR := Lib.hid hR2
        have HU := Lib.hid hU2
        have HV := Lib.hid hv3
        have EM := Lib.hid em
        clear hR2 hU2 hv3 hR hU hv em hp
        go_wp2_with fail
        go_round
        case rel => exact ⟨v * 16, i + 1, by omega, by rw [← EM.out], by go_num, HV.out, HR, HU⟩
        case measure => simp [intOf]; omega
    · have dl : decide ((i : Int) < 14) = false := by simp; omega
      obtain rfl : i = 14 := by omega
      obtain ⟨u, h2, h3⟩ := hU.out (by omega)
      have hps := parse_some (by rw [HL.out]; omega) (by rw [HL.out]; omega) h2
      rw [HL.out, HP.out, pow_16, ← h3] at hps
      injection hps with q1 q2
      subst q2
      have HQ := Lib.hid q1
      clear q1 h2 h3 HP hR hU hv
      go_wp2_with fail
      go_ret2
      exact ⟨by rw [HQ.out]; rfl, rfl⟩

set_option maxRecDepth 100000 in
theorem refNumber_any (hi lo rv : Nat) (v2 v3 v4 v5 v6 v7 v8 : Value) (w : World) :
    Calls Try.prog 28 #[.agg #[.int .u64 (hi : Int), .int .u64 (lo : Int), v2, v3, v4, v5, v6, v7, v8, .int .u64 (rv : Int)]] w fun e w' => e = .returned (.int .u64 (number lo rv : Int)) ∧ Below w.heap.size w w' := by
  by_cases h1 : 1 ≤ rv
  · have d1 : decide ((1 : Int) ≤ (rv : Int)) = true := by simp; omega
    by_cases h2 : rv ≤ 72057594037927936
    · have d2 : decide ((rv : Int) ≤ 72057594037927936) = true := by simp; omega
      have e : (rv : Int) - 1 = (number lo rv : Int) := by unfold number; rw [if_pos ⟨h1, h2⟩]; omega
      have E := Lib.hid e
      clear e
      go_enter Try.func28, Try.ntmps28
      go_wp2_with fail
      go_ret
      exact ⟨ret_i' E.out, (Below.refl _ _).alloc (Nat.le_refl _) _⟩
    · have d2 : decide ((rv : Int) ≤ 72057594037927936) = false := by simp; omega
      have e : (lo : Int) % 72057594037927936 = (number lo rv : Int) := by unfold number; rw [if_neg (by omega)]; omega
      have E := Lib.hid e
      clear e
      go_enter Try.func28, Try.ntmps28
      go_wp2_with fail
      go_ret
      exact ⟨ret_i' E.out, (Below.refl _ _).alloc (Nat.le_refl _) _⟩
  · have d1 : decide ((1 : Int) ≤ (rv : Int)) = false := by simp; omega
    have e : (lo : Int) % 72057594037927936 = (number lo rv : Int) := by unfold number; rw [if_neg (by omega)]; omega
    have E := Lib.hid e
    clear e
    go_enter Try.func28, Try.ntmps28
    go_wp2_with fail
    go_ret
    exact ⟨ret_i' E.out, (Below.refl _ _).alloc (Nat.le_refl _) _⟩

end Go.Proofs.Ytpcichbceaijjaa
