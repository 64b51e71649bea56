/-
  prob.Threshold, Digits and Parse at every input.
-/
import Derived.Test.YtpcichbceaijjaaProbOf
import Derived.Test.YtpcichbceaijjaaArr0
namespace Go.Proofs.Ytpcichbceaijjaa
open Go.RowKit Go.Proofs.ProbMath

theorem by_any (a b n : Nat) (w : World) (hb : b < 18446744073709551616) (hn : n < 18446744073709551616) (h : a < n) :
    Calls Try.prog 31 #[.agg #[.int .u64 (a : Int), .int .u64 (b : Int)], .int .u64 (n : Int)] w fun e w' => e = .returned (.int .u64 (((a * 18446744073709551616 + b) / n : Nat) : Int)) ∧ Below w.heap.size w w' := by
  have hd := fun W => div64 a b n W hn hb h
  have HD := Lib.hid hd
  clear hd
  go_enter Try.func31, Try.ntmps31
  go_wp2_with fail
  refine (HD.out _).mono ?_
  rintro e w' ⟨rfl, hb⟩
  go_wp2_with fail
  go_ret
  exact ⟨rfl, ((Below.refl _ _).alloc (Nat.le_refl _) _).trans (hb.mono (by simp))⟩

theorem threshold_bad (k n : Nat) (w : World) (h : n = 0 ∨ n < k) : Calls Try.prog 13 #[.int .u64 (k : Int), .int .u64 (n : Int)] w fun e w' => e = .returned (.tuple #[.int .u64 0, .int .u16 1]) ∧ w = w' := by
  by_cases h0 : n = 0
  · subst h0
    go_enter Try.func13, Try.ntmps13
    go_wp2_with fail
    go_ret2
    exact ⟨rfl, rfl⟩
  · have d0 : ((n : Int) == 0) = false := by simp; omega
    have d1 : decide ((n : Int) < (k : Int)) = true := by simp; omega
    have d2 : decide (n < k) = true := by simp; omega
    go_enter Try.func13, Try.ntmps13
    go_wp2_with fail
    go_ret2
    exact ⟨rfl, rfl⟩

theorem threshold_any (k n : Nat) (w : World) (hn : n < 18446744073709551616) (h0 : 0 < n) (h : k ≤ n) : Calls Try.prog 13 #[.int .u64 (k : Int), .int .u64 (n : Int)] w fun e w' => e = .returned (.tuple #[.int .u64 ((72057594037927936 - share k n : Nat) : Int), .int .u16 0]) ∧ Below w.heap.size w w' := by
  have d0 : ((n : Int) == 0) = false := by simp; omega
  have d1 : decide ((n : Int) < (k : Int)) = false := by simp; omega
  have d2 : decide (n < k) = false := by simp; omega
  have hp := fun W => product_any 72057594037927936 k W (by omega) (by omega)
  have hb := fun W => by_any (72057594037927936 * k / 18446744073709551616) (72057594037927936 * k % 18446744073709551616) n W (Nat.mod_lt _ (by omega)) hn (by omega)
  have hs : (72057594037927936 * k / 18446744073709551616 * 18446744073709551616 + 72057594037927936 * k % 18446744073709551616) / n = share k n := by
    unfold share
    have := Nat.div_add_mod (72057594037927936 * k) 18446744073709551616
    rw [Nat.mul_comm 18446744073709551616] at this
    rw [this]
  rw [hs] at hb
  have hle := share_le h
  obtain ⟨s, hs2⟩ : ∃ s, s = share k n := ⟨_, rfl⟩
  rw [← hs2] at hb hle ⊢
  obtain ⟨a, ha⟩ : ∃ a, a = 72057594037927936 * k / 18446744073709551616 := ⟨_, rfl⟩
  obtain ⟨b, hb2⟩ : ∃ b, b = 72057594037927936 * k % 18446744073709551616 := ⟨_, rfl⟩
  rw [← ha, ← hb2] at hb hp
  have HP := Lib.hid hp
  have HB := Lib.hid hb
  clear hp hb hs ha hb2 hs2
  go_enter Try.func13, Try.ntmps13
  go_wp2_with fail
  refine (HP.out _).mono ?_
  rintro e w1 ⟨rfl, hb1⟩
  go_wp2_with fail
  refine (HB.out _).mono ?_
  rintro e w2 ⟨rfl, hb2⟩
  go_wp2_with fail
  go_ret2
  refine ⟨?_, hb1.trans (hb2.mono hb1.size)⟩
  rw [show ((72057594037927936 - s : Nat) : Int) = 72057594037927936 - (s : Int) by omega]
  rfl

theorem digits_bad (t : Nat) (w : World) (h : 72057594037927936 ≤ t) : Calls Try.prog 18 #[.int .u64 (t : Int)] w fun e w' => e = .returned (.tuple #[.string ⟨#[]⟩, .int .u16 1]) ∧ w = w' := by
  have d : decide (72057594037927936 ≤ (t : Int)) = true := by simp; omega
  go_enter Try.func18, Try.ntmps18
  go_wp2_with fail
  go_ret2
  exact ⟨rfl, rfl⟩

/-- The signs that are laid when i digits are. -/
def laid (t i j : Nat) : UInt8 := if j < i then hexd (dig t j) else 0

theorem nought14 : ∀ j : Fin 14, (#[.int .u8 0, .int .u8 0, .int .u8 0, .int .u8 0, .int .u8 0, .int .u8 0, .int .u8 0, .int .u8 0, .int .u8 0, .int .u8 0, .int .u8 0, .int .u8 0, .int .u8 0, .int .u8 0] : Array Value)[j.val]? = some (.int .u8 0) := by
  intro ⟨j, hj⟩
  rcases (by omega : j = 0 ∨ j = 1 ∨ j = 2 ∨ j = 3 ∨ j = 4 ∨ j = 5 ∨ j = 6 ∨ j = 7 ∨ j = 8 ∨ j = 9 ∨ j = 10 ∨ j = 11 ∨ j = 12 ∨ j = 13) with rfl | rfl | rfl | rfl | rfl | rfl | rfl | rfl | rfl | rfl | rfl | rfl | rfl | rfl <;> rfl
theorem hex_sign : ∀ g : Fin 16, (⟨#[48, 49, 50, 51, 52, 53, 54, 55, 56, 57, 97, 98, 99, 100, 101, 102]⟩ : ByteArray)[g.val]'(by have := g.isLt; exact this) = hexd g.val := by decide
theorem laid_step (t i : Nat) : laid t (i + 1) i = hexd (dig t i) ∧ ∀ j, j ≠ i → laid t (i + 1) j = laid t i j := by
  refine ⟨by simp [laid], fun j hj => ?_⟩
  unfold laid
  by_cases e : j < i
  · rw [if_pos e, if_pos (by omega)]
  · rw [if_neg e, if_neg (by omega)]

set_option maxRecDepth 100000 in
set_option maxHeartbeats 1000000 in
theorem digits_any (t : Nat) (w : World) (h : t < 72057594037927936) : Calls Try.prog 18 #[.int .u64 (t : Int)] w fun e w' => e = .returned (.tuple #[.string ⟨(digits t).toArray⟩, .int .u16 0]) ∧ Below w.heap.size w w' := by
  have d : decide (72057594037927936 ≤ (t : Int)) = false := by simp; omega
  go_enter Try.func18, Try.ntmps18
  go_wp2_with fail
  go_loopw [5, 10] (fun sz iv wr => ∃ i : Nat, i ≤ 14 ∧ sz = .int .i64 (stay t i : Int) ∧ iv = .int .i64 (i : Int) ∧ Arr wr w.heap.size 14 (laid t i) ∧ Below w.heap.size w wr) (fun _ i _ => 14 - (intOf i).toNat)
  case atStart => exact ⟨0, by omega, rfl, rfl, arr_new w rfl (fun j hj => nought14 ⟨j, hj⟩) _ (fun j => by simp [laid]), (Below.refl _ _).alloc (Nat.le_refl _) _⟩
  case round =>
    obtain ⟨i, hi, rfl, rfl, hA, hB⟩ := hrel
    by_cases hlt : i < 14
    · have dl : decide ((i : Int) < 14) = true := by simp; omega
      obtain ⟨c, hc⟩ : ∃ c, c = 13 - i := ⟨_, rfl⟩
      have e1 : (13 : Int) - (i : Int) = (c : Int) := by omega
      obtain ⟨c4, hc4⟩ : ∃ c4, c4 = 4 * c := ⟨_, rfl⟩
      have e2 : (4 : Int) * (c : Int) = (c4 : Int) := by omega
      have e3 : c4 ≤ 52 := by omega
      obtain ⟨v, hv⟩ : ∃ v, v = t / 2 ^ c4 := ⟨_, rfl⟩
      have e4 : (t : Int) / 2 ^ c4 = (v : Int) := by rw [hv]; simp
      have hvl : v ≤ t := by rw [hv]; exact Nat.div_le_self _ _
      obtain ⟨g, hg⟩ : ∃ g, g = v % 16 := ⟨_, rfl⟩
      have e5 : (v : Int) % 16 = (g : Int) := by omega
      have hgd : g = dig t i := by unfold dig; rw [hg, hv, hc4, hc]
      have HG := Lib.hid hgd
      clear hc hc4 hv hg hgd
      have hc := (hA.2 i hlt).1
      have hf := (hA.2 i hlt).2
      have e6 : (g : Int) < 16 := by rw [HG.out]; have := dig_lt t i; omega
      have HA := Lib.hid hA
      clear hA
      have fin : ∀ (W : World), W = wr.setCell ⟨w.heap.size, i, none⟩ (b8 (hexd g)) → Arr W w.heap.size 14 (laid t (i + 1)) ∧ Below w.heap.size w W := fun W e => by
        subst e
        exact ⟨HA.out.set hlt (by rw [HG.out]; exact (laid_step t i).1) (laid_step t i).2, hB.setCell (p := ⟨w.heap.size, i, none⟩) (by simp) _⟩
      have HF := Lib.hid fin
      clear fin
      by_cases h0 : g = 0
      · have st : stay t (i + 1) = stay t i := by show (if dig t i = 0 then _ else _) = _; rw [← HG.out, if_pos h0]
        have HS := Lib.hid st
        have dn : ((g : Int) != 0) = false := by simp; omega
        clear st h0
        go_wp2_with fail
        go_roundw
        case rel => exact ⟨i + 1, by omega, by rw [HS.out], by go_num, HF.out _ (by rw [hex_sign ⟨g, by omega⟩]; rfl)⟩
        case measure => simp [intOf]; omega
      · have st : stay t (i + 1) = i + 1 := by show (if dig t i = 0 then _ else _) = _; rw [← HG.out, if_neg h0]
        have HS := Lib.hid st
        have dn : ((g : Int) != 0) = true := by simp; omega
        clear st h0
        go_wp2_with fail
        go_roundw
        case rel => exact ⟨i + 1, by omega, by rw [HS.out]; go_num, by go_num, HF.out _ (by rw [hex_sign ⟨g, by omega⟩]; rfl)⟩
        case measure => simp [intOf]; omega
    · have dl : decide ((i : Int) < 14) = false := by simp; omega
      obtain rfl : i = 14 := by omega
      have hsb := stay_bounds t 14
      obtain ⟨n, hn⟩ : ∃ n, n = stay t 14 := ⟨_, rfl⟩
      rw [← hn] at hsb ⊢
      have tr := fun W (h : Holds8 W.heap.size W (some ⟨w.heap.size, 0, none⟩) (digits t)) => text_run (some ⟨w.heap.size, 0, none⟩) (digits t) n 14 W W.heap.size (by rw [digits_len, hn]) h
      have hh := hA.holds (cs := digits t) hA.1 (by rw [digits_len]; omega) (fun j hj => by
        rw [digits_len] at hj
        rw [digits_get t j hj]
        unfold laid
        rw [if_pos (by omega)])
      have trr := tr wr hh
      have hsl : ∀ W : World, (Instr.sliceAt 61 (.pointer (some ⟨w.heap.size, 0, none⟩)) none (some (.int .i64 (n : Int))) none).run Try.prog W = .ok (.slice (some ⟨w.heap.size, 0, none⟩) n 14) W := fun W => by
        rw [run_sliceAt_array_h W 61 _ (by kernel_rfl) .i64 (n : Int) (by omega) (by rw [show Try.prog.arrayLen 61 = 14 by kernel_rfl]; omega)]
        have hz : (sizeOf (Try.prog.elem 61)).run Try.prog W = .ok 1 W := by kernel_rfl
        rw [hz, show Try.prog.arrayLen 61 = 14 by kernel_rfl]
        simp [slicedAt, Result.andThen, Addr.add]
      have HN := Lib.hid hn
      clear tr hh hn hA hlt dl
      go_wp2_with fail
      go_ret2
      exact ⟨rfl, hB⟩

def hexs : List UInt8 := [48, 49, 50, 51, 52, 53, 54, 55, 56, 57, 97, 98, 99, 100, 101, 102]
theorem index_hex : ∀ c : Fin 256, Lib.indexByte hexs (UInt8.ofNat c.val) = match unhex (UInt8.ofNat c.val) with | some d => (d : Int) | none => -1 := by decide +kernel
theorem index_any (c : UInt8) (w : World) (r : Int) (h : (match unhex c with | some d => (d : Int) | none => -1) = r) : Calls Try.prog 35 #[.string ⟨#[48, 49, 50, 51, 52, 53, 54, 55, 56, 57, 97, 98, 99, 100, 101, 102]⟩, .int .u8 (c.toNat : Int)] w fun e w' => e = .returned (.int .i64 r) ∧ w = w' :=
  (Try.strings_IndexByte _ _ w).mono fun _ _ ⟨he, hw⟩ => ⟨by
    rw [he, ← h]
    have := index_hex ⟨c.toNat, c.toNat_lt⟩
    simp only [UInt8.ofNat_toNat] at this
    rw [← this]
    simp [hexs, Nat.toUInt8], hw.symm⟩

set_option maxRecDepth 100000 in
set_option maxHeartbeats 1000000 in
theorem parse_any (s : ByteArray) (w : World) (hs : s.size ≤ 9223372036854775807) : Calls Try.prog 25 #[.string s] w fun e w' => e = .returned (.tuple #[.int .u64 ((parse s.data.toList).1 : Int), .int .u16 ((parse s.data.toList).2 : Int)]) ∧ Below w.heap.size w w' := by
  by_cases h0 : s.size = 0
  · have hnm := empty_of h0
    rw [parse_bad (by rw [size_list]; omega)]
    go_enter Try.func25, Try.ntmps25
    go_wp2_with fail
    go_ret2
    exact ⟨rfl, Below.refl _ _⟩
  have hnm := full_of h0
  by_cases h1 : 14 < s.size
  · rw [parse_bad (by rw [size_list]; omega)]
    have d1 : decide ((14 : Int) < (s.size : Int)) = true := by simp; omega
    go_enter Try.func25, Try.ntmps25
    go_wp2_with fail
    go_ret2
    exact ⟨rfl, Below.refl _ _⟩
  have d1 : decide ((14 : Int) < (s.size : Int)) = false := by simp; omega
  obtain ⟨cap, w1, hcv, hB, hcell, _⟩ := text_bytes s w
  obtain ⟨cs, hcs⟩ : ∃ cs, s.data.toList = cs := ⟨_, rfl⟩
  have hl : cs.length = s.size := by rw [← hcs]; simp
  rw [hcs] at hcell ⊢
  obtain ⟨P, hP⟩ : ∃ P, parse cs = P := ⟨_, rfl⟩
  obtain ⟨P1, P2⟩ := P
  rw [hP]
  dsimp only
  have HP := Lib.hid hP
  clear hP
  obtain ⟨n, hn⟩ : ∃ n, s.size = n := ⟨_, rfl⟩
  rw [hn] at hl hcv hcell d1 h0 h1
  have HL := Lib.hid hl
  have HC := Lib.hid hcell
  have hsz : ∀ W : World, True := fun _ => trivial
  clear hcs hl hcell hsz hs
  go_enter Try.func25, Try.ntmps25
  go_wp2_with fail
  go_loop [4, 18] (fun a b => ∃ v k : Nat, k ≤ n ∧ a = .int .u64 (v : Int) ∧ b = .int .i64 (k : Int) ∧ v < 16 ^ k ∧ Hid (readOn cs 0 = readOn (cs.drop k) v)) (fun _ b => n - (intOf b).toNat)
  case atStart => exact ⟨0, 0, by omega, rfl, rfl, by simp, by simp [Hid]⟩
  case round =>
    obtain ⟨v, k, hk, rfl, rfl, hv, hR⟩ := hrel
    by_cases hlt : k < n
    · have hp := pow16 k (by omega)
      have hv2 : v < 4503599627370496 := by omega
      have hcell := HC.out k hlt
      obtain ⟨c, hc⟩ : ∃ c, cs.getD k 0 = c := ⟨_, rfl⟩
      rw [hc] at hcell
      have hc0 := c.toNat_lt
      unfold b8 at hcell
      have hkl : k < cs.length := by rw [HL.out]; exact hlt
      cases hu : unhex c with
      | none =>
        have hno := readOn_none (v := v) hkl hc hu
        have hI := fun W => index_any c W (-1) (by rw [hu])
        have hpn : (P1, P2) = (0, 31) := by rw [← HP.out]; exact parse_none (by rw [hR.out, hno])
        injection hpn with q1 q2
        subst q1 q2
        have HI := Lib.hid hI
        clear hI hno hR HP hu hc hkl hp hv
        generalize c.toNat = cn at *
        go_wp2_with fail
        refine (HI.out _).mono ?_
        rintro e w' ⟨rfl, rfl⟩
        go_wp2_with fail
        go_ret2
        exact ⟨rfl, hB⟩
      | some d =>
        have hyes := readOn_some (v := v) hkl hc hu
        have hd := unhex_lt hu
        have hI := fun W => index_any c W (d : Int) (by rw [hu])
        have hR2 : readOn cs 0 = readOn (cs.drop (k + 1)) (v * 16 + d) := by rw [hR.out, hyes]
        have hv3 : v * 16 + d < 16 ^ (k + 1) := by rw [Nat.pow_succ]; omega
        have HI := Lib.hid hI
        have HR2 := Lib.hid hR2
        have HV := Lib.hid hv3
        have dd : decide ((d : Int) < 0) = false := by simp
        clear hI hyes hR2 hv3 hR hu hc hkl hp hv
        generalize c.toNat = cn at *
        go_wp2_with fail
        refine (HI.out _).mono ?_
        rintro e w' ⟨rfl, rfl⟩
        go_wp2_with fail
        go_round
        case rel => exact ⟨v * 16 + d, k + 1, by omega, by go_num, by go_num, HV.out, HR2⟩
        case measure => simp [intOf]; omega
    · obtain rfl : k = n := by omega
      have dl : decide ((k : Int) < (k : Int)) = false := by simp
      have hsome : readOn cs 0 = some v := by rw [hR.out, List.drop_of_length_le (by rw [HL.out]; omega)]; rfl
      have hps := parse_some (by rw [HL.out]; omega) (by rw [HL.out]; omega) hsome
      rw [HL.out] at hps
      have hsh := shifted v k (by omega) hv
      rw [HP.out] at hps
      injection hps with q1 q2
      subst q2
      obtain ⟨c, hc⟩ : ∃ c, c = 14 - k := ⟨_, rfl⟩
      have e1 : (14 : Int) - (k : Int) = (c : Int) := by omega
      obtain ⟨c4, hc4⟩ : ∃ c4, c4 = 4 * c := ⟨_, rfl⟩
      have e2 : (4 : Int) * (c : Int) = (c4 : Int) := by omega
      rw [← hc, ← hc4] at q1 hsh
      rw [← q1] at hsh
      have e3 : c4 ≤ 56 := by omega
      have e4 : (v : Int) * 2 ^ c4 = (P1 : Int) := by rw [q1]; simp
      have e5 : IntKind.u64.wrap (P1 : Int) = (P1 : Int) := by rw [IntKind.wrap_u64]; omega
      clear HP hsome q1 hc hc4 hR hv
      go_wp2_with fail
      go_ret2
      exact ⟨rfl, hB⟩

end Go.Proofs.Ytpcichbceaijjaa
