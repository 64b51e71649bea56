/-
  What the document's own answers do: Put (telemeterref01), Sum, four and Frame (telemeterref02) give just what the chapter's functions give.
-/
import Derived.Maps.AppendAt
import Derived.Test.YtdjejkjkcahdgaaFrameKnown
namespace Go.Proofs.Ytdjejkjkcahdgaa
open Go.RowKit Go.Proofs.NumMath Go.Proofs.FrameMath

set_option maxRecDepth 100000 in
set_option maxHeartbeats 1000000 in
theorem refPut_any (m : Nat) (hm : m < 18446744073709551616) (w : World) :
    Calls Try.prog 35 #[.int .u64 (m : Int)] w fun e w' => ∃ v, e = .returned v ∧ w'.ownsRow w.heap.size 5 1 v (put m).length ((put m).map b8) ∧ Below w.heap.size w w' := by
  obtain ⟨i0, hi, hz0, hz1, hz2⟩ := info_parts info_u8
  go_enter Try.func35, Try.ntmps35
  go_wp2
  go_loopw [0, 3] (fun x v wr => ∃ (pre : List UInt8) (q : Nat), x = .int .u64 (q : Int) ∧ q < 18446744073709551616 ∧ Hid (put m = pre ++ put q) ∧ wr.ownsRow w.heap.size 5 1 v pre.length (pre.map b8) ∧ Below w.heap.size w wr) (fun x _ _ => (intOf x).toNat)
  case atStart => exact ⟨[], m, rfl, hm, rfl, World.ownsRow_nil _ _ _ _, Below.refl _ _⟩
  case round =>
    obtain ⟨pre, q, rfl, hq, hx, hown, hB⟩ := hrel
    have hlen : pre.length < 10 := by
      have h1 := put_len10 hm
      rw [hx.out, List.length_append] at h1
      have := put_pos q
      omega
    have HB := hB.size
    by_cases h1 : 128 ≤ q
    · go_wp2_with (at_builtin; refine wpList_append_own _ rfl _ _ 22 rfl w.heap.size 5 i0 (.int .u8 0) 1 1 Try.underlying22 hi hz0 hz1 hz2 rfl (by decide) _ _ _ rfl (hown.alloc _) ⟨wr.heap.size, 0, none⟩ 1 1 [.int .u8 ((q : Int) % 128 + 128)] rfl rfl (cell_one_new _ _ _) (by simp [Value.oneCell']) (by unfold maxLen; omega) (by omega) (by simp; omega) ?_; intro v' w1 hown' hgrow _)
      rw [← b8_hi q] at hown'
      have hB1 : Below w.heap.size w w1 := below_grown (hB.alloc HB _) (by simp; omega) (hown.alloc _) hgrow
      go_roundw
      case rel => exact ⟨pre ++ [UInt8.ofNat (q % 128 + 128)], q / 128, by go_num, by omega, by rw [hx.out, put_ge h1]; simp [Hid], snoc_row hown', hB1⟩
      case measure => simp [intOf]; omega
    · go_wp2_with (at_builtin; refine wpList_append_own _ rfl _ _ 22 rfl w.heap.size 5 i0 (.int .u8 0) 1 1 Try.underlying22 hi hz0 hz1 hz2 rfl (by decide) _ _ _ rfl (hown.alloc _) ⟨wr.heap.size, 0, none⟩ 1 1 [.int .u8 (q : Int)] rfl rfl (cell_one_new _ _ _) (by simp [Value.oneCell']) (by unfold maxLen; omega) (by omega) (by simp; omega) ?_; intro v' w1 hown' hgrow _)
      rw [← b8_lo (by omega)] at hown'
      have hB1 : Below w.heap.size w w1 := below_grown (hB.alloc HB _) (by simp; omega) (hown.alloc _) hgrow
      go_ret
      refine ⟨v', rfl, ?_, hB1⟩
      rw [hx.out, put_lt (by omega)]
      exact snoc_row hown'
theorem refPut_holds (m : Nat) (hm : m < 18446744073709551616) (w : World) :
    Calls Try.prog 35 #[.int .u64 (m : Int)] w fun e w' => ∃ A cap, e = .returned (.slice A (put m).length cap) ∧ (put m).length ≤ cap ∧ cap ≤ 9223372036854775807 ∧ Holds8 w'.heap.size w' A (put m) ∧ Below w.heap.size w w' :=
  (refPut_any m hm w).mono fun e w' ⟨v, he, ho, hb⟩ => by
    obtain ⟨A, cap, rfl, h1, h2, h3⟩ := holds_of_own ho
    exact ⟨A, cap, he, h1, h2, h3, hb⟩

set_option maxRecDepth 100000 in
set_option maxHeartbeats 2000000 in
/-- The document's Sum at every slice of bytes. -/
theorem refSum_any (A : Option Addr) (cs : List UInt8) (len cap : Nat) (w : World) (hlen : cs.length = len) (hl : len ≤ 9223372036854775807) (hr : Holds8 w.heap.size w A cs) :
    Calls Try.prog 37 #[.slice A len cap] w fun e w' => e = .returned (.int .u32 (sum cs : Int)) ∧ w = w' := by
  have HR := Lib.hid hr
  have HL := Lib.hid hlen
  clear hlen hr
  go_enter Try.func37, Try.ntmps37
  go_wp2
  go_loopw [3, 4] (fun cv iv wr => ∃ k q : Nat, k ≤ len ∧ iv = .int .i64 (k : Int) ∧ cv = .int .u32 (q : Int) ∧ q < 4294967296 ∧ Hid (q = folds 4294967295 (cs.take k)) ∧ w = wr) (fun _ iv _ => len - (intOf iv).toNat)
  case atStart => exact ⟨0, 4294967295, by omega, rfl, rfl, by omega, rfl, rfl⟩
  case round =>
    obtain ⟨k, q, hk, rfl, rfl, hq, HQ, rfl⟩ := hrel
    by_cases hlt : k < len
    · obtain ⟨b, off, rfl, hb, hcs⟩ := HR.out (by rw [HL.out]; omega)
      have hcx := hcs k (by rw [HL.out]; exact hlt)
      have hn := folds_next (c := 4294967295) (k := k) (cs := cs) (by rw [HL.out]; exact hlt)
      clear hcs
      generalize cs.getD k 0 = x at hcx hn
      have HN := Lib.hid hn
      have hx := x.toNat_lt
      obtain ⟨o, ho, ho'⟩ := xor32 hq (b := x.toNat) (by omega)
      have hol : o < 4294967296 := by rw [ho']; exact xor_lt hq (by omega)
      have HO := Lib.hid ho'
      unfold b8 at hcx
      clear hn ho'
      go_wp2
      go_loopw [3, 5] (fun cv iv wr => ∃ j u : Nat, j ≤ 8 ∧ iv = .int .i64 (j : Int) ∧ cv = .int .u32 (u : Int) ∧ u < 4294967296 ∧ Hid (u = halves j o) ∧ w = wr) (fun _ iv _ => 8 - (intOf iv).toNat)
      case atStart => exact ⟨0, o, by omega, rfl, rfl, hol, rfl, rfl⟩
      case round =>
        obtain ⟨j, u, hj, rfl, rfl, hu, HU, rfl⟩ := hrel
        by_cases h8 : j < 8
        · by_cases h2 : u % 2 = 1
          · have hb2 : ((u : Int) % 2 == 1) = true := by simp; omega
            obtain ⟨z, hz, hz'⟩ := xorF (a := u / 2) (by omega)
            rw [show ((u / 2 : Nat) : Int) = (u : Int) / 2 by omega] at hz
            have hzl : z < 4294967296 := by rw [hz']; exact xor_lt (by omega) (by omega)
            have HZ := Lib.hid hz'
            have H2 := Lib.hid h2
            clear hz' h2
            go_wp2
            go_roundw
            case rel => exact ⟨j + 1, z, by omega, by go_num, rfl, hzl, by show _ = half (halves j o); rw [← HU.out]; exact (half_odd H2.out HZ.out).symm, by trivial⟩
            case measure => simp [intOf]; omega
          · have hb2 : ((u : Int) % 2 == 1) = false := by simp; omega
            have H2 := Lib.hid h2
            clear h2
            go_wp2
            go_roundw
            case rel => exact ⟨j + 1, u / 2, by omega, by go_num, by go_num, by omega, by show _ = half (halves j o); rw [← HU.out]; exact (half_even H2.out).symm, by trivial⟩
            case measure => simp [intOf]; omega
        · obtain rfl : j = 8 := by omega
          go_wp2
          go_roundw
          case rel => exact ⟨k + 1, u, by omega, by go_num, rfl, hu, by show _ = _; rw [HN.out, ← HQ.out, HU.out, HO.out]; rfl, by trivial⟩
          case measure => simp [intOf]; omega
    · obtain rfl : k = len := by omega
      have hs : sum cs = q ^^^ 4294967295 := by
        have e := HQ.out
        rw [List.take_of_length_le (by rw [HL.out]; exact Nat.le_refl _)] at e
        rw [e]; rfl
      obtain ⟨o, ho, ho'⟩ := xorO hq
      rw [← ho'] at hs
      have HS := Lib.hid hs
      clear ho' hs
      go_wp2
      go_ret
      refine ⟨?_, rfl⟩
      rw [HS.out]; rfl

set_option maxHeartbeats 1000000 in
theorem refFour_any (s : Nat) (w : World) (hs : s < 4294967296) :
    Calls Try.prog 36 #[.int .u32 (s : Int)] w fun e w' => ∃ A', e = .returned (.slice (some A') 4 4) ∧ Holds8 w'.heap.size w' (some A') (four s) ∧ Below w.heap.size w w' := by
  have e0 := b8_of0 s
  have e1 := b8_of1 s
  have e2 := b8_of2 s
  have e3 := b8_of3 s hs
  have HE : Hid ((four s).map b8 = [.int .u8 ((s : Int) / 16777216), .int .u8 ((s : Int) / 65536 % 256), .int .u8 ((s : Int) / 256 % 256), .int .u8 ((s : Int) % 256)]) := Lib.hid (by
    simp only [four, List.map_cons, List.map_nil, e0, e1, e2, e3])
  clear e0 e1 e2 e3
  go_enter Try.func36, Try.ntmps36
  go_wp2
  go_ret
  exact ⟨_, rfl, holds_new (four s) (by rw [HE.out]), (Below.refl _ w).alloc (Nat.le_refl _) _⟩

set_option maxRecDepth 100000 in
set_option maxHeartbeats 1000000 in
/-- The document's Frame at bytes that fit. -/
theorem refFrame_fits (A : Option Addr) (cs : List UInt8) (len cap fl : Nat) (w : World) (hlen : cs.length = len) (hfl : (frame cs).length = fl) (hl : len ≤ 4096) (hr : Holds8 w.heap.size w A cs) (hA : A = none → cap = 0) :
    Calls Try.prog 16 #[.slice A len cap] w fun e w' => ∃ A' c', e = .returned (.tuple #[.slice A' fl c', .int .i64 0]) ∧ w'.ownsRow w.heap.size 5 1 (.slice A' fl c') (frame cs).length ((frame cs).map b8) ∧ Below w.heap.size w w' := by
  have HR := Lib.hid hr
  have HL := Lib.hid hlen
  have HF := Lib.hid hfl
  have HA := Lib.hid hA
  have hp := put_len10 (n := len) (by omega)
  obtain ⟨pl, hpl⟩ : ∃ pl, (put len).length = pl := ⟨_, rfl⟩
  rw [hpl] at hp
  have HP := Lib.hid hpl
  have HZ : Hid ((put len ++ four (sum cs)).length = pl + 4) := Lib.hid (by rw [List.length_append, hpl, four_length])
  have HE : Hid (frame cs = (put len ++ four (sum cs)) ++ cs) := Lib.hid (by rw [← hlen]; simp [frame])
  have hfe : fl = pl + 4 + len := by rw [← hfl, frame_length, hlen, hpl]
  clear hr hlen hfl hA hpl
  subst hfe
  have d1 : decide ((4096 : Int) < (len : Int)) = false := by simp; omega
  go_enter Try.func16, Try.ntmps16
  go_wp2_with fail
  refine (refPut_any len (by omega) _).mono ?_
  rintro e w1 ⟨v1, rfl, hown1, hb1⟩
  have HO1 := Lib.hid hown1
  clear hown1
  go_wp2_with fail
  refine (refSum_any A cs len cap w1 HL.out (by omega) (HR.out.later hb1)).mono ?_
  rintro e w2 ⟨rfl, rfl⟩
  go_wp2_with fail
  refine (refFour_any (sum cs) w1 (sum_lt cs)).mono ?_
  rintro e w2 ⟨A2, rfl, hr2, hb2⟩
  have HO2 := Lib.hid (own_later HO1.out hb2)
  have HR2 := Lib.hid hr2
  have hB2 := hb1.trans (hb2.mono hb1.size)
  have hS2 := hB2.size
  clear hr2 HO1 hb2
  go_wp2_with (first
    | (at_builtin; refine app_bytes rfl (.tmp 16) (.tmp 17) rfl w.heap.size w2.heap.size v1 (put len) (four (sum cs)) (put len ++ four (sum cs)) (pl + 4) rfl HZ.out rfl HO2.out (some A2) 4 4 rfl (four_length _) HR2.out (fun h => by cases h) (by omega) hS2 ?_; intro A3 c3 w3 hown3 hg3; have hB3 := below_grown hB2 hS2 HO2.out hg3; have hS3 := hB3.size; have HO3 := Lib.hid hown3; clear hown3 hg3)
    | (at_builtin; refine app_bytes rfl (.tmp 19) (.tmp 20) rfl w.heap.size w.heap.size (.slice A3 (pl + 4) c3) (put len ++ four (sum cs)) cs (frame cs) (pl + 4 + len) HE.out HF.out rfl HO3.out A len cap rfl HL.out (HR.out.below hB3) HA.out (by omega) hS3 ?_; intro A4 c4 w4 hown4 hg4; have hB4 := below_grown hB3 hS3 HO3.out hg4; have HO4 := Lib.hid hown4; clear hown4 hg4))
  go_ret2
  exact ⟨A4, c4, rfl, HO4.out, hB4⟩

theorem refFrame_long (A : Option Addr) (len cap : Nat) (w : World) (hl : 4096 < len) (hm : len ≤ 9223372036854775807) :
    Calls Try.prog 16 #[.slice A len cap] w fun e w' => e = .returned (.tuple #[.slice none 0 0, .int .i64 3]) ∧ w = w' := by
  have d1 : decide ((4096 : Int) < (len : Int)) = true := by simp; omega
  go_enter Try.func16, Try.ntmps16
  go_wp2
  go_ret2
  exact ⟨rfl, rfl⟩

end Go.Proofs.Ytdjejkjkcahdgaa
