/-
  What frame's check does, at every slice of bytes: Sum is the chapter's number, sumOf its four bytes in new memory; nothing that lay has turned.
-/
import Derived.WalkKit
import Derived.WalkSpells
import Derived.WalkLawsBesides
import Derived.Lib.Hide
import Derived.Laws.BitsAllLaws
import Derived.Test.YtdjejkjkcahdgaaNumGet
import Derived.Test.YtdjejkjkcahdgaaFrameMath
namespace Go.Proofs.Ytdjejkjkcahdgaa
open Go.RowKit Go.Proofs.NumMath Go.Proofs.FrameMath

theorem xor32 {a b : Nat} (ha : a < 4294967296) (hb : b < 4294967296) : ∃ o : Nat, bits .xor .u32 (a : Int) (b : Int) = (o : Int) ∧ o = a ^^^ b := ⟨_, u32_xor_nat a b ha hb, rfl⟩
theorem xorF {a : Nat} (ha : a < 4294967296) : ∃ o : Nat, bits .xor .u32 (a : Int) 3988292384 = (o : Int) ∧ o = a ^^^ 3988292384 := ⟨_, u32_xor_nat a 3988292384 ha (by omega), rfl⟩
theorem xorO {a : Nat} (ha : a < 4294967296) : ∃ o : Nat, bits .xor .u32 (a : Int) 4294967295 = (o : Int) ∧ o = a ^^^ 4294967295 := ⟨_, u32_xor_nat a 4294967295 ha (by omega), rfl⟩
theorem half_odd {q o : Nat} (h : q % 2 = 1) (ho : o = q / 2 ^^^ 3988292384) : half q = o := by unfold half; rw [if_pos h, ho]
theorem half_even {q : Nat} (h : ¬ q % 2 = 1) : half q = q / 2 := by unfold half; rw [if_neg h]

set_option maxRecDepth 100000 in
set_option maxHeartbeats 1000000 in
theorem with_any (c : Nat) (x : UInt8) (w : World) (hc : c < 4294967296) :
    Calls Try.prog 63 #[.int .u32 (c : Int), b8 x] w fun e w' => e = .returned (.int .u32 (with8 c x.toNat : Int)) ∧ w = w' := by
  have hx := x.toNat_lt
  obtain ⟨o, ho, ho'⟩ := xor32 hc (b := x.toNat) (by omega)
  have hol : o < 4294967296 := by rw [ho']; exact xor_lt hc (by omega)
  have HO := Lib.hid ho'
  clear ho'
  unfold b8
  go_enter Try.func63, Try.ntmps63
  go_wp2
  go_loopw [0, 10] (fun cv iv wr => ∃ k q : Nat, k ≤ 8 ∧ iv = .int .i64 (k : Int) ∧ cv = .int .u32 (q : Int) ∧ q < 4294967296 ∧ Hid (q = halves k o) ∧ wr = w) (fun _ iv _ => 8 - (intOf iv).toNat)
  case atStart => exact ⟨0, o, by omega, rfl, rfl, hol, rfl, rfl⟩
  case round =>
    obtain ⟨k, q, hk, rfl, rfl, hq, HQ, rfl⟩ := hrel
    by_cases h8 : k < 8
    · by_cases h2 : q % 2 = 1
      · have hb : ((q : Int) % 2 == 1) = true := by simp; omega
        obtain ⟨u, hu, hu'⟩ := xorF (a := q / 2) (by omega)
        rw [show ((q / 2 : Nat) : Int) = (q : Int) / 2 by omega] at hu
        have hul : u < 4294967296 := by rw [hu']; exact xor_lt (by omega) (by omega)
        have HU := Lib.hid hu'
        have H2 := Lib.hid h2
        clear hu' h2
        go_wp2
        go_roundw
        case rel => exact ⟨k + 1, u, by omega, by go_num, rfl, hul, by show _ = half (halves k o); rw [← HQ.out]; exact (half_odd H2.out HU.out).symm, by trivial⟩
        case measure => simp [intOf]; omega
      · have hb : ((q : Int) % 2 == 1) = false := by simp; omega
        have H2 := Lib.hid h2
        clear h2
        go_wp2
        go_roundw
        case rel => exact ⟨k + 1, q / 2, by omega, by go_num, by go_num, by omega, by show _ = half (halves k o); rw [← HQ.out]; exact (half_even H2.out).symm, by trivial⟩
        case measure => simp [intOf]; omega
    · obtain rfl : k = 8 := by omega
      go_wp2
      go_ret
      refine ⟨?_, rfl⟩
      rw [HQ.out, HO.out]; rfl

/-- The first k bytes. -/
theorem folds_next {cs : List UInt8} {k c : Nat} (h : k < cs.length) : folds c (cs.take (k + 1)) = with8 (folds c (cs.take k)) (cs.getD k 0).toNat := by
  rw [List.take_succ_eq_append_getElem h, folds_snoc]
  simp [h]

set_option maxRecDepth 100000 in
set_option maxHeartbeats 1000000 in
theorem fold_any (A : Option Addr) (cs : List UInt8) (cap c : Nat) (w : World) (hl : cs.length ≤ 9223372036854775807) (hc : c < 4294967296) (hr : Holds8 w.heap.size w A cs) :
    Calls Try.prog 62 #[.slice A cs.length cap, .int .u32 (c : Int), .func (.func 63) #[] #[]] w fun e w' => e = .returned (.int .u32 (folds c cs : Int)) ∧ w = w' := by
  have HR := Lib.hid hr
  obtain ⟨len, hlen⟩ : ∃ len, cs.length = len := ⟨_, rfl⟩
  rw [hlen] at hl ⊢
  have HL := Lib.hid hlen
  clear hlen hr
  go_enter Try.func62, Try.ntmps62
  go_wp2
  go_loopw [1, 11] (fun cv iv wr => ∃ k q : Nat, k ≤ len ∧ iv = .int .i64 (k : Int) ∧ cv = .int .u32 (q : Int) ∧ q < 4294967296 ∧ Hid (q = folds c (cs.take k)) ∧ wr = w) (fun _ iv _ => len - (intOf iv).toNat)
  case atStart => exact ⟨0, c, by omega, rfl, rfl, hc, rfl, rfl⟩
  case round =>
    obtain ⟨k, q, hk, rfl, rfl, hq, HQ, rfl⟩ := hrel
    by_cases hlt : k < len
    · obtain ⟨b, off, rfl, hb, hcs⟩ := HR.out (by rw [HL.out]; omega)
      have hcx := hcs k (by rw [HL.out]; exact hlt)
      have hn := folds_next (c := c) (k := k) (cs := cs) (by rw [HL.out]; exact hlt)
      clear hcs
      generalize cs.getD k 0 = x at hcx hn
      have HN := Lib.hid hn
      clear hn
      go_wp2_with (go_at_call 63; refine (with_any q x _ hq).mono ?_; rintro e w1 ⟨rfl, rfl⟩)
      go_roundw
      case rel => exact ⟨k + 1, _, by omega, by go_num, rfl, with8_lt hq x.toNat_lt, by show _ = _; rw [HN.out, ← HQ.out], by trivial⟩
      case measure => simp [intOf]; omega
    · obtain rfl : k = len := by omega
      go_wp2
      go_ret
      refine ⟨?_, rfl⟩
      rw [HQ.out, List.take_of_length_le (by rw [HL.out]; exact Nat.le_refl _)]; rfl

set_option maxHeartbeats 1000000 in
/-- **frame.Sum at every slice of bytes.** -/
theorem sum_any (A : Option Addr) (cs : List UInt8) (cap : Nat) (w : World) (hl : cs.length ≤ 9223372036854775807) (hr : Holds8 w.heap.size w A cs) :
    Calls Try.prog 32 #[.slice A cs.length cap] w fun e w' => e = .returned (.int .u32 (sum cs : Int)) ∧ w = w' := by
  have hf := fold_any A cs cap 4294967295 w hl (by omega) hr
  have hlt := folds_lt cs (c := 4294967295) (by omega)
  have hs : sum cs = folds 4294967295 cs ^^^ 4294967295 := rfl
  rw [hs]
  generalize folds 4294967295 cs = q at hf hlt
  obtain ⟨o, ho, ho'⟩ := xorO hlt
  rw [← ho']
  have HF := Lib.hid hf
  clear hf hs ho' hr
  go_enter Try.func32, Try.ntmps32
  go_wp2_with (go_at_call 62; refine HF.out.mono ?_; rintro e w1 ⟨rfl, rfl⟩)
  go_ret
  exact ⟨rfl, rfl⟩

end Go.Proofs.Ytdjejkjkcahdgaa
