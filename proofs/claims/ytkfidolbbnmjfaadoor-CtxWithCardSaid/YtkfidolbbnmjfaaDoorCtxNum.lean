/-
  What ctx's numbers are: digits read and laid, whatever the text and the number.
-/
import Derived.WalkLawsBesides
import Derived.Test.YtkfidolbbnmjfaaDoorCtxMath
import Derived.Test.YtkfidolbbnmjfaaDoorCtxShelf
import Derived.Test.YtkfidolbbnmjfaaDoorArr0
namespace Go.Proofs.YtkfidolbbnmjfaaDoor
open Go.RowKit Go.Proofs.CtxMath

def hexs : List UInt8 := [48, 49, 50, 51, 52, 53, 54, 55, 56, 57, 97, 98, 99, 100, 101, 102]
theorem index_hex : ∀ c : Fin 256, Lib.indexByte hexs (UInt8.ofNat c.val) = match unhex (UInt8.ofNat c.val) with | some d => (d : Int) | none => -1 := by decide +kernel
theorem index_any (c : UInt8) (w : World) (r : Int) (h : (match unhex c with | some d => (d : Int) | none => -1) = r) : Calls Tryd.prog 61 #[.string ⟨#[48, 49, 50, 51, 52, 53, 54, 55, 56, 57, 97, 98, 99, 100, 101, 102]⟩, .int .u8 (c.toNat : Int)] w fun e w' => e = .returned (.int .i64 r) ∧ w = w' :=
  (Tryd.strings_IndexByte _ _ w).mono fun _ _ ⟨he, hw⟩ => ⟨by
    rw [he]
    have := index_hex ⟨c.toNat, c.toNat_lt⟩
    have e1 : UInt8.ofNat c.toNat = c := by simp
    rw [e1, h] at this
    show Ending.returned (.int .i64 (Lib.indexByte hexs ((c.toNat : Int).toNat.toUInt8))) = _
    rw [Int.toNat_natCast, show c.toNat.toUInt8 = c by simp, this], hw.symm⟩
def numV (o : Option Nat) : Value := match o with | some n => .tuple #[.int .u64 (n : Int), .bool true] | none => .tuple #[.int .u64 0, .bool false]

set_option maxRecDepth 100000 in
set_option maxHeartbeats 2000000 in
theorem number_any (s : ByteArray) (w : World) (hs : s.size ≤ 9223372036854775807) : Calls Tryd.prog 41 #[.string s] w fun e w' => e = .returned (numV (hexNum s.data.toList)) ∧ Below w.heap.size w w' := by
  obtain ⟨cap, w1, hcv, hB, hcell, _⟩ := text_bytes s w
  obtain ⟨cs, hcs⟩ : ∃ cs, s.data.toList = cs := ⟨_, rfl⟩
  have hl : cs.length = s.size := by rw [← hcs]; simp
  rw [hcs] at hcell ⊢
  obtain ⟨P, hP⟩ : ∃ P, hexNum cs = P := ⟨_, rfl⟩
  rw [hP]
  have HP := Lib.hid hP
  obtain ⟨n, hn⟩ : ∃ n, s.size = n := ⟨_, rfl⟩
  rw [hn] at hl hcv hcell hs
  have HL := Lib.hid hl
  have HC := Lib.hid hcell
  clear hcs hl hcell hP
  go_enter Tryd.func41, Tryd.ntmps41
  go_wp2_with fail
  go_loopw [2, 10] (fun a b wr => ∃ v k : Nat, k ≤ n ∧ a = .int .u64 (v : Int) ∧ b = .int .i64 (k : Int) ∧ v < 18446744073709551616 ∧ Hid (hexNum cs = hexOn (cs.drop k) v) ∧ wr = w1) (fun _ b _ => n - (intOf b).toNat)
  case atStart => exact ⟨0, 0, by omega, rfl, rfl, by omega, by simp [Hid, hexNum], rfl⟩
  case round =>
    obtain ⟨v, k, hk, rfl, rfl, hv, hR, rfl⟩ := hrel
    by_cases hlt : k < n
    · have dl : decide ((k : Int) < (n : Int)) = true := by simp; omega
      have dl' : decide (k < n) = true := by simp; omega
      have hcell := HC.out k hlt
      obtain ⟨c, hc⟩ : ∃ c, cs.getD k 0 = c := ⟨_, rfl⟩
      rw [hc] at hcell
      have hc0 := c.toNat_lt
      unfold b8 at hcell
      have hkl : k < cs.length := by rw [HL.out]; exact hlt
      cases hu : unhex c with
      | none =>
        have hno := hexOn_none (v := v) hkl hc hu
        have hI := fun W => index_any c W (-1) (by rw [hu])
        have hpn : P = none := by rw [← HP.out, hR.out, hno]
        subst hpn
        have HI := Lib.hid hI
        clear hI hno hR HP hu hc hkl hv
        generalize c.toNat = cn at *
        go_wp2_with fail
        refine (HI.out _).mono ?_
        rintro e w' ⟨rfl, rfl⟩
        go_wp2_with fail
        go_ret2
        exact ⟨rfl, hB⟩
      | some d =>
        have hyes := hexOn_some (v := v) hkl hc hu
        have hd := unhex_lt hu
        have hI := fun W => index_any c W (d : Int) (by rw [hu])
        obtain ⟨a, ha, ha'⟩ : ∃ a : Nat, IntKind.u64.wrap ((v : Int) * 16) = (a : Int) ∧ a = v * 16 % 18446744073709551616 := ⟨v * 16 % 18446744073709551616, by rw [IntKind.wrap_u64]; omega, rfl⟩
        obtain ⟨b, hb, hb'⟩ : ∃ b : Nat, IntKind.u64.wrap ((a : Int) + (d : Int)) = (b : Int) ∧ b = (v * 16 + d) % 18446744073709551616 := ⟨(v * 16 + d) % 18446744073709551616, by rw [IntKind.wrap_u64, ha']; omega, rfl⟩
        have hR2 : hexNum cs = hexOn (cs.drop (k + 1)) b := by rw [hR.out, hyes, hb']
        have hbl : b < 18446744073709551616 := by rw [hb']; exact Nat.mod_lt _ (by omega)
        have HI := Lib.hid hI
        have HR2 := Lib.hid hR2
        clear hI hyes hR hu hc hkl hR2 ha' hb'
        generalize c.toNat = cn at *
        go_wp2_with fail
        refine (HI.out _).mono ?_
        rintro e w' ⟨rfl, rfl⟩
        go_wp2_with fail
        go_roundw
        case rel => exact ⟨b, k + 1, by omega, rfl, by go_num, hbl, HR2, by trivial⟩
        case measure => simp [intOf]; omega
    · have dl : decide ((k : Int) < (n : Int)) = false := by simp; omega
      have dl' : decide (k < n) = false := by simp; omega
      obtain rfl : k = n := by omega
      have hpn : P = some v := by rw [← HP.out, hR.out, List.drop_of_length_le (by rw [HL.out]; omega)]; rfl
      subst hpn
      clear hR HP
      go_wp2_with fail
      go_ret2
      exact ⟨rfl, hB⟩

theorem nought16 : ∀ j : Fin 16, (#[.int .u8 0, .int .u8 0, .int .u8 0, .int .u8 0, .int .u8 0, .int .u8 0, .int .u8 0, .int .u8 0, .int .u8 0, .int .u8 0, .int .u8 0, .int .u8 0, .int .u8 0, .int .u8 0, .int .u8 0, .int .u8 0] : Array Value)[j.val]? = some (.int .u8 0) := by
  intro ⟨j, hj⟩
  rcases (by omega : j = 0 ∨ j = 1 ∨ j = 2 ∨ j = 3 ∨ j = 4 ∨ j = 5 ∨ j = 6 ∨ j = 7 ∨ j = 8 ∨ j = 9 ∨ j = 10 ∨ j = 11 ∨ j = 12 ∨ j = 13 ∨ j = 14 ∨ j = 15) with rfl | rfl | rfl | rfl | rfl | rfl | rfl | rfl | rfl | rfl | rfl | rfl | rfl | rfl | rfl | rfl <;> rfl
theorem hex_sign : ∀ g : Fin 16, (⟨#[48, 49, 50, 51, 52, 53, 54, 55, 56, 57, 97, 98, 99, 100, 101, 102]⟩ : ByteArray)[g.val]'(by have := g.isLt; exact this) = hexd g.val := by decide

set_option maxRecDepth 100000 in
set_option maxHeartbeats 2000000 in
theorem laid_any (n size : Nat) (w : World) (hs : size ≤ 16) (h1 : 1 ≤ size) : Calls Tryd.prog 29 #[.int .u64 (n : Int), .int .i64 (size : Int)] w fun e w' => e = .returned (.string ⟨(last n size).toArray⟩) ∧ Below w.heap.size w w' := by
  go_enter Tryd.func29, Tryd.ntmps29
  go_wp2_with fail
  go_loopw [0, 7] (fun nv iv wr => ∃ i v : Nat, i ≤ 16 ∧ nv = .int .u64 (v : Int) ∧ iv = .int .i64 (i : Int) ∧ Hid (v = n / 16 ^ i) ∧ Arr wr w.heap.size 16 (laidAt n i) ∧ Below w.heap.size w wr) (fun _ i _ => 16 - (intOf i).toNat)
  case atStart => exact ⟨0, n, by omega, rfl, rfl, by simp [Hid], arr_new w rfl (fun j hj => nought16 ⟨j, hj⟩) _ (laidAt_none n), (Below.refl _ _).alloc (Nat.le_refl _) _⟩
  case round =>
    obtain ⟨i, v, hi, rfl, rfl, hV, hA, hB⟩ := hrel
    by_cases hlt : i < 16
    · have dl : decide ((i : Int) < 16) = true := by simp; omega
      obtain ⟨c, hc⟩ : ∃ c, c = 15 - i := ⟨_, rfl⟩
      have e1 : (15 : Int) - (i : Int) = (c : Int) := by omega
      obtain ⟨g, hg⟩ : ∃ g, g = v % 16 := ⟨_, rfl⟩
      have e5 : (v : Int) % 16 = (g : Int) := by omega
      obtain ⟨u, hu⟩ : ∃ u, u = v / 16 := ⟨_, rfl⟩
      have e4 : (v : Int) / 16 = (u : Int) := by omega
      have hgd : g = dig n c := by unfold dig; rw [hg, hV.out, hc, show 15 - (15 - i) = i by omega]
      have hU : Hid (u = n / 16 ^ (i + 1)) := Lib.hid (by rw [hu, hV.out, Nat.div_div_eq_div_mul, Nat.pow_succ])
      have hcl : c < 16 := by omega
      have e6 : (g : Int) < 16 := by omega
      have HG := Lib.hid hgd
      have HCC := Lib.hid hc
      have hst := laidAt_step n i hlt
      rw [← hc] at hst
      have hck := (hA.2 c hcl).1
      have hfk := (hA.2 c hcl).2
      have HA := Lib.hid hA
      have fin : ∀ (W : World), W = wr.setCell ⟨w.heap.size, c, none⟩ (b8 (hexd g)) → Arr W w.heap.size 16 (laidAt n (i + 1)) ∧ Below w.heap.size w W := fun W e => by
        subst e
        exact ⟨HA.out.set hcl (by rw [HG.out]; exact hst.1) hst.2, hB.setCell (p := ⟨w.heap.size, c, none⟩) (by simp) _⟩
      have HF := Lib.hid fin
      clear hA fin hst hg hu hgd hc hV
      go_wp2_with fail
      go_roundw
      case rel => exact ⟨i + 1, u, by omega, rfl, by go_num, hU, HF.out _ (by rw [hex_sign ⟨g, by omega⟩]; rfl)⟩
      case measure => simp [intOf]; omega
    · have dl : decide ((i : Int) < 16) = false := by simp; omega
      obtain rfl : i = 16 := by omega
      obtain ⟨m, hm⟩ : ∃ m, m = 16 - size := ⟨_, rfl⟩
      have e1 : (16 : Int) - (size : Int) = (m : Int) := by omega
      have hm16 : m < 16 := by omega
      have hms : 16 - m = size := by omega
      have hh : Holds8 wr.heap.size wr (some ⟨w.heap.size, m, none⟩) (last n size) := fun _ => ⟨w.heap.size, m, rfl, hA.1, fun j hj => by
        rw [last_len n size hs] at hj
        rw [(hA.2 (m + j) (by omega)).1, last_get n size j hs hj, laidAt_all n (m + j) (by omega), hm]⟩
      have trr := text_run (some ⟨w.heap.size, m, none⟩) (last n size) size size wr _ (last_len n size hs) hh
      have hsl : ∀ W : World, (Instr.sliceAt 92 (.pointer (some ⟨w.heap.size, 0, none⟩)) (some (.int .i64 (m : Int))) none none).run Tryd.prog W = .ok (.slice (some ⟨w.heap.size, m, none⟩) size size) W := fun W => by
        rw [run_sliceAt_array_l W 92 _ (by kernel_rfl) .i64 (m : Int) (by omega) (by rw [show Tryd.prog.arrayLen 92 = 16 by kernel_rfl]; omega)]
        have hz : (sizeOf (Tryd.prog.elem 92)).run Tryd.prog W = .ok 1 W := by kernel_rfl
        rw [hz, show Tryd.prog.arrayLen 92 = 16 by kernel_rfl]
        have hz0 : (⟨w.heap.size, 0, none⟩ : Addr).add m = ⟨w.heap.size, m, none⟩ := by unfold Addr.add; split <;> simp_all
        simp only [slicedAt, Result.andThen, Int.toNat_natCast, Nat.mul_one, hms]
        rw [hz0, if_neg (by omega)]
      obtain ⟨t, ht⟩ : ∃ t : ByteArray, ⟨(last n size).toArray⟩ = t := ⟨_, rfl⟩
      rw [ht] at trr
      have HT := Lib.hid ht
      clear hh hA hm hms hV ht
      go_wp2_with fail
      go_ret
      exact ⟨by rw [HT.out]; rfl, hB⟩
end Go.Proofs.YtkfidolbbnmjfaaDoor
