/-
  What frame.sumOf, bytes.Equal, bytes.Clone and frame.Frame do, at every slice of bytes; nothing that lay has turned.
-/
import Derived.Test.YtdjejkjkcahdgaaNumBytes
import Derived.Test.YtdjejkjkcahdgaaFrameSum
namespace Go.Proofs.Ytdjejkjkcahdgaa
open Go.RowKit Go.Proofs.NumMath Go.Proofs.FrameMath

/-- The four bytes when k of them are laid. -/
def fourRow (s : Nat) : Nat → Array Value
  | 0 => #[.int .u8 0, .int .u8 0, .int .u8 0, .int .u8 0]
  | 1 => #[.int .u8 0, .int .u8 0, .int .u8 0, b8 (UInt8.ofNat s)]
  | 2 => #[.int .u8 0, .int .u8 0, b8 (UInt8.ofNat (s / 256)), b8 (UInt8.ofNat s)]
  | 3 => #[.int .u8 0, b8 (UInt8.ofNat (s / 65536)), b8 (UInt8.ofNat (s / 256)), b8 (UInt8.ofNat s)]
  | _ => #[b8 (UInt8.ofNat (s / 16777216)), b8 (UInt8.ofNat (s / 65536)), b8 (UInt8.ofNat (s / 256)), b8 (UInt8.ofNat s)]

theorem b8_of0 (s : Nat) : b8 (UInt8.ofNat s) = .int .u8 ((s : Int) % 256) := by simp [b8]
theorem b8_of1 (s : Nat) : b8 (UInt8.ofNat (s / 256)) = .int .u8 ((s : Int) / 256 % 256) := by simp [b8]
theorem b8_of2 (s : Nat) : b8 (UInt8.ofNat (s / 65536)) = .int .u8 ((s : Int) / 65536 % 256) := by simp [b8]
theorem b8_of3 (s : Nat) (hs : s < 4294967296) : b8 (UInt8.ofNat (s / 16777216)) = .int .u8 ((s : Int) / 16777216) := by simp [b8]; omega

set_option maxRecDepth 100000 in
set_option maxHeartbeats 1000000 in
theorem sumOf_any (A : Option Addr) (cs : List UInt8) (cap : Nat) (w : World) (hl : cs.length ≤ 9223372036854775807) (hr : Holds8 w.heap.size w A cs) :
    Calls Try.prog 34 #[.slice A cs.length cap] w fun e w' => e = .returned (.slice (some ⟨w.heap.size, 0, none⟩) 4 4) ∧ w' = w.alloc (.cells (fourRow (sum cs) 4) 5) := by
  have hsum := sum_any A cs cap w hl hr
  have hs := sum_lt cs
  generalize sum cs = s at hsum hs
  have HS := Lib.hid hsum
  clear hsum hr
  have hmk : ∀ w : World, (Instr.makeSlice 22 (.int .i64 4) (.int .i64 4)).run Try.prog w = .ok (.slice (some ⟨w.heap.size, 0, none⟩) 4 4) (w.alloc (.cells #[.int .u8 0, .int .u8 0, .int .u8 0, .int .u8 0] 5)) := fun _ => by kernel_rfl
  go_enter Try.func34, Try.ntmps34
  go_wp2_with (go_at_call 32; refine HS.out.mono ?_; rintro e w1 ⟨rfl, rfl⟩)
  go_loopw [9] (fun iv wr => ∃ k : Nat, k ≤ 4 ∧ iv = .int .i64 (k : Int) ∧ wr = w.alloc (.cells (fourRow s k) 5)) (fun iv _ => 4 - (intOf iv).toNat)
  case atStart => exact ⟨0, by omega, rfl, rfl⟩
  case round =>
    obtain ⟨k, hk, rfl, rfl⟩ := hrel
    clear hmk HS
    rcases (by omega : k = 0 ∨ k = 1 ∨ k = 2 ∨ k = 3 ∨ k = 4) with rfl | rfl | rfl | rfl | rfl
    · unfold fourRow
      go_wp2
      go_roundw
      case rel => exact ⟨1, by omega, rfl, by rw [b8_of0]; rfl⟩
      case measure => simp [intOf]
    · unfold fourRow
      go_wp2
      go_roundw
      case rel => exact ⟨2, by omega, rfl, by rw [b8_of1]; rfl⟩
      case measure => simp [intOf]
    · unfold fourRow
      go_wp2
      go_roundw
      case rel => exact ⟨3, by omega, rfl, by rw [b8_of2]; rfl⟩
      case measure => simp [intOf]
    · unfold fourRow
      go_wp2
      go_roundw
      case rel => exact ⟨4, by omega, rfl, by rw [b8_of3 s hs]; rfl⟩
      case measure => simp [intOf]
    · go_wp2
      go_ret
      exact ⟨rfl, rfl⟩

theorem fourRow_holds (w : World) (s : Nat) : Holds8 (w.alloc (.cells (fourRow s 4) 5)).heap.size (w.alloc (.cells (fourRow s 4) 5)) (some ⟨w.heap.size, 0, none⟩) (four s) := fun _ =>
  ⟨w.heap.size, 0, rfl, by simp, fun j hj => by
    rw [four_length] at hj
    rcases (by omega : j = 0 ∨ j = 1 ∨ j = 2 ∨ j = 3) with rfl | rfl | rfl | rfl <;> simp [fourRow, four]⟩
theorem sumOf_holds (A : Option Addr) (cs : List UInt8) (len cap : Nat) (w : World) (hlen : cs.length = len) (hl : len ≤ 9223372036854775807) (hr : Holds8 w.heap.size w A cs) :
    Calls Try.prog 34 #[.slice A len cap] w fun e w' => ∃ A', e = .returned (.slice (some A') 4 4) ∧ Holds8 w'.heap.size w' (some A') (four (sum cs)) ∧ Below w.heap.size w w' := by
  subst hlen
  exact (sumOf_any A cs cap w hl hr).mono fun e w' ⟨he, hw⟩ => by
    subst hw
    exact ⟨_, he, fourRow_holds w _, (Below.refl _ w).alloc (Nat.le_refl _) _⟩

set_option maxHeartbeats 400000 in
/-- **bytes.Equal at every two slices of bytes.** -/
theorem equal_any (A B : Option Addr) (xs ys : List UInt8) (m n c d : Nat) (w : World) (bt : Bool) (hm : xs.length = m) (hn : ys.length = n) (hx : Holds8 w.heap.size w A xs) (hy : Holds8 w.heap.size w B ys) (hbt : bt = decide (xs = ys)) :
    Calls Try.prog 58 #[.slice A m c, .slice B n d] w fun e w' => e = .returned (.bool bt) ∧ w = w' := by
  have c1 := text_run A xs m c w _ hm hx
  have c2 := text_run B ys n d w _ hn hy
  have hb : ((⟨xs.toArray⟩ : ByteArray).toList == (⟨ys.toArray⟩ : ByteArray).toList) = bt := by
    rw [hbt, ByteArray.toList_eq, ByteArray.toList_eq, Bool.eq_iff_iff]
    simp
  generalize (⟨xs.toArray⟩ : ByteArray) = sa at c1 hb
  generalize (⟨ys.toArray⟩ : ByteArray) = sb at c2 hb
  clear hx hy hm hn hbt
  go_enter Try.func58, Try.ntmps58
  go_wp2
  go_ret
  exact ⟨rfl, rfl⟩

theorem heap_last (w : World) (o : Obj) : (w.alloc o).heap[w.heap.size]? = some o := by
  show (w.heap.push o)[w.heap.size]? = some o
  simp
theorem own_empty (w : World) : (w.alloc (.cells #[] 5)).ownsRow w.heap.size 5 1 (.slice (some ⟨w.heap.size, 0, none⟩) 0 0) ([] : List UInt8).length (([] : List UInt8).map b8) :=
  ⟨rfl, .inr ⟨w.heap.size, 0, #[], rfl, Nat.le_refl _, heap_last w _, Nat.le_refl _, by unfold maxLen; omega, rfl, rfl⟩⟩
theorem own_none {w : World} {base : Nat} : w.ownsRow base 5 1 (.slice none 0 0) ([] : List UInt8).length (([] : List UInt8).map b8) := World.ownsRow_nil _ _ _ _

set_option maxRecDepth 100000 in
set_option maxHeartbeats 1000000 in
/-- **bytes.Clone at every slice of bytes.** -/
theorem clone_any (A : Option Addr) (cs : List UInt8) (len cap : Nat) (w : World) (hlen : cs.length = len) (hl : len ≤ 1000000) (hr : Holds8 w.heap.size w A cs) :
    Calls Try.prog 61 #[.slice A len cap] w fun e w' => ∃ A' c', e = .returned (.slice A' len c') ∧ w'.ownsRow w.heap.size 5 1 (.slice A' len c') cs.length (cs.map b8) ∧ Below w.heap.size w w' := by
  have HR := Lib.hid hr
  have HL := Lib.hid hlen
  have hnil := fun w => Lib.run_eql_slice_nil (P := Try.prog) w 22 5 A len cap 0 0 Try.underlying22
  clear hr hlen
  rcases A with _ | a
  · have hy : cs = [] := by
      rcases Nat.eq_zero_or_pos cs.length with h0 | h0
      · exact List.eq_nil_of_length_eq_zero h0
      · obtain ⟨_, _, e, _⟩ := HR.out h0
        cases e
    subst hy
    obtain rfl : 0 = len := HL.out
    go_enter Try.func61, Try.ntmps61
    go_wp2
    go_ret
    exact ⟨none, 0, rfl, own_none, Below.refl _ _⟩
  · have hbs : ∀ w : World, (Instr.buildSlice 22 0 #[]).run Try.prog w = .ok (.slice (some ⟨w.heap.size, 0, none⟩) 0 0) (w.alloc (.cells #[] 5)) := fun _ => by kernel_rfl
    have hB1 : Below w.heap.size w (w.alloc (.cells #[] 5)) := (Below.refl _ w).alloc (Nat.le_refl _) _
    go_enter Try.func61, Try.ntmps61
    go_wp2_with (at_builtin; refine app_bytes rfl (.tmp 5) (.tmp 6) rfl w.heap.size w.heap.size (.slice (some ⟨w.heap.size, 0, none⟩) 0 0) [] cs cs len rfl HL.out rfl (own_empty w) (some a) len cap rfl HL.out (HR.out.below hB1) (fun h => by cases h) (by omega) (by simp) ?_; intro A' c' w' hown hg)
    go_ret
    exact ⟨A', c', rfl, hown, below_grown hB1 (by simp) (own_empty w) hg⟩

set_option maxRecDepth 100000 in
set_option maxHeartbeats 1000000 in
/-- **frame.Frame at bytes that fit.** -/
theorem frame_fits (A : Option Addr) (cs : List UInt8) (len cap fl : Nat) (w : World) (hlen : cs.length = len) (hfl : (frame cs).length = fl) (hl : len ≤ 4096) (hr : Holds8 w.heap.size w A cs) (hA : A = none → cap = 0) :
    Calls Try.prog 14 #[.slice A len cap] w fun e w' => ∃ A' c', e = .returned (.tuple #[.slice A' fl c', .int .u16 0]) ∧ w'.ownsRow w.heap.size 5 1 (.slice A' fl c') (frame cs).length ((frame cs).map b8) ∧ Below w.heap.size w w' := by
  have HR := Lib.hid hr
  have HL := Lib.hid hlen
  have HF := Lib.hid hfl
  have HA := Lib.hid hA
  have hp := put_len10 (n := len) (by omega)
  obtain ⟨pl, hpl⟩ : ∃ pl, (put len).length = pl := ⟨_, rfl⟩
  rw [hpl] at hp
  have HP := Lib.hid hpl
  have HZ : Hid ((put len ++ four (sum cs)).length = pl + 4) := Lib.hid (by rw [List.length_append, hpl, four_length])
  have HE : Hid (frame cs = (put len ++ four (sum cs)) ++ cs) := Lib.hid (by rw [← hlen]; simp [frame])
  have hfe : fl = pl + 4 + len := by rw [← hfl, frame_length, hlen, hpl]
  clear hr hlen hfl hA hpl
  subst hfe
  have d1 : decide ((4096 : Int) < (len : Int)) = false := by simp; omega
  go_enter Try.func14, Try.ntmps14
  go_wp2_with fail
  refine (put_any len (by omega) _).mono ?_
  rintro e w1 ⟨v1, rfl, hown1, hb1⟩
  have HO1 := Lib.hid hown1
  clear hown1
  go_wp2_with fail
  refine (sumOf_holds A cs len cap w1 HL.out (by omega) (HR.out.later hb1)).mono ?_
  rintro e w2 ⟨A2, rfl, hr2, hb2⟩
  have HO2 := Lib.hid (own_later HO1.out hb2)
  have HR2 := Lib.hid hr2
  have hB2 := hb1.trans (hb2.mono hb1.size)
  have hS2 := hB2.size
  clear hr2 HO1 hb2
  go_wp2_with (first
    | (at_builtin; refine app_bytes rfl (.tmp 11) (.tmp 13) rfl w.heap.size w2.heap.size v1 (put len) (four (sum cs)) (put len ++ four (sum cs)) (pl + 4) rfl HZ.out rfl HO2.out (some A2) 4 4 rfl (four_length _) HR2.out (fun h => by cases h) (by omega) hS2 ?_; intro A3 c3 w3 hown3 hg3; have hB3 := below_grown hB2 hS2 HO2.out hg3; have hS3 := hB3.size; have HO3 := Lib.hid hown3; clear hown3 hg3)
    | (at_builtin; refine app_bytes rfl (.tmp 15) (.tmp 16) rfl w.heap.size w.heap.size (.slice A3 (pl + 4) c3) (put len ++ four (sum cs)) cs (frame cs) (pl + 4 + len) HE.out HF.out rfl HO3.out A len cap rfl HL.out (HR.out.below hB3) HA.out (by omega) hS3 ?_; intro A4 c4 w4 hown4 hg4; have hB4 := below_grown hB3 hS3 HO3.out hg4; have HO4 := Lib.hid hown4; clear hown4 hg4))
  go_ret2
  exact ⟨A4, c4, rfl, HO4.out, hB4⟩

theorem frame_long (A : Option Addr) (len cap : Nat) (w : World) (hl : 4096 < len) (hm : len ≤ 9223372036854775807) :
    Calls Try.prog 14 #[.slice A len cap] w fun e w' => e = .returned (.tuple #[.slice none 0 0, .int .u16 3]) ∧ w = w' := by
  have d1 : decide ((4096 : Int) < (len : Int)) = true := by simp; omega
  go_enter Try.func14, Try.ntmps14
  go_wp2
  go_ret2
  exact ⟨rfl, rfl⟩

end Go.Proofs.Ytdjejkjkcahdgaa
