/-
  What strings.SplitSeq tells, whatever the text, at each sign of one byte; strings.Cut at such a sign.
-/
import Derived.Shelf.Abstract
import Derived.WalkKit
import Derived.OwnWalkIn
import Derived.TacticsInMore
import Derived.LoopNIn
import Derived.LoopIn
import Derived.Lib.Hide
import Derived.Test.YtkfidolbbnmjfaaDoorCtxShelf
import Derived.Test.YtkfidolbbnmjfaaDoorSeqOwn
import Derived.Test.YtkfidolbbnmjfaaDoorCtxState
namespace Go.Proofs.YtkfidolbbnmjfaaDoor
open Go.RowKit Go.Shelf Go.Proofs.CtxState Go.Proofs.SeqOwn
attribute [local go_sem] Oper.semAt_some wide_depth wide_fn round_depth round_fn

theorem index_one (s : ByteArray) (c : UInt8) (w : World) (r : Int) (h : Lib.indexByte s.data.toList c = r) : Calls Tryd.prog 59 #[.string s, .string ⟨#[c]⟩] w fun e w' => e = .returned (.int .i64 r) ∧ w = w' :=
  (Any.strings_Index_one { Tryd.lays138 with } s c w).mono fun _ _ ⟨he, hw⟩ => ⟨by rw [he, h], hw.symm⟩
theorem slite_one (s : ByteArray) (c : UInt8) (w : World) (r : Int) (h : Lib.indexByte s.data.toList c = r) : Calls Tryd.prog 77 #[.string s, .string ⟨#[c]⟩] w fun e w' => e = .returned (.int .i64 r) ∧ w = w' :=
  (Any.stringslite_Index_one { Tryd.lays138 with } s c w).mono fun _ _ ⟨he, hw⟩ => ⟨by rw [he, h], hw.symm⟩

set_option maxRecDepth 100000 in
set_option maxHeartbeats 1000000 in
theorem splitSeq_any (n : Nat) (s t : ByteArray) (w : World) :
    CallsIn Fence.wide n Tryd.prog 80 #[.string s, .string t, .int .i64 0] w fun e w' => e = .returned (.func (.func 89) #[] #[.pointer (some ⟨w.heap.size + 1, 0, none⟩), .pointer (some ⟨w.heap.size, 0, none⟩), .pointer (some ⟨w.heap.size + 1 + 1, 0, none⟩)]) ∧
      w' = ((w.alloc (.cells #[.string s] 9)).alloc (.cells #[.string t] 9)).alloc (.cells #[.int .i64 0] 3) := by
  refine callsIn_of_wp Tryd.func80 rfl trivial ?_ rfl
  simp only [Tryd.ntmps80, List.size_toArray, List.length_cons, List.length_nil, Nat.reduceAdd, Nat.reduceSub, Array.replicate_succ, Array.replicate_zero, List.push_toArray, List.append_toArray, List.nil_append, List.cons_append]
  gi_wp2
  go_ret
  exact ⟨rfl, rfl⟩
set_option maxRecDepth 100000 in
set_option maxHeartbeats 1000000 in
theorem SplitSeq_any (n : Nat) (s t : ByteArray) (w : World) :
    CallsIn Fence.wide n Tryd.prog 69 #[.string s, .string t] w fun e w' => e = .returned (.func (.func 89) #[] #[.pointer (some ⟨w.heap.size + 1, 0, none⟩), .pointer (some ⟨w.heap.size, 0, none⟩), .pointer (some ⟨w.heap.size + 1 + 1, 0, none⟩)]) ∧
      w' = ((w.alloc (.cells #[.string s] 9)).alloc (.cells #[.string t] 9)).alloc (.cells #[.int .i64 0] 3) := by
  refine callsIn_of_wp Tryd.func69 rfl trivial ?_ rfl
  simp only [Tryd.ntmps69, List.size_toArray, List.length_cons, List.length_nil, Nat.reduceAdd, Nat.reduceSub, Array.replicate_succ, Array.replicate_zero, List.push_toArray, List.append_toArray, List.nil_append, List.cons_append]
  gi_wp2_with (gi_at_call 80; refine (splitSeq_any (n - 1) _ _ _).mono ?_; rintro e w' ⟨rfl, rfl⟩)
  go_ret
  exact ⟨rfl, rfl⟩

theorem w64 {i m : Nat} (h : i < m) (hm : m ≤ 9223372036854775806) : wrap64 (i : Int) = (i : Int) ∧ wrap64 ((i : Int) + 1) = ((i + 1 : Nat) : Int) := by unfold wrap64; omega
theorem ext_lt {t : ByteArray} {i : Nat} (h : i < t.size) : (t.extract (i + 1) t.size).size < t.size := by rw [ByteArray.size_extract]; omega
theorem two_ne (b : Nat) : b + 1 + 1 ≠ b := by omega
/-- What is left in the box. -/
def leftIn (b : Nat) (W : World) : Nat := match W.cell? ⟨b, 0, none⟩ with | some (.string t) => t.size + 1 | _ => 0
theorem leftIn_eq {b : Nat} {W : World} {t : ByteArray} (h : W.cell? ⟨b, 0, none⟩ = some (.string t)) : leftIn b W = t.size + 1 := by unfold leftIn; rw [h]

def boxes3 (b k : Nat) : Prop := k = b ∨ k = b + 1 ∨ k = b + 1 + 1

set_option maxRecDepth 100000 in
set_option maxHeartbeats 4000000 in
/-- ITS PIECES, ONE BY ONE. -/
theorem splitSeq_tells (s : ByteArray) (c : UInt8) (b : Nat) (w : World) (hs : s.size ≤ 9223372036854775806) (n : Nat)
    (hb0 : Boxed w b 9 (.string s)) (hb1 : Boxed w (b + 1) 9 (.string ⟨#[c]⟩)) (hb2 : Boxed w (b + 1 + 1) 3 (.int .i64 0)) :
    Tells Fence.wide n Tryd.prog 89 #[.pointer (some ⟨b + 1, 0, none⟩), .pointer (some ⟨b, 0, none⟩), .pointer (some ⟨b + 1 + 1, 0, none⟩)] (fun t : ByteArray => #[.string t]) (boxes3 b) (splitB c s) none True w := by
  intro l J Jx Jb hJ hJx hJb hbad hrd hY h0
  have hJ0 := h0 w.heap.size w (Only.refl _ _) rfl
  clear hJb hbad hrd h0
  refine callsIn_of_wp Tryd.func89 rfl trivial ?_ rfl
  simp only [Tryd.ntmps89, List.size_toArray, List.length_cons, List.length_nil, Nat.reduceAdd, Nat.reduceSub, Array.replicate_succ, Array.replicate_zero, List.push_toArray, List.append_toArray, List.nil_append, List.cons_append]
  have c0 := hb0.cell
  have c1 := hb1.cell
  have c2 := hb2.cell
  gi_wp2
  gi_loopw [7] (fun _ wr => ∃ (pre : List ByteArray) (t : ByteArray), splitB c s = pre ++ splitB c t ∧ t.size ≤ s.size ∧ w.heap.size ≤ wr.heap.size ∧ Boxed wr b 9 (.string t) ∧ Boxed wr (b + 1) 9 (.string ⟨#[c]⟩) ∧ Boxed wr (b + 1 + 1) 3 (.int .i64 0) ∧ J w.heap.size pre wr) (fun _ wr => leftIn b wr)
  case atStart => exact ⟨[], s, rfl, Nat.le_refl _, Nat.le_refl _, hb0, hb1, hb2, hJ0⟩
  case round =>
    obtain ⟨pre, t, hx, hts, hsz, B0, B1, B2, hJp⟩ := hrel
    clear c0 c1 c2 hJ0
    have c0 := B0.cell
    have c1 := B1.cell
    have c2 := B2.cell
    have f0 := B0.frozen
    rcases splitB_cases t c with ⟨hi, hsp, _⟩ | ⟨i, hi, hil, hsp, _⟩
    · have hI := fun W => index_one t c W (-1) hi
      have hd : splitB c s = pre ++ [t] := by rw [hx, hsp]
      obtain ⟨fn, tmps, assign, body, hy, hR⟩ := hY w.heap.size pre t wr (Nat.le_refl _) hsz (by rw [hd]; exact List.prefix_refl _) hJp
      clear hi hsp hx
      gi_wp2_with (gi_at_call 59; refine (callsIn_wide.2 (hI _)).mono ?_; rintro e w' ⟨rfl, rfl⟩)
      refine hR.mono ?_
      rintro e W3 (⟨rfl, hJ3, hk3⟩ | ⟨_, rfl, hJx3, hk3⟩)
      · gi_wp2
        go_end0
        exact ⟨⟨_, rfl⟩, w.heap.size, Nat.le_refl _, Nat.le_trans hsz hk3.size, .inl ⟨trivial, by rw [hd]; exact hJ3⟩⟩
      · gi_wp2
        go_end0
        exact ⟨⟨_, rfl⟩, w.heap.size, Nat.le_refl _, Nat.le_trans hsz hk3.size, .inr (.inr ⟨trivial, _, by rw [hd]; exact List.prefix_refl _, hJx3⟩)⟩
    · have hI := fun W => index_one t c W (i : Int) hi
      obtain ⟨x, hxe⟩ : ∃ x, t.extract 0 i = x := ⟨_, rfl⟩
      obtain ⟨y, hye⟩ : ∃ y, t.extract (i + 1) t.size = y := ⟨_, rfl⟩
      rw [hxe, hye] at hsp
      have hys : y.size < t.size := by rw [← hye]; exact ext_lt hil
      have hd : splitB c s = (pre ++ [x]) ++ splitB c y := by rw [hx, hsp]; simp
      obtain ⟨fn, tmps, assign, body, hy, hR⟩ := hY w.heap.size pre x wr (Nat.le_refl _) hsz ⟨splitB c y, hd.symm⟩ hJp
      obtain ⟨m, hm⟩ : ∃ m, t.size = m := ⟨_, rfl⟩
      rw [hm] at hye hil hys
      have d1 : decide ((i : Int) < 0) = false := by simp
      have hms : m ≤ 9223372036854775806 := hm ▸ Nat.le_trans hts hs
      obtain ⟨hw, hj0⟩ := w64 hil hms
      obtain ⟨j, hji⟩ : ∃ j : Nat, j = i + 1 := ⟨_, rfl⟩
      have hjm : j ≤ m := hji ▸ hil
      have HJ := Lib.hid hjm
      rw [← hji] at hj0
      clear hjm
      rw [← hji] at hye
      clear hms hji
      have HS := Lib.hid hys
      have HD := Lib.hid hd
      have HT := Lib.hid hts
      clear hi hsp hx hys hd hts
      gi_wp2_with (gi_at_call 59; refine (callsIn_wide.2 (hI _)).mono ?_; rintro e w' ⟨rfl, rfl⟩)
      refine hR.mono ?_
      rintro e W3 (⟨rfl, hJ3, hk3⟩ | ⟨_, rfl, hJx3, hk3⟩)
      · have C0 := hk3.box B0 (fun h => h (.inl (.inl rfl)))
        have C1 := hk3.box B1 (fun h => h (.inl (.inr (.inl rfl))))
        have C2 := hk3.box B2 (fun h => h (.inl (.inr (.inr rfl))))
        have d0 := C0.cell
        have g0 := C0.frozen
        have d1 := C1.cell
        have hz3 := Nat.le_trans hsz hk3.size
        have hjm := HJ.out
        have HM := Lib.hid (show leftIn b wr = m + 1 by rw [leftIn_eq c0, hm])
        clear c0 c1 c2 f0 B0 B1 B2 hR hY hJp
        gi_wp2
        refine ⟨⟨pre ++ [x], y, HD.out, Nat.le_trans (Nat.le_of_lt (hm ▸ HS.out)) HT.out, Nat.le_trans hz3 ((Only.refl (fun _ => True) W3).setCell _ (fun _ => trivial)).size, C0.set _, C1.other (Nat.succ_ne_self b) _, C2.other (two_ne b) _, hJ _ _ _ _ (Nat.le_refl _) hz3 hJ3 (Only.set _ _ _ _ (.inl (.inl rfl)))⟩, ?_⟩
        rw [leftIn_eq (C0.set _).cell, HM.out]
        exact Nat.succ_lt_succ HS.out
      · gi_wp2
        refine bodyPost_ret (results_none rfl _ _ _) rfl ?_
        exact ⟨⟨_, rfl⟩, w.heap.size, Nat.le_refl _, Nat.le_trans hsz hk3.size, .inr (.inr ⟨trivial, _, ⟨_, HD.out.symm⟩, hJx3⟩)⟩
end Go.Proofs.YtkfidolbbnmjfaaDoor
