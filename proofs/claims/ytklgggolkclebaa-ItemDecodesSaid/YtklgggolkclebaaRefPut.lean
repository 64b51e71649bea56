/-
  What the document's own Put and PutText (telemeterref01) do, at every input within the reach, for the layers that stand on them.
-/
import Derived.Maps.AppendAt
import Derived.Test.YtklgggolkclebaaNumTexts
namespace Go.Proofs.Ytklgggolkclebaa
open Go.RowKit Go.Proofs.NumMath Go.Proofs.ItemMath

set_option maxRecDepth 100000 in
set_option maxHeartbeats 1000000 in
theorem refPut_any (m : Nat) (hm : m < 18446744073709551616) (w : World) :
    Calls Try.prog 45 #[.int .u64 (m : Int)] w fun e w' => ∃ v, e = .returned v ∧ w'.ownsRow w.heap.size 5 1 v (put m).length ((put m).map b8) ∧ Below w.heap.size w w' := by
  obtain ⟨i0, hi, hz0, hz1, hz2⟩ := info_parts info_u8
  go_enter Try.func45, Try.ntmps45
  go_wp2
  go_loopw [0, 3] (fun x v wr => ∃ (pre : List UInt8) (q : Nat), x = .int .u64 (q : Int) ∧ q < 18446744073709551616 ∧ Hid (put m = pre ++ put q) ∧ wr.ownsRow w.heap.size 5 1 v pre.length (pre.map b8) ∧ Below w.heap.size w wr) (fun x _ _ => (intOf x).toNat)
  case atStart => exact ⟨[], m, rfl, hm, rfl, World.ownsRow_nil _ _ _ _, Below.refl _ _⟩
  case round =>
    obtain ⟨pre, q, rfl, hq, hx, hown, hB⟩ := hrel
    have hlen : pre.length < 10 := by
      have h1 := put_len10 hm
      rw [hx.out, List.length_append] at h1
      have := put_pos q
      omega
    have HB := hB.size
    by_cases h1 : 128 ≤ q
    · go_wp2_with (at_builtin; refine wpList_append_own _ rfl _ _ 22 rfl w.heap.size 5 i0 (.int .u8 0) 1 1 Try.underlying22 hi hz0 hz1 hz2 rfl (by decide) _ _ _ rfl (hown.alloc _) ⟨wr.heap.size, 0, none⟩ 1 1 [.int .u8 ((q : Int) % 128 + 128)] rfl rfl (cell_one_new _ _ _) (by simp [Value.oneCell']) (by unfold maxLen; omega) (by omega) (by simp; omega) ?_; intro v' w1 hown' hgrow _)
      rw [← b8_hi q] at hown'
      have hB1 : Below w.heap.size w w1 := below_grown (hB.alloc HB _) (by simp; omega) (hown.alloc _) hgrow
      go_roundw
      case rel => exact ⟨pre ++ [UInt8.ofNat (q % 128 + 128)], q / 128, by go_num, by omega, by rw [hx.out, put_ge h1]; simp [Hid], snoc_row hown', hB1⟩
      case measure => simp [intOf]; omega
    · go_wp2_with (at_builtin; refine wpList_append_own _ rfl _ _ 22 rfl w.heap.size 5 i0 (.int .u8 0) 1 1 Try.underlying22 hi hz0 hz1 hz2 rfl (by decide) _ _ _ rfl (hown.alloc _) ⟨wr.heap.size, 0, none⟩ 1 1 [.int .u8 (q : Int)] rfl rfl (cell_one_new _ _ _) (by simp [Value.oneCell']) (by unfold maxLen; omega) (by omega) (by simp; omega) ?_; intro v' w1 hown' hgrow _)
      rw [← b8_lo (by omega)] at hown'
      have hB1 : Below w.heap.size w w1 := below_grown (hB.alloc HB _) (by simp; omega) (hown.alloc _) hgrow
      go_ret
      refine ⟨v', rfl, ?_, hB1⟩
      rw [hx.out, put_lt (by omega)]
      exact snoc_row hown'

theorem refPut_holds (m : Nat) (hm : m < 18446744073709551616) (w : World) :
    Calls Try.prog 45 #[.int .u64 (m : Int)] w fun e w' => ∃ A cap, e = .returned (.slice A (put m).length cap) ∧ (put m).length ≤ cap ∧ cap ≤ 9223372036854775807 ∧ Holds8 w'.heap.size w' A (put m) ∧ Below w.heap.size w w' :=
  (refPut_any m hm w).mono fun e w' ⟨v, he, ho, hb⟩ => by
    obtain ⟨A, cap, rfl, h1, h2, h3⟩ := holds_of_own ho
    exact ⟨A, cap, he, h1, h2, h3, hb⟩

set_option maxHeartbeats 1000000 in
theorem refPutText_any (s : ByteArray) (w : World) (hs : s.size ≤ 140737488351232) :
    Calls Try.prog 44 #[.string s] w fun e w' => ∃ v, e = .returned v ∧ w'.ownsRow w.heap.size 5 1 v (putText s.data.toList).length ((putText s.data.toList).map b8) ∧ Below w.heap.size w w' := by
  obtain ⟨i0, hi, hz0, hz1, hz2⟩ := info_parts info_u8
  have hl := put_len10 (n := s.size) (by omega)
  have e1 : (putText s.data.toList).length = (put s.size).length + s.size := by simp [putText]
  have e2 : (putText s.data.toList).map b8 = (put s.size).map b8 ++ Lib.strCells s := by rw [strCells_map]; simp [putText]
  rw [e1, e2]
  clear e1 e2
  go_enter Try.func44, Try.ntmps44
  go_wp2_with (first
    | (go_at_call 45; refine (refPut_any s.size (by omega) _).mono ?_; rintro e w1 ⟨v1, rfl, hown1, hb1⟩)
    | (at_builtin; refine Lib.wpList_append_own_string _ rfl (.tmp 8) (.tmp 9) 22 9 rfl w.heap.size 5 i0 Try.underlying22 Try.underlying9 hi hz0 hz1 hz2 v1 _ _ rfl hown1 s rfl (by unfold maxLen; omega) (by omega) hb1.size ?_; intro v2 w2 hown2 hg2 _))
  go_ret
  exact ⟨v2, rfl, hown2, below_grown hb1 hb1.size hown1 hg2⟩
theorem refPutText_holds (s : ByteArray) (w : World) (hs : s.size ≤ 140737488351232) :
    Calls Try.prog 44 #[.string s] w fun e w' => ∃ A cap, e = .returned (.slice A (putText s.data.toList).length cap) ∧ (putText s.data.toList).length ≤ cap ∧ cap ≤ 9223372036854775807 ∧ Holds8 w'.heap.size w' A (putText s.data.toList) ∧ Below w.heap.size w w' :=
  (refPutText_any s w hs).mono fun e w' ⟨v, he, ho, hb⟩ => by
    obtain ⟨A, cap, rfl, h1, h2, h3⟩ := holds_of_own ho
    exact ⟨A, cap, he, h1, h2, h3, hb⟩

end Go.Proofs.Ytklgggolkclebaa
