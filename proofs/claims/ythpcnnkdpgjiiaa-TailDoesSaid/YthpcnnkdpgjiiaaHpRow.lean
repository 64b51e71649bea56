/-
  What the row's own methods do: Len, ahead, Less.
-/
import Derived.Handy
import Derived.RegionTactic
import Derived.BigRegion
import Derived.Test.YthpcnnkdpgjiiaaHp0
namespace Go.Proofs.Ythpcnnkdpgjiiaa
open Go.RowKit Go.Maps Go.Proofs.HeapMath

set_option maxRecDepth 100000 in
set_option maxHeartbeats 1000000 in
theorem len_any {S M : Nat} {mo v : Value} {l : List Tm} (w : World) (h : Rw w S M mo v l) :
    Calls Try.prog 50 #[.pointer (some ⟨S, 1, none⟩)] w fun e w' => e = .returned (.int .i64 (l.length : Int)) ∧ w = w' := by
  obtain ⟨A, cap, rfl, h1, h2⟩ := h.len
  have s1 := h.own.cell 1 rfl
  obtain ⟨n, hn⟩ : ∃ n, l.length = n := ⟨_, rfl⟩
  rw [hn] at s1 h1 ⊢
  clear h hn
  go_enter Try.func50, Try.ntmps50
  go_wp2_with fail
  go_ret
  exact ⟨rfl, rfl⟩

theorem lt_val (a b : Tm) (h : ¬ a.1 = b.1) : lt a b = decide (a.1 < b.1) := by unfold lt; simp [h]
theorem lt_val2 (a b : Tm) (h : a.1 = b.1) : lt a b = decide (a.2 < b.2) := by unfold lt; simp [h]
set_option maxRecDepth 100000 in
set_option maxHeartbeats 1000000 in
theorem ahead_any (a b : Tm) (w : World) :
    Calls Try.prog 71 #[.agg #[.int .i64 a.1, .int .i64 a.2], .agg #[.int .i64 b.1, .int .i64 b.2]] w fun e w' => e = .returned (.bool (lt a b)) ∧ Below w.heap.size w w' := by
  obtain ⟨a1, a2⟩ := a
  obtain ⟨b1, b2⟩ := b
  have hw : Hid (Below w.heap.size w ((w.alloc (.cells #[.int .i64 a1, .int .i64 a2] 123)).alloc (.cells #[.int .i64 b1, .int .i64 b2] 123))) := Lib.hid ((box_below _).alloc (by simp) _)
  by_cases h : a1 = b1
  · subst h
    have e := lt_val2 (a1, a2) (a1, b2) rfl
    simp only at e
    rw [e]
    clear e
    go_enter Try.func71, Try.ntmps71
    go_wp2_with fail
    go_ret
    exact ⟨rfl, hw.out⟩
  · have e := lt_val (a1, a2) (b1, b2) h
    simp only at e
    rw [e]
    clear e
    go_enter Try.func71, Try.ntmps71
    go_wp2_with fail
    go_ret
    exact ⟨rfl, hw.out⟩

set_option maxRecDepth 100000 in
set_option maxHeartbeats 1000000 in
theorem less_any {S M : Nat} {mo v : Value} {l : List Tm} (i j : Nat) (w : World) (h : Rw w S M mo v l) (hi : i < l.length) (hj : j < l.length) :
    Calls Try.prog 72 #[.pointer (some ⟨S, 1, none⟩), .int .i64 (i : Int), .int .i64 (j : Int)] w fun e w' => e = .returned (.bool (lt (at_ l i) (at_ l j))) ∧ Below w.heap.size w w' := by
  obtain ⟨B, cap, rfl, h1, h2, _⟩ := h.slice (by omega)
  have hm := h.most
  have s1 := h.own.cell 1 rfl
  obtain ⟨i1, i2⟩ := h.cell hi
  obtain ⟨j1, j2⟩ := h.cell hj
  have hA := fun W => ahead_any (at_ l i) (at_ l j) W
  obtain ⟨b, hb⟩ : ∃ b, lt (at_ l i) (at_ l j) = b := ⟨_, rfl⟩
  rw [hb] at hA ⊢
  obtain ⟨⟨ia, ib⟩, hia⟩ : ∃ a, at_ l i = a := ⟨_, rfl⟩
  obtain ⟨⟨ja, jb⟩, hja⟩ : ∃ a, at_ l j = a := ⟨_, rfl⟩
  rw [hia] at i1 i2 hA
  rw [hja] at j1 j2 hA
  simp only at i1 i2 j1 j2 hA
  obtain ⟨n, hn⟩ : ∃ n, l.length = n := ⟨_, rfl⟩
  rw [hn] at s1 h1 hi hj hm
  have HA := Lib.hid hA
  clear h hn hA hb hia hja
  go_enter Try.func72, Try.ntmps72
  go_wp2_with fail
  refine (HA.out _).mono ?_
  rintro e w1 ⟨rfl, hb⟩
  go_wp2_with fail
  go_ret
  exact ⟨rfl, hb⟩
end Go.Proofs.Ythpcnnkdpgjiiaa
