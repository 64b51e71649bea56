/-
  What the document's own answers for heaps do: New, less, place, First, Same; a row of timers in order, in memory that nothing writes.
-/
import Derived.Test.YtlbopajnnbnolaaHpLaw
namespace Go.Proofs.Ytlbopajnnbnolaa
open Go.RowKit Go.Maps Go.Proofs.HeapMath

set_option maxRecDepth 100000 in
set_option maxHeartbeats 1000000 in
theorem refNew_any (most : Nat) (w : World) (h1 : 1 ≤ most) (h2 : most ≤ 5000) :
    Calls Try.prog 14 #[.int .i64 (most : Int)] w fun e w' => e = .returned (.tuple #[.agg #[.slice none 0 0, .int .i64 (most : Int)], .bool true]) ∧ Below w.heap.size w w' := by
  have t1 : decide ((1 : Int) ≤ (most : Int)) = true := by simp; omega
  have t2 : decide ((most : Int) ≤ 5000) = true := by simp; omega
  have hB : Hid (Below w.heap.size w (w.alloc (.cells #[.slice none 0 0, .int .i64 (most : Int)] 40))) := Lib.hid (box_below _)
  have k1 := Lib.hid ((blk_new w #[.slice none 0 0, .int .i64 (most : Int)] 40).cell 0 rfl)
  have k2 := Lib.hid ((blk_new w #[.slice none 0 0, .int .i64 (most : Int)] 40).cell 1 rfl)
  go_enter Try.func14, Try.ntmps14
  go_wp2_with fail
  have q1 := k1.out
  have q2 := k2.out
  exact bodyPost_ret (v := .tuple #[.agg #[.slice none 0 0, .int .i64 (most : Int)], .bool true]) (by simp [results, Try.results14, go_sem, q1, q2]) rfl ⟨rfl, hB.out⟩

set_option maxRecDepth 100000 in
set_option maxHeartbeats 1000000 in
theorem refLess_any (a b : Tm) (w : World) :
    Calls Try.prog 27 #[.agg #[.int .i64 a.1, .int .i64 a.2], .agg #[.int .i64 b.1, .int .i64 b.2]] w fun e w' => e = .returned (.bool (lt a b)) ∧ Below w.heap.size w w' := by
  obtain ⟨a1, a2⟩ := a
  obtain ⟨b1, b2⟩ := b
  have hw : Hid (Below w.heap.size w ((w.alloc (.cells #[.int .i64 a1, .int .i64 a2] 31)).alloc (.cells #[.int .i64 b1, .int .i64 b2] 31))) := Lib.hid ((box_below _).alloc (by simp) _)
  by_cases h : a1 = b1
  · subst h
    have e := lt_val2 (a1, a2) (a1, b2) rfl
    simp only at e
    rw [e]
    clear e
    go_enter Try.func27, Try.ntmps27
    go_wp2_with fail
    all_goals
      go_ret
      exact ⟨rfl, hw.out⟩
  · have e := lt_val (a1, a2) (b1, b2) h
    simp only at e
    rw [e]
    clear e
    obtain ⟨r, hr⟩ : ∃ r, decide (a1 < b1) = r := ⟨_, rfl⟩
    have hne : (a1 == b1) = false := by simp; exact h
    rw [hr]
    go_enter Try.func27, Try.ntmps27
    cases r with
    | true =>
      go_wp2_with fail
      go_ret
      exact ⟨rfl, hw.out⟩
    | false =>
      go_wp2_with fail
      go_ret
      exact ⟨rfl, hw.out⟩

/-- The document's heap: the timers s in a row that begins its block g, if there are any. -/
structure Dc (W : World) (A : Option Addr) (n cap : Nat) (s : List Tm) (bs : List Nat) : Prop where
  len : s.length = n
  cap_ : n ≤ cap ∧ cap ≤ 9223372036854775807
  five : n ≤ 5000
  nil_ : A = none → cap = 0
  cells : 0 < n → ∃ g, A = some ⟨g, 0, none⟩ ∧ g < W.heap.size ∧ g ∉ bs ∧ ∀ j, j < n → W.cell? ⟨g, j * 2, none⟩ = some (.int .i64 (at_ s j).1) ∧ W.cell? ⟨g, j * 2 + 1, none⟩ = some (.int .i64 (at_ s j).2)
theorem Dc.mut {W W' : World} {A : Option Addr} {n cap : Nat} {s : List Tm} {bs bs' : List Nat} (h : Dc W A n cap s bs) (hb : Mut bs W W') (hx : Ext W bs bs') : Dc W' A n cap s bs' :=
  ⟨h.len, h.cap_, h.five, h.nil_, fun h0 => by
    obtain ⟨g, e, hg, hgb, hc⟩ := h.cells h0
    have hs := hb.block g hg hgb
    exact ⟨g, e, Nat.lt_of_lt_of_le hg hb.size, far_ext hx hgb hg, fun j hj => ⟨(World.cell?_of_block (w := W) hs).trans (hc j hj).1, (World.cell?_of_block (w := W) hs).trans (hc j hj).2⟩⟩⟩
theorem Dc.later {W W' : World} {A : Option Addr} {n cap : Nat} {s : List Tm} {bs : List Nat} (h : Dc W A n cap s bs) (hb : Below W.heap.size W W') : Dc W' A n cap s bs := h.mut (Mut.of_below hb) (Ext.refl _ _)

set_option maxRecDepth 100000 in
set_option maxHeartbeats 1000000 in
theorem refPlace_any {A : Option Addr} {n cap most : Nat} {s : List Tm} {bs : List Nat} (no : Int) (w : World) (h : Dc w A n cap s bs) (hn : Nn s) :
    Calls Try.prog 26 #[.agg #[.slice A n cap, .int .i64 (most : Int)], .int .i64 no] w fun e w' => ∃ p : Int, e = .returned (.int .i64 p) ∧ Hid (Below w.heap.size w w' ∧ (isin no s = false → p = -1) ∧ (isin no s = true → ∃ i, i < n ∧ (at_ s i).2 = no ∧ p = (i : Int))) := by
  obtain ⟨n0, hn0⟩ : ∃ n0, w.heap.size = n0 := ⟨_, rfl⟩
  have hB : Below n0 w (w.alloc (.cells #[.slice A n cap, .int .i64 (most : Int)] 40)) := hn0 ▸ box_below _
  have h1 := h.later (hn0 ▸ hB)
  have hk := blk_new w #[.slice A n cap, .int .i64 (most : Int)] 40
  rw [hn0] at hk ⊢
  have k0 := hk.cell 0 rfl
  have hl := h.len
  have h5 := h.five
  have HB := Lib.hid hB
  have HD := Lib.hid h1
  have HL := Lib.hid hl
  have HNN := Lib.hid hn
  clear h hB h1 hk hl hn
  go_enter Try.func26, Try.ntmps26
  go_wp2_with fail
  go_loop [5] (fun iv => ∃ i : Nat, i ≤ n ∧ iv = .int .i64 (i : Int) ∧ Hid (∀ j, j < i → (at_ s j).2 ≠ no)) (fun iv => n - (intOf iv).toNat)
  case atStart => exact ⟨0, by omega, rfl, Lib.hid fun j hj => by omega⟩
  case round =>
    obtain ⟨i, hi, rfl, HP⟩ := hrel
    by_cases hlt : i < n
    · have dl : decide (i < n) = true := by simp; omega
      obtain ⟨g, rfl, hg, _, hc⟩ := HD.out.cells (by omega)
      obtain ⟨c0, c1⟩ := hc i hlt
      obtain ⟨x, hx⟩ : ∃ x, (at_ s i).2 = x := ⟨_, rfl⟩
      rw [hx] at c1
      have HX := Lib.hid hx
      clear hc c0 hx hg
      by_cases e : x = no
      · have de : (x == no) = true := by simp; exact e
        have hp : ∃ p : Int, Ending.returned (Value.int .i64 (i : Int)) = .returned (.int .i64 p) ∧ Hid (Below n0 w (w.alloc (.cells #[.slice (some ⟨g, 0, none⟩) n cap, .int .i64 (most : Int)] 40)) ∧ (isin no s = false → p = -1) ∧ (isin no s = true → ∃ i, i < n ∧ (at_ s i).2 = no ∧ p = (i : Int))) :=
          ⟨i, rfl, Lib.hid ⟨HB.out, fun h => absurd (HX.out.trans e) (isin_false.1 h _ (at_mem (by rw [HL.out]; exact hlt))), fun _ => ⟨i, hlt, HX.out.trans e, rfl⟩⟩⟩
        have HPP := Lib.hid hp
        subst e
        clear hp de
        go_wp2_with fail
        go_ret
        exact HPP.out
      · have de : (x == no) = false := by simp; exact e
        go_wp2_with fail
        go_round
        case rel => exact ⟨i + 1, by omega, by go_num, Lib.hid fun j hj => by
          by_cases q : j = i
          · rw [q, HX.out]; exact e
          · exact HP.out j (by omega)⟩
        case measure => simp [intOf]; omega
    · obtain rfl : i = n := by omega
      have dl : decide (i < i) = false := by simp
      have hno : isin no s = false := isin_false.2 fun a ha => by
        obtain ⟨j, hj, e⟩ := mem_at ha
        have := HP.out j (by rw [← HL.out]; exact hj)
        rwa [e] at this
      have hp : ∃ p : Int, Ending.returned (Value.int .i64 (-1)) = .returned (.int .i64 p) ∧ Hid (Below n0 w (w.alloc (.cells #[.slice A i cap, .int .i64 (most : Int)] 40)) ∧ (isin no s = false → p = -1) ∧ (isin no s = true → ∃ i_1, i_1 < i ∧ (at_ s i_1).2 = no ∧ p = (i_1 : Int))) :=
        ⟨-1, rfl, Lib.hid ⟨HB.out, fun _ => rfl, fun h => by rw [hno] at h; cases h⟩⟩
      have HPP := Lib.hid hp
      clear hp hno
      go_wp2_with fail
      go_ret
      exact HPP.out
end Go.Proofs.Ytlbopajnnbnolaa
