/-
  What the document's own answers of layer 11 do: New, Same; a row of ones offered, in memory that nothing writes.
-/
import Derived.Deep.RegionHeld
import Derived.Test.YtmjbdjcpjaeemaaPrLaw
namespace Go.Proofs.Ytmjbdjcpjaeemaa
open Go.RowKit Go.Proofs.PrioMath

/-- The document's sampler: those offered in a row that begins a block of its own, if there are any. -/
structure Dc (W : World) (A : Option Addr) (n cap : Nat) (s : List Of) (bs : List Nat) : Prop where
  len : s.length = n
  cap_ : n ≤ cap ∧ cap ≤ 9223372036854775807
  five : n ≤ 5000
  nil_ : A = none → cap = 0
  cells : 0 < n → ∃ g, A = some ⟨g, 0, none⟩ ∧ g < W.heap.size ∧ g ∉ bs ∧ ∀ j, j < n → W.cell? ⟨g, j * 2, none⟩ = some (.int .u64 ((at_ s j).w : Int)) ∧ W.cell? ⟨g, j * 2 + 1, none⟩ = some (.int .u64 ((at_ s j).d : Int))
theorem Dc.mut {W W' : World} {A : Option Addr} {n cap : Nat} {s : List Of} {bs bs' : List Nat} (h : Dc W A n cap s bs) (hb : Mut bs W W') (hx : Ext W bs bs') : Dc W' A n cap s bs' :=
  ⟨h.len, h.cap_, h.five, h.nil_, fun h0 => by
    obtain ⟨g, e, hg, hgb, hc⟩ := h.cells h0
    have hs := hb.block g hg hgb
    exact ⟨g, e, Nat.lt_of_lt_of_le hg hb.size, fun hm => by
      rcases hx g hm with h1 | h1
      · exact hgb h1
      · omega, fun j hj => ⟨(World.cell?_of_block (w := W) hs).trans (hc j hj).1, (World.cell?_of_block (w := W) hs).trans (hc j hj).2⟩⟩⟩
theorem Dc.later {W W' : World} {A : Option Addr} {n cap : Nat} {s : List Of} {bs : List Nat} (h : Dc W A n cap s bs) (hb : Below W.heap.size W W') : Dc W' A n cap s bs := h.mut (Mut.of_below hb) (Ext.refl _ _)
theorem Dc.none_ (W : World) (bs : List Nat) : Dc W none 0 0 [] bs := ⟨rfl, ⟨by omega, by omega⟩, by omega, fun _ => rfl, fun h => absurd h (by omega)⟩
/-- A list of those kept. -/
def Kd (W : World) (A : Option Addr) (n : Nat) (l : List Of) : Prop := l.length = n ∧ (0 < n → ∃ g, A = some ⟨g, 0, none⟩ ∧ g < W.heap.size ∧ ∀ j, j < n → W.cell? ⟨g, j * 3, none⟩ = some (.int .i64 ((at_ l j).p : Int)) ∧ W.cell? ⟨g, j * 3 + 1, none⟩ = some (.int .u64 ((at_ l j).w : Int)) ∧ W.cell? ⟨g, j * 3 + 2, none⟩ = some (.int .u64 ((at_ l j).d : Int)))
theorem Kd.of_kp {W : World} {T n : Nat} {l : List Of} (h : Kp W T n l) : Kd W (some ⟨T, 0, none⟩) n l := ⟨h.2, fun _ => ⟨T, rfl, h.lt, fun _ hj => h.cell hj⟩⟩
theorem Kd.later {W W' : World} {A : Option Addr} {n : Nat} {l : List Of} (h : Kd W A n l) (hb : Below W.heap.size W W') : Kd W' A n l := ⟨h.1, fun h0 => by
  obtain ⟨g, e, hg, hc⟩ := h.2 h0
  exact ⟨g, e, Nat.lt_of_lt_of_le hg hb.size, fun j hj => ⟨(hb.cell (p := ⟨g, j * 3, none⟩) hg).trans (hc j hj).1, (hb.cell (p := ⟨g, j * 3 + 1, none⟩) hg).trans (hc j hj).2.1, (hb.cell (p := ⟨g, j * 3 + 2, none⟩) hg).trans (hc j hj).2.2⟩⟩⟩

set_option maxRecDepth 100000 in
set_option maxHeartbeats 1000000 in
theorem refNew_any (k m : Nat) (w : World) (h1 : 1 ≤ k) (h2 : k ≤ 1000) :
    Calls Try.prog 11 #[.int .i64 (k : Int), .int .u64 (m : Int)] w fun e w' => e = .returned (.tuple #[.agg #[.int .i64 (k : Int), .int .u64 (m : Int), .slice none 0 0], .bool true]) ∧ Below w.heap.size w w' := by
  have t1 : decide ((1 : Int) ≤ (k : Int)) = true := by simp; omega
  have t2 : decide ((k : Int) ≤ 1000) = true := by simp; omega
  have hB : Hid (Below w.heap.size w (w.alloc (.cells #[.int .i64 (k : Int), .int .u64 (m : Int), .slice none 0 0] 42))) := Lib.hid (box_below _)
  have hb := blk_new w #[.int .i64 (k : Int), .int .u64 (m : Int), .slice none 0 0] 42
  have k1 := Lib.hid (hb.cell 0 rfl)
  have k2 := Lib.hid (hb.cell 1 rfl)
  have k3 := Lib.hid (hb.cell 2 rfl)
  clear hb
  go_enter Try.func11, Try.ntmps11
  go_wp2_with fail
  have q1 := k1.out
  have q2 := k2.out
  have q3 := k3.out
  exact bodyPost_ret (v := .tuple #[.agg #[.int .i64 (k : Int), .int .u64 (m : Int), .slice none 0 0], .bool true]) (by simp [results, Try.results11, go_sem, q1, q2, q3]) rfl ⟨rfl, hB.out⟩

set_option maxRecDepth 100000 in
set_option maxHeartbeats 1000000 in
/-- Two lists of the same ones kept are alike. -/
theorem refSame_any {A B : Option Addr} {n c1 c2 : Nat} {l : List Of} (w : World) (hA : Kd w A n l) (hB : Kd w B n l) (h5 : n ≤ 5000) :
    Calls Try.prog 14 #[.slice A n c1, .slice B n c2] w fun e w' => e = .returned (.bool true) ∧ ∃ q, w' = w.drewN q := by
  have HA := Lib.hid hA.2
  have HB := Lib.hid hB.2
  clear hA hB
  have t0 : ((n : Int) == (n : Int)) = true := by simp
  go_enter Try.func14, Try.ntmps14
  go_wp2_with fail
  go_loopw [5] (fun iv wr => ∃ i : Nat, i ≤ n ∧ iv = .int .i64 (i : Int) ∧ Hid (∃ q, wr = w.drewN q)) (fun iv _ => n - (intOf iv).toNat)
  case atStart => exact ⟨0, by omega, rfl, Lib.hid ⟨0, rfl⟩⟩
  case round =>
    obtain ⟨i, hi, rfl, HQ⟩ := hrel
    obtain ⟨q, hq⟩ := HQ.out
    by_cases hlt : i < n
    · have dl : decide (i < n) = true := by simp; omega
      obtain ⟨g1, rfl, _, a1⟩ := HA.out (by omega)
      obtain ⟨g2, rfl, _, a2⟩ := HB.out (by omega)
      obtain ⟨p1, p2, p3⟩ := a1 i hlt
      obtain ⟨r1, r2, r3⟩ := a2 i hlt
      obtain ⟨⟨x, y, z⟩, hx⟩ : ∃ t, at_ l i = t := ⟨_, rfl⟩
      rw [hx] at p1 p2 p3 r1 r2 r3
      simp only at p1 p2 p3 r1 r2 r3
      have k1 : wr.cell? ⟨g1, i * 3, none⟩ = some (.int .i64 (x : Int)) := by rw [hq]; exact p1
      have k2 : wr.cell? ⟨g1, i * 3 + 1, none⟩ = some (.int .u64 (y : Int)) := by rw [hq]; exact p2
      have k3 : wr.cell? ⟨g1, i * 3 + 2, none⟩ = some (.int .u64 (z : Int)) := by rw [hq]; exact p3
      have l1 : wr.cell? ⟨g2, i * 3, none⟩ = some (.int .i64 (x : Int)) := by rw [hq]; exact r1
      have l2 : wr.cell? ⟨g2, i * 3 + 1, none⟩ = some (.int .u64 (y : Int)) := by rw [hq]; exact r2
      have l3 : wr.cell? ⟨g2, i * 3 + 2, none⟩ = some (.int .u64 (z : Int)) := by rw [hq]; exact r3
      have hne := kept_ne (x : Int) (y : Int) (z : Int)
      have t4 : decide ((i : Int) < (n : Int)) = true := by simp; omega
      have HW : Hid (∀ nq, ∃ q, wr.drewN nq = w.drewN q) := Lib.hid fun nq => ⟨q + nq, by rw [hq, World.drewN_drewN]⟩
      clear a1 a2 hx HQ p1 p2 p3 r1 r2 r3 hq
      go_wp2_with fail
      go_quiet (fail)
      clear hne k1 k2 k3 l1 l2 l3
      go_wp2_with fail
      go_roundw
      case rel => exact ⟨i + 1, by omega, by go_num, Lib.hid (HW.out _)⟩
      case measure => simp [intOf]; omega
    · obtain rfl : i = n := by omega
      have dl : decide (i < i) = false := by simp
      go_wp2_with fail
      go_ret
      exact ⟨rfl, q, rfl⟩
end Go.Proofs.Ytmjbdjcpjaeemaa
