/-
  The chapter's examples, as the laws ask them first: the function returns true, and nothing that lay has turned. No condition.
-/
import Derived.WalkKit
import Derived.WalkSpells
import Derived.WalkLawsBesides
import Derived.Lib.Hide
import Derived.Test.YtmgjckgoiieppaaNumText
namespace Go.Proofs.Ytmgjckgoiieppaa
open Go.RowKit Go.Proofs.NumMath

/-- What owns bytes holds them. -/
theorem holds_of_own {W : World} {base : Nat} {v : Value} {cs : List UInt8} {e : TypeId} (h : W.ownsRow base e 1 v cs.length (cs.map b8)) :
    ∃ A cap, v = .slice A cs.length cap ∧ cs.length ≤ cap ∧ cap ≤ 9223372036854775807 ∧ Holds8 W.heap.size W A cs := by
  rcases h.2 with ⟨rfl, h0⟩ | ⟨g, cap, cur, rfl, hb, hg, hn, hc, hs, ht⟩
  · have : cs = [] := List.eq_nil_of_length_eq_zero h0
    subst this
    exact ⟨none, 0, rfl, by simp, by omega, fun h => absurd h (by simp)⟩
  · refine ⟨some ⟨g, 0, none⟩, cap, rfl, hn, by unfold maxLen at hc; exact hc, fun _ => ⟨g, 0, rfl, (Array.getElem?_eq_some_iff.1 hg).1, fun j hj => ?_⟩⟩
    have := h.cellAt j (by simpa using hj)
    rw [Nat.zero_add, this]
    simp [hj]

/-- num.Put, its result read as bytes. -/
theorem put_holds (m : Nat) (hm : m < 18446744073709551616) (w : World) :
    Calls Try.prog 15 #[.int .u64 (m : Int)] w fun e w' => ∃ A cap, e = .returned (.slice A (put m).length cap) ∧ (put m).length ≤ cap ∧ cap ≤ 9223372036854775807 ∧ Holds8 w'.heap.size w' A (put m) ∧ Below w.heap.size w w' :=
  (put_any m hm w).mono fun e w' ⟨v, he, ho, hb⟩ => by
    obtain ⟨A, cap, rfl, h1, h2, h3⟩ := holds_of_own ho
    exact ⟨A, cap, he, h1, h2, h3, hb⟩
theorem putText_holds (s : ByteArray) (w : World) (hs : s.size ≤ 140737488351232) :
    Calls Try.prog 12 #[.string s] w fun e w' => ∃ A cap, e = .returned (.slice A (putText s.data.toList).length cap) ∧ (putText s.data.toList).length ≤ cap ∧ cap ≤ 9223372036854775807 ∧ Holds8 w'.heap.size w' A (putText s.data.toList) ∧ Below w.heap.size w w' :=
  (putText_any s w hs).mono fun e w' ⟨v, he, ho, hb⟩ => by
    obtain ⟨A, cap, rfl, h1, h2, h3⟩ := holds_of_own ho
    exact ⟨A, cap, he, h1, h2, h3, hb⟩

theorem put300 : put 300 = [172, 2] := by rw [put_ge (by omega), put_lt (by omega)]; decide
theorem putText_ab : putText [97, 98] = [2, 97, 98] := by unfold putText; rw [put_lt (by simp)]; decide

theorem put_k (w : World) : Calls Try.prog 15 #[.int .u64 300] w fun e w' => ∃ b off cap, e = .returned (.slice (some ⟨b, off, none⟩) 2 cap) ∧ 2 ≤ cap ∧ cap ≤ 9223372036854775807 ∧ b < w'.heap.size ∧ w'.cell? ⟨b, off, none⟩ = some (.int .u8 172) ∧ w'.cell? ⟨b, off + 1, none⟩ = some (.int .u8 2) ∧ Below w.heap.size w w' :=
  (put_holds 300 (by omega) w).mono fun e w' ⟨A, cap, he, h1, h2, h3, hb⟩ => by
    rw [put300] at he h1 h3
    obtain ⟨b, off, rfl, hlt, hc⟩ := h3 (by simp)
    exact ⟨b, off, cap, he, h1, h2, hlt, hc 0 (by simp), hc 1 (by simp), hb⟩
theorem holds2 {W : World} {b off : Nat} {x y : UInt8} (hlt : b < W.heap.size) (h0 : W.cell? ⟨b, off, none⟩ = some (b8 x)) (h1 : W.cell? ⟨b, off + 1, none⟩ = some (b8 y)) : Holds8 W.heap.size W (some ⟨b, off, none⟩) [x, y] := fun _ =>
  ⟨b, off, rfl, hlt, fun j hj => by
    simp at hj
    rcases (by omega : j = 0 ∨ j = 1) with rfl | rfl
    · exact h0
    · exact h1⟩
theorem get_k1 (b off cap : Nat) (w : World) (h2 : 2 ≤ cap) (hc : cap ≤ 9223372036854775807) (hlt : b < w.heap.size) (h0 : w.cell? ⟨b, off, none⟩ = some (.int .u8 172)) (h1 : w.cell? ⟨b, off + 1, none⟩ = some (.int .u8 2)) :
    Calls Try.prog 14 #[.slice (some ⟨b, off, none⟩) 2 cap, .int .i64 0] w fun e w' => e = .returned (.tuple #[.int .u64 300, .int .i64 2, .int .u16 0]) ∧ Below w.heap.size w w' := by
  have h := get_any (some ⟨b, off, none⟩) [172, 2] cap 0 w h2 hc (holds2 hlt h0 h1)
  have e : getAt [172, 2] 0 = (300, 2, 0) := by decide
  rw [e] at h
  exact h
theorem get_k2 (b off cap : Nat) (w : World) (h2 : 2 ≤ cap) (hc : cap ≤ 9223372036854775807) (hlt : b < w.heap.size) (h0 : w.cell? ⟨b, off, none⟩ = some (.int .u8 128)) (h1 : w.cell? ⟨b, off + 1, none⟩ = some (.int .u8 0)) :
    Calls Try.prog 14 #[.slice (some ⟨b, off, none⟩) 2 cap, .int .i64 0] w fun e w' => e = .returned (.tuple #[.int .u64 0, .int .i64 0, .int .u16 31]) ∧ Below w.heap.size w w' := by
  have h := get_any (some ⟨b, off, none⟩) [128, 0] cap 0 w h2 hc (holds2 hlt h0 h1)
  have e : getAt [128, 0] 0 = (0, 0, 31) := by decide
  rw [e] at h
  exact h
def Ab (w' : World) (v : Value) : Prop := ∃ A cap, v = .slice A 3 cap ∧ 3 ≤ cap ∧ cap ≤ 9223372036854775807 ∧ Holds8 w'.heap.size w' A [2, 97, 98]
theorem putText_k (w : World) : Calls Try.prog 12 #[.string ⟨#[97, 98]⟩] w fun e w' => ∃ v, e = .returned v ∧ Ab w' v ∧ Below w.heap.size w w' :=
  (putText_holds ⟨#[97, 98]⟩ w (by show 2 ≤ _; omega)).mono fun e w' ⟨A, cap, he, h1, h2, h3, hb⟩ => by
    have e0 : putText (⟨#[97, 98]⟩ : ByteArray).data.toList = [2, 97, 98] := putText_ab
    rw [e0] at he h1 h3
    exact ⟨_, he, ⟨A, cap, rfl, h1, h2, h3⟩, hb⟩
theorem getText_k (v : Value) (w : World) (h : Ab w v) :
    Calls Try.prog 13 #[v, .int .i64 0, .int .i64 2] w fun e w' => e = .returned (.tuple #[.string ⟨#[97, 98]⟩, .int .i64 3, .int .u16 0]) ∧ Below w.heap.size w w' := by
  obtain ⟨A, cap, rfl, h1, h2, h3⟩ := h
  have h := getText_any A [2, 97, 98] cap 0 2 w h1 h2 (by omega) h3
  have e : getText [2, 97, 98] 0 2 = ([97, 98], 3, 0) := by decide
  rw [e] at h
  exact h

theorem zig_k (w : World) : Calls Try.prog 17 #[.int .i64 (-2)] w fun e w' => e = .returned (.int .u64 3) ∧ w = w' := zig_any (-2) w (by omega) (by omega)
theorem zag_k (w : World) : Calls Try.prog 19 #[.int .u64 3] w fun e w' => e = .returned (.int .i64 (-2)) ∧ w = w' := zag_any 3 w (by omega) (by omega)

set_option maxRecDepth 100000 in
set_option maxHeartbeats 1000000 in
theorem known_any (w : World) : Calls Try.prog 11 #[] w fun e w' => e = .returned (.bool true) ∧ Below w.heap.size w w' := by
  go_enter Try.func11, Try.ntmps11
  go_wp2_with (go_at_call 15; refine (put_k _).mono ?_; rintro e w1 ⟨b, off, cap, rfl, hc2, hcm, hlt, hx0, hx1, hb1⟩)
  go_wp2_with fail
  refine (get_k1 b off cap w1 hc2 hcm hlt hx0 hx1).mono ?_
  rintro e w2 ⟨rfl, hb2⟩
  have hz2 := hb2.size
  go_wp2_with fail
  refine (get_k2 w2.heap.size 0 2 _ (by omega) (by omega) (by simp) (by simp) (by simp)).mono ?_
  rintro e w3 ⟨rfl, hb3⟩
  have hz3 := hb3.size
  simp only [World.size_alloc] at hz3
  go_wp2_with fail
  refine (putText_k w3).mono ?_
  rintro e w4 ⟨v4, rfl, hab, hb4⟩
  have hz4 := hb4.size
  go_wp2_with fail
  refine (getText_k v4 w4 hab).mono ?_
  rintro e w5 ⟨rfl, hb5⟩
  have hB2 : Below w1.heap.size w1 (w2.alloc (.cells #[.int .u8 128, .int .u8 0] 5)) := hb2.alloc hz2 _
  have hB5 : Below w1.heap.size w1 w5 := hB2.trans ((hb3.mono (by simp; omega)).trans ((hb4.mono (by omega)).trans (hb5.mono (by omega))))
  have hy0 := (hB5.cell (p := ⟨b, off, none⟩) hlt).trans hx0
  have hy1 := (hB5.cell (p := ⟨b, off + 1, none⟩) hlt).trans hx1
  have hBw : Below w.heap.size w w5 := hb1.trans (hB5.mono hb1.size)
  clear hx0 hx1 hb1 hb2 hb3 hb4 hb5 hB2 hB5 hz2 hz3 hz4 hab
  go_wp2_with fail
  refine (zig_k w5).mono ?_
  rintro e w6 ⟨rfl, rfl⟩
  go_wp2_with fail
  refine (zag_k w5).mono ?_
  rintro e w6 ⟨rfl, rfl⟩
  go_wp2_with fail
  go_ret
  exact ⟨rfl, hBw⟩

end Go.Proofs.Ytmgjckgoiieppaa
