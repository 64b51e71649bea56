/-
  What item.rightAttrs, RightSpan and RightLog do, at every span and every log. No condition.
-/
import Derived.Test.YtklgggolkclebaaItemName
namespace Go.Proofs.Ytklgggolkclebaa
open Go.RowKit Go.Proofs.NumMath Go.Proofs.ItemMath

abbrev Attr := ByteArray × ByteArray
def none8 : ByteArray := ⟨#[]⟩
def le8 (a b : ByteArray) : Bool := Op.bytesLess a.toList b.toList || a.toList == b.toList
def rightFrom : ByteArray → List Attr → Bool
  | _, [] => true
  | ahead, a :: r => isName a.1 && !le8 a.1 ahead && decide (a.2.size ≤ 60) && rightFrom a.1 r
def rightAttrs (l : List Attr) : Bool := decide (l.length ≤ 8) && rightFrom none8 l

/-- Attributes that lie somewhere. -/
def HoldsA (n₀ : Nat) (W : World) (A : Option Addr) (l : List Attr) : Prop :=
  0 < l.length → ∃ b off, A = some ⟨b, off, none⟩ ∧ b < n₀ ∧ ∀ j, j < l.length → W.cell? ⟨b, off + j * 2, none⟩ = some (.string (l.getD j (none8, none8)).1) ∧ W.cell? ⟨b, off + j * 2 + 1, none⟩ = some (.string (l.getD j (none8, none8)).2) ∧
    (l.getD j (none8, none8)).1.size ≤ 9223372036854775807 ∧ (l.getD j (none8, none8)).2.size ≤ 9223372036854775807
theorem HoldsA.below {n₀ : Nat} {W W' : World} {A : Option Addr} {l : List Attr} (h : HoldsA n₀ W A l) (hb : Below n₀ W W') : HoldsA n₀ W' A l := fun h0 => by
  obtain ⟨b, off, e, hlt, hj⟩ := h h0
  refine ⟨b, off, e, hlt, fun j hj' => ?_⟩
  obtain ⟨h1, h2, h3⟩ := hj j hj'
  exact ⟨(hb.cell (p := ⟨b, off + j * 2, none⟩) hlt).trans h1, (hb.cell (p := ⟨b, off + j * 2 + 1, none⟩) hlt).trans h2, h3⟩
theorem HoldsA.mono {n₀ n₁ : Nat} {W : World} {A : Option Addr} {l : List Attr} (h : HoldsA n₀ W A l) (hn : n₀ ≤ n₁) : HoldsA n₁ W A l := fun h0 => by
  obtain ⟨b, off, e, hlt, hj⟩ := h h0
  exact ⟨b, off, e, by omega, hj⟩
theorem HoldsA.later {W W' : World} {A : Option Addr} {l : List Attr} (h : HoldsA W.heap.size W A l) (hb : Below W.heap.size W W') : HoldsA W'.heap.size W' A l := (h.below hb).mono hb.size

theorem drop_get {l : List Attr} {k : Nat} (h : k < l.length) : l.drop k = l.getD k (none8, none8) :: l.drop (k + 1) := by
  rw [List.drop_eq_getElem_cons h]
  simp [List.getD_eq_getElem?_getD, h]

/-- A cell of a block that was made last, later. -/
theorem new_cell {W w' : World} {C : Array Value} {t : TypeId} {fr : Nat × Nat} (h : Below (W.alloc (.cells C t fr)).heap.size (W.alloc (.cells C t fr)) w') (j : Nat) {v : Value} (hv : C[j]? = some v) : w'.cell? ⟨W.heap.size, j, none⟩ = some v := by
  rw [h.cell (p := ⟨W.heap.size, j, none⟩) (by simp), World.cell?_alloc_mark, hv]

set_option maxRecDepth 100000 in
set_option maxHeartbeats 1000000 in
theorem rightAttrs_any (A : Option Addr) (l : List Attr) (n cap : Nat) (w : World) (hn : l.length = n) (hnm : n ≤ 9223372036854775807) (hr : HoldsA w.heap.size w A l) :
    Calls Try.prog 24 #[.slice A n cap] w fun e w' => e = .returned (.bool (rightAttrs l)) ∧ Below w.heap.size w w' := by
  by_cases h8 : 8 < n
  · have d1 : decide ((8 : Int) < (n : Int)) = true := by simp; omega
    have hres : rightAttrs l = false := by unfold rightAttrs; rw [decide_eq_false (by omega)]; rfl
    rw [hres]
    clear hn hr hres
    go_enter Try.func24, Try.ntmps24
    go_wp2
    go_ret
    exact ⟨rfl, Below.refl _ _⟩
  have d1 : decide ((8 : Int) < (n : Int)) = false := by simp; omega
  have hres : rightAttrs l = rightFrom none8 l := by unfold rightAttrs; rw [decide_eq_true (by omega)]; rfl
  rw [hres]
  obtain ⟨r, hrr⟩ : ∃ r, rightFrom none8 l = r := ⟨_, rfl⟩
  rw [hrr]
  have HR := Lib.hid hr
  have HN := Lib.hid hn
  have HRR := Lib.hid hrr
  clear hn hr hres hrr
  go_enter Try.func24, Try.ntmps24
  go_wp2
  go_loopw [3, 11] (fun ah iv wr => ∃ (k : Nat) (a0 : ByteArray), k ≤ n ∧ ah = .string a0 ∧ iv = .int .i64 (k : Int) ∧ Hid (r = rightFrom a0 (l.drop k)) ∧ Below w.heap.size w wr) (fun _ iv _ => n - (intOf iv).toNat)
  case atStart => exact ⟨0, none8, by omega, rfl, rfl, Lib.hid (by rw [List.drop_zero, HRR.out]), Below.refl _ _⟩
  case round =>
    obtain ⟨k, a0, hk, rfl, rfl, hinv, hB⟩ := hrel
    by_cases hlt : k < n
    · have hS := hB.size
      obtain ⟨b, off, hA, hbl, hcell⟩ := (HR.out.below hB) (by rw [HN.out]; omega)
      obtain ⟨hc1, hc2, hz1, hz2⟩ := hcell k (by rw [HN.out]; exact hlt)
      have hdrop := drop_get (l := l) (k := k) (by rw [HN.out]; exact hlt)
      have hinv2 := hinv.out
      rw [hdrop] at hinv2
      generalize l.getD k (none8, none8) = a at hc1 hc2 hz1 hz2 hinv2
      obtain ⟨key, val⟩ := a
      have HI : Hid (r = (isName key && !le8 key a0 && decide (val.size ≤ 60) && rightFrom key (l.drop (k + 1)))) := Lib.hid hinv2
      dsimp only at hc1 hc2 hz1 hz2
      subst hA
      have hN := fun W => isName_any key W hz1
      clear hinv hinv2 hdrop hcell
      have hB1 : ∀ w', Below (wr.alloc (.cells #[.string key, .string val] 36)).heap.size (wr.alloc (.cells #[.string key, .string val] 36)) w' → Below w.heap.size w w' := fun w' h => (hB.alloc hS _).trans (h.mono (by simp; omega))
      cases h1 : isName key
      · have hr : r = false := by rw [HI.out, h1]; rfl
        subst hr
        rw [h1] at hN
        go_wp2_with (go_at_call 23; refine (hN _).mono ?_; rintro e w' ⟨rfl, hb1⟩; have k1 := new_cell hb1 0 rfl; have k2 := new_cell hb1 1 rfl)
        go_ret
        exact ⟨rfl, hB1 _ hb1⟩
      rw [h1] at hN
      by_cases h2 : le8 key a0 = true
      · have hr : r = false := by rw [HI.out, h2]; simp
        subst hr
        unfold le8 at h2
        go_wp2_with (go_at_call 23; refine (hN _).mono ?_; rintro e w' ⟨rfl, hb1⟩; have k1 := new_cell hb1 0 rfl; have k2 := new_cell hb1 1 rfl)
        go_ret
        exact ⟨rfl, hB1 _ hb1⟩
      have h2 : le8 key a0 = false := by simpa using h2
      by_cases h3 : 60 < val.size
      · have hr : r = false := by rw [HI.out, decide_eq_false (by omega : ¬ val.size ≤ 60)]; simp
        subst hr
        have d3 : decide ((60 : Int) < (val.size : Int)) = true := by simp; omega
        unfold le8 at h2
        go_wp2_with (go_at_call 23; refine (hN _).mono ?_; rintro e w' ⟨rfl, hb1⟩; have k1 := new_cell hb1 0 rfl; have k2 := new_cell hb1 1 rfl)
        go_ret
        exact ⟨rfl, hB1 _ hb1⟩
      have d3 : decide ((60 : Int) < (val.size : Int)) = false := by simp; omega
      have hgo : r = rightFrom key (l.drop (k + 1)) := by rw [HI.out, h1, h2, decide_eq_true (by omega : val.size ≤ 60)]; rfl
      have HG := Lib.hid hgo
      unfold le8 at h2
      clear hgo HI HRR
      go_wp2_with (go_at_call 23; refine (hN _).mono ?_; rintro e w' ⟨rfl, hb1⟩; have k1 := new_cell hb1 0 rfl; have k2 := new_cell hb1 1 rfl)
      go_roundw
      case rel => exact ⟨k + 1, key, by omega, rfl, by go_num, HG, hB1 _ hb1⟩
      case measure => simp [intOf]; omega
    · obtain rfl : k = n := by omega
      have hr : r = true := by rw [hinv.out, ← HN.out]; simp [rightFrom]
      subst hr
      clear hinv HRR
      go_wp2
      go_ret
      exact ⟨rfl, hB⟩

end Go.Proofs.Ytklgggolkclebaa
