/-
  What container/heap's up does to the row: what stands wrong at one place only goes up to where it belongs.
-/
import Derived.Deep.CutBlock
import Derived.Deep.DeepCutAuto
import Derived.Test.YthpcnnkdpgjiiaaHpPush
namespace Go.Proofs.Ythpcnnkdpgjiiaa
open Go.RowKit Go.Maps Go.Proofs.HeapMath

/-- The row as container/heap is handed it. -/
def ifc (S : Nat) : Value := .iface 126 (.pointer (some ⟨S, 1, none⟩))
/-- The same timers, as a heap. -/
def Up (w : World) (S M B cap n : Nat) (mo : Value) (l : List Tm) (m : Nat) (w' : World) : Prop :=
  ∃ l', l'.Perm l ∧ Hep l' m ∧ (∀ k, m ≤ k → at_ l' k = at_ l k) ∧ Rw w' S M mo (.slice (some ⟨B, 0, none⟩) n cap) l' ∧ Mut [B, M] w w'
def UpMid (w : World) (S M B cap n : Nat) (mo : Value) (l : List Tm) (m j : Nat) (w' : World) (l' : List Tm) : Prop :=
  l'.Perm l ∧ UpInv l' m j ∧ (l'.length = n ∧ m ≤ n ∧ ∀ k, m ≤ k → at_ l' k = at_ l k) ∧ j < m ∧ n ≤ 5000 ∧ Rw w' S M mo (.slice (some ⟨B, 0, none⟩) n cap) l' ∧ Mut [B, M] w w'

set_option maxRecDepth 100000 in
set_option maxHeartbeats 1000000 in
theorem up_any {S M B cap n : Nat} {mo : Value} {l : List Tm} (m j : Nat) (w : World) (h : Rw w S M mo (.slice (some ⟨B, 0, none⟩) n cap) l) (hmn : m ≤ n) (hj : j < m) (hu : UpInv l m j) :
    Calls Try.prog 53 #[.iface 126 (.pointer (some ⟨S, 1, none⟩)), .int .i64 (j : Int)] w fun e w' => e = .returned (.tuple #[]) ∧ Up w S M B cap n mo l m w' := by
  have hl := h.len2.1
  have hm := h.most
  have h0 : UpMid w S M B cap n mo l m j w l := ⟨List.Perm.refl _, hu, ⟨by omega, hmn, fun _ _ => rfl⟩, hj, by omega, h, Mut.refl _ _⟩
  obtain ⟨j0, hj0⟩ : ∃ j0, j = j0 := ⟨_, rfl⟩
  have H0 := Lib.hid h0
  clear h hu hl hj hj0 h0
  go_enter Try.func53, Try.ntmps53
  go_wp2_with fail
  go_loopw [1] (fun jv wr => ∃ (k : Nat) (l' : List Tm), jv = .int .i64 (k : Int) ∧ Hid (UpMid w S M B cap n mo l m k wr l')) (fun jv _ => (intOf jv).toNat)
  case atStart => exact ⟨j, l, rfl, H0⟩
  case round =>
    obtain ⟨k, l', rfl, HU⟩ := hrel
    obtain ⟨u1, u2, ⟨u3, u8, u9⟩, u4, u5, u6, u7⟩ := HU.out
    by_cases hk : k = 0
    · subst hk
      have hend : Up w S M B cap n mo l m wr := ⟨l', u1, up_done u2 (.inl rfl), u9, u6, u7⟩
      have HE := Lib.hid hend
      clear hend u1 u2 u3 u6 u7 u9 HU
      go_wp2_with fail
      go_end0
      exact ⟨rfl, HE.out⟩
    · obtain ⟨p, hp⟩ : ∃ p, (k - 1) / 2 = p := ⟨_, rfl⟩
      have hpk : p < k := by omega
      have hLe := less_any k p wr u6 (by omega) (by omega)
      obtain ⟨q, hq, hq2⟩ : ∃ q : Nat, (k : Int) - 1 = (q : Int) ∧ (q : Int) / 2 = (p : Int) := ⟨k - 1, by omega, by omega⟩
      have t1 : decide ((p : Int) = (k : Int)) = false := by simp; omega
      have t2 : ((p : Int) == (k : Int)) = false := by simp; omega
      have t3 : decide (p = k) = false := by simp; omega
      have HLe := Lib.hid hLe
      by_cases hlt : lt (at_ l' k) (at_ l' p) = true
      · rw [hlt] at HLe
        have hnew : ∀ W', Rw W' S M mo (.slice (some ⟨B, 0, none⟩) n cap) (sw l' p k) ∧ Mut [B, M] wr W' → UpMid w S M B cap n mo l m p W' (sw l' p k) := fun W' hW =>
          ⟨(sw_perm (by omega) (by omega)).trans u1, by rw [← hp]; exact up_step u2 (by omega) u4 (by omega) (by rw [hp]; exact hlt), ⟨by rw [length_sw]; exact u3, u8, fun x hx => by rw [at_sw (by omega) (by omega), if_neg (by omega), if_neg (by omega)]; exact u9 x hx⟩, by omega, u5, hW.1, u7.trans hW.2⟩
        have HN := Lib.hid hnew
        have hSw : ∀ W, Below wr.heap.size wr W → Calls Try.prog 75 #[.pointer (some ⟨S, 1, none⟩), .int .i64 (p : Int), .int .i64 (k : Int)] W fun e w' => e = .returned (.tuple #[]) ∧ Hid (UpMid w S M B cap n mo l m p w' (sw l' p k)) := fun W hW => (swap_any p k W (u6.later hW) (by omega) (by omega)).mono fun e w' ⟨h1, h2, h3⟩ => ⟨h1, Lib.hid (HN.out w' ⟨h2, (Mut.of_below hW).trans h3⟩)⟩
        have HS := Lib.hid hSw
        clear hnew hSw hLe u1 u2 u3 u6 u7 u9 HU hlt hp HN
        go_wp2_with fail
        refine HLe.out.mono ?_
        rintro e w1 ⟨rfl, hb⟩
        go_wp2_with fail
        refine (HS.out _ hb).mono ?_
        rintro e w2 ⟨rfl, HM⟩
        clear hb
        go_wp2_with fail
        go_roundw
        case rel => exact ⟨p, sw l' p k, rfl, HM⟩
        case measure => simp [intOf]; omega
      · have hlf : lt (at_ l' k) (at_ l' p) = false := by simpa using hlt
        rw [hlf] at HLe
        have hend : ∀ W, Below wr.heap.size wr W → Up w S M B cap n mo l m W := fun W hW => ⟨l', u1, up_done u2 (.inr (by unfold ok; rw [hp]; exact hlf)), u9, u6.later hW, u7.trans (Mut.of_below hW)⟩
        have HE := Lib.hid hend
        clear hend hLe u1 u2 u3 u6 u7 u9 HU hlt hlf hp
        go_wp2_with fail
        refine HLe.out.mono ?_
        rintro e w1 ⟨rfl, hb⟩
        go_wp2_with fail
        go_end0
        exact ⟨rfl, HE.out _ hb⟩
end Go.Proofs.Ythpcnnkdpgjiiaa
