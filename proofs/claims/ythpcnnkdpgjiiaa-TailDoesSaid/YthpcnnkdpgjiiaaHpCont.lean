/-
  What container/heap's Push, Pop and Remove do to the row.
-/
import Derived.Test.YthpcnnkdpgjiiaaHpDown
namespace Go.Proofs.Ythpcnnkdpgjiiaa
open Go.RowKit Go.Maps Go.Proofs.HeapMath

/-- One was taken out. -/
def Out (w : World) (S M B cap : Nat) (mo : Value) (l : List Tm) (t : Tm) (w' : World) : Prop :=
  ∃ l', (l' ++ [t]).Perm l ∧ Hep l' l'.length ∧ Rw w' S M mo (.slice (some ⟨B, 0, none⟩) l'.length cap) l' ∧ Mut [S, B, M] w w'
def OutE (w : World) (S M B cap : Nat) (mo : Value) (l : List Tm) (t : Tm) (e : Ending) (w' : World) : Prop :=
  e = .returned (.iface 123 (.agg #[.int .i64 t.1, .int .i64 t.2])) ∧ Out w S M B cap mo l t w'
/-- The last step: the last one is taken out. -/
theorem out_last {w w2 : World} {S M B cap n : Nat} {mo : Value} {l l2 : List Tm} {t : Tm} (hp : l2.Perm l) (hn : l2.length = n + 1) (hh : Hep l2 n) (ht : at_ l2 n = t) (hr : Rw w2 S M mo (.slice (some ⟨B, 0, none⟩) (n + 1) cap) l2) (hm : Mut [S, B, M] w w2) :
    Calls Try.prog 73 #[.pointer (some ⟨S, 1, none⟩)] w2 fun e w' => e = .returned (.iface 123 (.agg #[.int .i64 t.1, .int .i64 t.2])) ∧ Out w S M B cap mo l t w' := by
  have e := take_last hn
  rw [ht] at e
  have hlen : (l2.take n).length = n := by simp; omega
  have h2 : Rw w2 S M mo (.slice (some ⟨B, 0, none⟩) (n + 1) cap) (l2.take n ++ [t]) := e ▸ hr
  exact (rpop_any w2 h2).mono fun x w' ⟨h3, h4, h5⟩ => ⟨h3, l2.take n, e ▸ hp, hep_take hh (by omega), h4, hm.trans (h5.wider (by simp))⟩

set_option maxRecDepth 100000 in
set_option maxHeartbeats 1000000 in
theorem cpop_any {S M B cap n : Nat} {mo : Value} {l : List Tm} (w : World) (h : Rw w S M mo (.slice (some ⟨B, 0, none⟩) (n + 1) cap) l) (hh : Hep l (n + 1)) :
    Calls Try.prog 49 #[.iface 126 (.pointer (some ⟨S, 1, none⟩))] w (OutE w S M B cap mo l (at_ l 0)) := by
  have hl := h.len2.1
  have hm := h.most
  have h1 := len_any w h
  have h2 := swap_any 0 n w h (by omega) (by omega)
  rw [← hl] at h1
  obtain ⟨l1, hl1⟩ : ∃ l1, sw l 0 n = l1 := ⟨_, rfl⟩
  have hp1 : l1.Perm l := hl1 ▸ sw_perm (by omega) (by omega)
  have hat : at_ l1 n = at_ l 0 := by rw [← hl1, at_sw (by omega) (by omega), if_pos rfl]
  have hdn : DnInv l1 n 0 := by
    by_cases e : n = 0
    · subst e
      exact ⟨fun k k0 hk => by omega, fun c c0 hc => by omega⟩
    · rw [← hl1]; exact hep_swap hh (by omega) (by omega)
  rw [hl1] at h2
  have h3 := fun w1 (hr : Rw w1 S M mo (.slice (some ⟨B, 0, none⟩) (n + 1) cap) l1) => down_any 0 n w1 hr (by omega) (by omega) hdn
  have h4 : ∀ w1 w2 b, Mut [B, M] w w1 → Dn w1 S M B cap (n + 1) mo l1 n 0 b w2 → Calls Try.prog 73 #[.pointer (some ⟨S, 1, none⟩)] w2 fun e w' => e = .returned (.iface 123 (.agg #[.int .i64 (at_ l 0).1, .int .i64 (at_ l 0).2])) ∧ Out w S M B cap mo l (at_ l 0) w' := fun w1 w2 b hm1 ⟨l2, p1, p2, p3, p4, p5, p6⟩ => by
    refine out_last (p1.trans hp1) (by rw [(p1.trans hp1).length_eq]; exact hl.symm) ?_ (by rw [p2 n (Nat.le_refl _), hat]) p3 ((hm1.trans p4).wider (by simp))
    cases b with
    | true => exact p5 rfl
    | false =>
      obtain ⟨rfl, h⟩ := p6 rfl
      exact up_done h (.inl rfl)
  have H1 := Lib.hid h1
  have H2 := Lib.hid h2
  have H3 := Lib.hid h3
  have H4 := Lib.hid h4
  have hn5 : n + 1 ≤ 5000 := by omega
  clear h hh hl hm h1 h2 hl1 hp1 hat hdn h3 h4
  go_enter Try.func49, Try.ntmps49
  go_wp2_with fail
  refine H1.out.mono ?_
  rintro e w' ⟨rfl, rfl⟩
  go_wp2_with fail
  refine H2.out.mono ?_
  rintro e w1 ⟨rfl, hr1, hm1⟩
  have HR1 := Lib.hid hr1
  have HM1 := Lib.hid hm1
  clear hr1 hm1
  go_wp2_with fail
  refine (H3.out _ HR1.out).mono ?_
  rintro e w2 ⟨b, rfl, hd⟩
  have HD := Lib.hid hd
  clear hd
  go_wp2_with fail
  refine (H4.out _ _ _ HM1.out HD.out).mono ?_
  rintro e w3 ⟨rfl, ho⟩
  have HO := Lib.hid ho
  clear ho
  go_wp2_with fail
  go_ret
  exact ⟨rfl, HO.out⟩

/-- One was put in. -/
def InE (w : World) (S M : Nat) (mo v : Value) (l : List Tm) (t : Tm) (w' : World) : Prop :=
  ∃ l' g cap, l'.Perm (l ++ [t]) ∧ Hep l' l'.length ∧ Rw w' S M mo (.slice (some ⟨g, 0, none⟩) l'.length cap) l' ∧ Mut (S :: M :: v.ownBlock.toList) w w' ∧ (v.ownBlock = some g ∨ w.heap.size ≤ g)
set_option maxRecDepth 100000 in
set_option maxHeartbeats 1000000 in
theorem cpush_any {S M : Nat} {mo v : Value} {l : List Tm} (t : Tm) (w : World) (h : Rw w S M mo v l) (hh : Hep l l.length) (ht : In64 t) (hno : isin t.2 l = false) (hmost : l.length < 5000) :
    Calls Try.prog 51 #[.iface 126 (.pointer (some ⟨S, 1, none⟩)), .iface 123 (.agg #[.int .i64 t.1, .int .i64 t.2])] w fun e w' => e = .returned (.tuple #[]) ∧ InE w S M mo v l t w' := by
  have h1 := rpush_any t w h ht hno hmost
  obtain ⟨n, hn⟩ : ∃ n, l.length = n := ⟨_, rfl⟩
  have hl1 : (l ++ [t]).length = n + 1 := by simp [hn]
  have hu := hep_snoc hh t
  rw [hn] at h1 hu hmost
  have h2 : ∀ w1 g cap, Rw w1 S M mo (.slice (some ⟨g, 0, none⟩) (n + 1) cap) (l ++ [t]) → Calls Try.prog 50 #[.pointer (some ⟨S, 1, none⟩)] w1 fun e w' => e = .returned (.int .i64 ((n : Int) + 1)) ∧ w1 = w' := fun w1 g cap hr => by
    have := len_any w1 hr
    rw [hl1] at this
    simpa using this
  have h3 := fun w1 g cap (hr : Rw w1 S M mo (.slice (some ⟨g, 0, none⟩) (n + 1) cap) (l ++ [t])) => up_any (n + 1) n w1 hr (by omega) (by omega) hu
  have h4 : ∀ w1 w2 g cap, Mut (S :: M :: v.ownBlock.toList) w w1 → (v.ownBlock = some g ∨ w.heap.size ≤ g) → Up w1 S M g cap (n + 1) mo (l ++ [t]) (n + 1) w2 → InE w S M mo v l t w2 := fun w1 w2 g cap hm1 hor ⟨l2, p1, p2, p3, p4, p5⟩ => by
    have hl2 : l2.length = n + 1 := by rw [p1.length_eq, hl1]
    refine ⟨l2, g, cap, p1, by rw [hl2]; exact p2, by rw [hl2]; exact p4, hm1.onto p5 fun k hk => ?_, hor⟩
    rcases List.mem_cons.1 hk with rfl | hk
    · rcases hor with h | h
      · exact .inl (by rw [h]; simp)
      · exact .inr h
    · exact .inl (by rw [List.mem_singleton.1 hk]; simp)
  have H1 := Lib.hid h1
  have H2 := Lib.hid h2
  have H3 := Lib.hid h3
  have H4 := Lib.hid h4
  clear h hh hno h1 hn hl1 hu h2 h3 h4 ht
  go_enter Try.func51, Try.ntmps51
  go_wp2_with fail
  refine H1.out.mono ?_
  rintro e w1 ⟨rfl, g, cap, hr1, hm1, hor⟩
  have HR1 := Lib.hid hr1
  have HM1 := Lib.hid hm1
  have HOR := Lib.hid hor
  clear hr1 hm1 hor
  go_wp2_with fail
  refine (H2.out _ _ _ HR1.out).mono ?_
  rintro e w' ⟨rfl, rfl⟩
  go_wp2_with fail
  refine (H3.out _ _ _ HR1.out).mono ?_
  rintro e w2 ⟨rfl, hup⟩
  have HU := Lib.hid hup
  clear hup
  go_wp2_with fail
  go_end0
  exact ⟨rfl, H4.out _ _ _ _ HM1.out HOR.out HU.out⟩
end Go.Proofs.Ythpcnnkdpgjiiaa
