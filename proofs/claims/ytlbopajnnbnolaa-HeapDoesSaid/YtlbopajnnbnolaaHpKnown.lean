/-
  The chapter's example holds; a heap of a law's own from world to world.
-/
import Derived.Test.YtlbopajnnbnolaaHpPut
namespace Go.Proofs.Ytlbopajnnbnolaa
open Go.RowKit Go.Maps Go.Proofs.HeapMath

/-- A heap of a law's own, made behind the world w₀: what lay there lies as it lay. -/
def Ow (w₀ W : World) (S most : Nat) (s : List Tm) (bs : List Nat) : Prop := Hp W bs S most s ∧ Below w₀.heap.size w₀ W ∧ ∀ k ∈ bs, w₀.heap.size ≤ k
theorem Ow.to {w₀ W W' : World} {S most : Nat} {s s' : List Tm} {bs : List Nat} (h : Ow w₀ W S most s bs) (ht : HpTo W bs S most s' W') : ∃ bs', Ow w₀ W' S most s' bs' ∧ Mut bs W W' ∧ Ext W bs bs' := by
  obtain ⟨bs', h1, h2, h3⟩ := ht
  refine ⟨bs', ⟨h1, h.2.1.trans (h2.below h.2.1.size h.2.2), fun k hk => ?_⟩, h2, h3⟩
  rcases h3 k hk with h4 | h4
  · exact h.2.2 k h4
  · have := h.2.1.size; omega
theorem Ow.later {w₀ W W' : World} {S most : Nat} {s : List Tm} {bs : List Nat} (h : Ow w₀ W S most s bs) (hb : Below W.heap.size W W') : Ow w₀ W' S most s bs := ⟨h.1.later hb, h.2.1.trans (hb.mono h.2.1.size), h.2.2⟩

set_option maxRecDepth 100000 in
set_option maxHeartbeats 2000000 in
theorem known_any (w : World) : Calls Try.prog 9 #[] w fun e w' => e = .returned (.bool true) ∧ Below w.heap.size w w' := by
  have hN := hnew_any 5 w (by omega) (by omega)
  have hN0 := fun W => hnew_no 0 W (by omega)
  have hN1 := fun W => hnew_no 5001 W (by omega)
  have h1 : ∀ S bs W, Ow w W S 5 [] bs → Calls Try.prog 10 #[.pointer (some ⟨S, 0, none⟩), .agg #[.int .i64 5, .int .i64 1]] W fun e w' => e = .returned (.int .u16 0) ∧ ∃ bs', Hid (Ow w w' S 5 [(5, 1)] bs') := fun S bs W h =>
    (hpush_ok (5, 1) W h.1 ⟨by simp, by simp⟩ rfl (by simp)).mono fun e w' ⟨x1, x2⟩ => by
      obtain ⟨bs', y, _⟩ := h.to x2
      exact ⟨x1, bs', Lib.hid y⟩
  have h2 : ∀ S bs W, Ow w W S 5 [(5, 1)] bs → Calls Try.prog 10 #[.pointer (some ⟨S, 0, none⟩), .agg #[.int .i64 3, .int .i64 2]] W fun e w' => e = .returned (.int .u16 0) ∧ ∃ bs', Hid (Ow w w' S 5 [(3, 2), (5, 1)] bs') := fun S bs W h =>
    (hpush_ok (3, 2) W h.1 ⟨by simp, by simp⟩ rfl (by simp)).mono fun e w' ⟨x1, x2⟩ => by
      obtain ⟨bs', y, _⟩ := h.to x2
      exact ⟨x1, bs', Lib.hid y⟩
  have h3 : ∀ S bs W, Ow w W S 5 [(3, 2), (5, 1)] bs → Calls Try.prog 13 #[.pointer (some ⟨S, 0, none⟩)] W fun e w' => e = .returned (.tuple #[.agg #[.int .i64 3, .int .i64 2], .bool true]) ∧ ∃ bs', Hid (Ow w w' S 5 [(5, 1)] bs') := fun S bs W h =>
    (hpop_any W h.1).mono fun e w' ⟨x1, x2⟩ => by
      obtain ⟨bs', y, _⟩ := h.to x2
      exact ⟨x1, bs', Lib.hid y⟩
  have h4 : ∀ S bs W W', Ow w W S 5 [(5, 1)] bs → Below W.heap.size W W' → Calls Try.prog 10 #[.pointer (some ⟨S, 0, none⟩), .agg #[.int .i64 3, .int .i64 1]] W' fun e w' => e = .returned (.int .u16 1) ∧ Below W.heap.size W w' := fun S bs W W' h hb =>
    (hpush_arg (3, 1) W' (h.later hb).1 ⟨by simp, by simp⟩ rfl).mono fun e w' ⟨x1, x2⟩ => ⟨x1, hb.trans (x2.mono hb.size)⟩
  have h5 : ∀ S bs W W', Ow w W S 5 [(5, 1)] bs → Below W.heap.size W W' → Calls Try.prog 12 #[.pointer (some ⟨S, 0, none⟩)] W' fun e w' => e = .returned (.int .i64 1) ∧ W' = w' := fun S bs W W' h hb => hlen_any W' (h.later hb).1
  have H0 := Lib.hid hN
  have H1 := Lib.hid h1
  have H2 := Lib.hid h2
  have H3 := Lib.hid h3
  have H4 := Lib.hid h4
  have H5 := Lib.hid h5
  have HN0 := Lib.hid hN0
  have HN1 := Lib.hid hN1
  clear hN hN0 hN1 h1 h2 h3 h4 h5
  go_enter Try.func9, Try.ntmps9
  go_wp2_with fail
  refine H0.out.mono ?_
  rintro e w1 ⟨S, bs, rfl, hh, hb, hbs⟩
  have HO : Hid (Ow w w1 S 5 [] bs) := Lib.hid ⟨hh, hb, hbs⟩
  clear hh hb hbs
  go_wp2_with fail
  refine (HN0.out _).mono ?_
  rintro e w' ⟨rfl, rfl⟩
  go_wp2_with fail
  refine (HN1.out _).mono ?_
  rintro e w' ⟨rfl, rfl⟩
  go_wp2_with fail
  refine (H1.out _ _ _ HO.out).mono ?_
  rintro e w2 ⟨rfl, bs2, HO2⟩
  go_wp2_with fail
  refine (H2.out _ _ _ HO2.out).mono ?_
  rintro e w3 ⟨rfl, bs3, HO3⟩
  go_wp2_with fail
  refine (H3.out _ _ _ HO3.out).mono ?_
  rintro e w4 ⟨rfl, bs4, HO4⟩
  clear HO HO2 HO3
  obtain ⟨n4, hn4⟩ : ∃ n4, w4.heap.size = n4 := ⟨_, rfl⟩
  have hB : Below w4.heap.size w4 (w4.alloc (.cells #[.int .i64 3, .int .i64 2] 31)) := box_below _
  have hk := blk_new w4 #[.int .i64 3, .int .i64 2] 31
  have hsz : (w4.alloc (.cells #[.int .i64 3, .int .i64 2] 31)).heap.size = n4 + 1 := by rw [World.size_alloc, hn4]
  have hw : Hid (∀ W, Below (w4.alloc (.cells #[.int .i64 3, .int .i64 2] 31)).heap.size (w4.alloc (.cells #[.int .i64 3, .int .i64 2] 31)) W → Below w4.heap.size w4 W) := Lib.hid fun W h => hB.trans (h.mono (by rw [World.size_alloc]; omega))
  have h6 := H4.out S bs4 (w4.alloc (.cells #[.int .i64 3, .int .i64 2] 31)) (w4.alloc (.cells #[.int .i64 3, .int .i64 2] 31)) (HO4.out.later hB) (Below.refl _ _)
  have H6 := Lib.hid h6
  have HK := Lib.hid hk
  clear hB hk h6
  go_wp2_with fail
  refine H6.out.mono ?_
  rintro e w5 ⟨rfl, hb5⟩
  have h7 := H5.out S bs4 w4 w5 HO4.out (hw.out _ hb5)
  have H7 := Lib.hid h7
  have hk5 := HK.out.later hb5
  have hend := HO4.out.2.1.trans ((hw.out _ hb5).mono HO4.out.2.1.size)
  have HE := Lib.hid hend
  rw [hn4] at hk5
  have k0 := hk5.cell 0 rfl
  have k1 := hk5.cell 1 rfl
  clear hb5 h7 hk5 hend hsz
  go_wp2_with fail
  refine H7.out.mono ?_
  rintro e w' ⟨rfl, rfl⟩
  go_wp2_with fail
  go_ret
  exact ⟨rfl, HE.out⟩
end Go.Proofs.Ytlbopajnnbnolaa
