/-
  A new buffer.
-/
import Derived.Test.YthpcnnkdpgjiiaaTlEasy
namespace Go.Proofs.Ythpcnnkdpgjiiaa
open Go.RowKit Go.Maps Go.Proofs.HeapMath Go.Proofs.TailMath

set_option maxRecDepth 100000 in
set_option maxHeartbeats 1000000 in
theorem tnew_no (sp wait most : Int) (w : World) (h : ¬ ((1 ≤ sp ∧ sp ≤ 5000) ∧ (1 ≤ wait ∧ wait ≤ 1099511627776) ∧ (1 ≤ most ∧ most ≤ 5000))) :
    Calls Try.prog 10 #[.int .i64 sp, .int .i64 wait, .int .i64 most] w fun e w' => e = .returned (.pointer none) ∧ w = w' := by
  have h1 := fun W => within_any sp 5000 W
  have h2 := fun W => within_any wait 1099511627776 W
  have h3 := fun W => within_any most 5000 W
  obtain ⟨a, ha⟩ : ∃ a, decide (1 ≤ sp ∧ sp ≤ 5000) = a := ⟨_, rfl⟩
  obtain ⟨b, hb⟩ : ∃ a, decide (1 ≤ wait ∧ wait ≤ 1099511627776) = a := ⟨_, rfl⟩
  obtain ⟨c, hc⟩ : ∃ a, decide (1 ≤ most ∧ most ≤ 5000) = a := ⟨_, rfl⟩
  have hn : (a && b && c) = false := by
    rw [← ha, ← hb, ← hc]
    rw [← Bool.not_eq_true]
    simp only [Bool.and_eq_true, decide_eq_true_eq]
    exact fun e => h ⟨e.1.1, e.1.2, e.2⟩
  rw [ha] at h1
  rw [hb] at h2
  rw [hc] at h3
  have H1 := Lib.hid h1
  have H2 := Lib.hid h2
  have H3 := Lib.hid h3
  clear h h1 h2 h3 ha hb hc
  cases a with
  | false =>
    go_enter Try.func10, Try.ntmps10
    go_wp2_with fail
    refine (H1.out _).mono ?_
    rintro e w' ⟨rfl, rfl⟩
    go_wp2_with fail
    go_ret
    exact ⟨rfl, rfl⟩
  | true =>
    cases b with
    | false =>
      go_enter Try.func10, Try.ntmps10
      go_wp2_with fail
      refine (H1.out _).mono ?_
      rintro e w' ⟨rfl, rfl⟩
      go_wp2_with fail
      refine (H2.out _).mono ?_
      rintro e w' ⟨rfl, rfl⟩
      go_wp2_with fail
      go_ret
      exact ⟨rfl, rfl⟩
    | true =>
      cases c with
      | true => cases hn
      | false =>
        go_enter Try.func10, Try.ntmps10
        go_wp2_with fail
        refine (H1.out _).mono ?_
        rintro e w' ⟨rfl, rfl⟩
        go_wp2_with fail
        refine (H2.out _).mono ?_
        rintro e w' ⟨rfl, rfl⟩
        go_wp2_with fail
        refine (H3.out _).mono ?_
        rintro e w' ⟨rfl, rfl⟩
        go_wp2_with fail
        go_ret
        exact ⟨rfl, rfl⟩

def NewTo (w : World) (b : St) (e : Ending) (w' : World) : Prop := ∃ S bs, e = .returned (.pointer (some ⟨S, 0, none⟩)) ∧ Tb w' bs S b ∧ Below w.heap.size w w' ∧ ∀ k ∈ bs, w.heap.size ≤ k
theorem new_to {w w2 : World} {sp wait most H : Nat} {hbs : List Nat} (h1 : 1 ≤ sp ∧ sp ≤ 5000) (h2 : 1 ≤ wait ∧ wait ≤ 1099511627776) (h3 : 1 ≤ most ∧ most ≤ 5000) (hH : Hp w2 hbs H sp []) (hb : Below (w.alloc (.map #[] 0)).heap.size (w.alloc (.map #[] 0)) w2) (hl : ∀ k ∈ hbs, (w.alloc (.map #[] 0)).heap.size ≤ k) :
    NewTo w (new sp wait most) (.returned (.pointer (some ⟨w2.heap.size + 2, 0, none⟩))) (((w2.alloc (.map #[] 0)).alloc (.map #[] 0)).alloc (.cells (bfC (new sp wait most) w.heap.size w2.heap.size (w2.heap.size + 1) H (.slice none 0 0)) 79)) := by
  have hs := hb.size
  rw [World.size_alloc] at hs hb hl
  have hlt := hH.lt
  obtain ⟨C, hC⟩ : ∃ C, bfC (new sp wait most) w.heap.size w2.heap.size (w2.heap.size + 1) H (.slice none 0 0) = C := ⟨_, rfl⟩
  rw [hC]
  have hm2 : Below w2.heap.size w2 (((w2.alloc (.map #[] 0)).alloc (.map #[] 0)).alloc (.cells C 79)) := ((box_below _).alloc (by simp) _).alloc (by simp; omega) _
  have b1 := blk_new ((w2.alloc (.map #[] 0)).alloc (.map #[] 0)) C 79
  rw [World.size_alloc, World.size_alloc] at b1
  have a1 : Am w2 83 (plainElem Try.prog 5) w.heap.size [] := (Am.made w 83 (plainElem Try.prog 5)).same (hb.block _ (by omega))
  have a2 := Am.made w2 83 (plainElem Try.prog 3)
  have a3 := Am.made (w2.alloc (.map #[] 0)) 3 ptrElem
  rw [World.size_alloc] at a3
  refine ⟨_, _, rfl, ⟨w.heap.size, w2.heap.size, w2.heap.size + 1, H, .slice none 0 0, hbs, [], ⟨hC ▸ b1, a1.same (hm2.block _ (by omega)), Qu.nil _, hH.later hm2, ?_, ?_, by simp, rfl, ?_, ?_⟩, new_iv h1 h2 h3, rfl⟩, ?_, ?_⟩
  · exact a2.same ((((box_below (W := w2.alloc (.map #[] 0)) (.map #[] 0)).alloc (by simp) _).block _ (by simp)))
  · exact a3.same ((box_below (W := (w2.alloc (.map #[] 0)).alloc (.map #[] 0)) _).block _ (by simp))
  · simp [core, Value.ownBlock]
    omega
  · intro k hk hm
    have h4 := hlt k hm
    have h5 := hl k hm
    simp [core, Value.ownBlock] at hk
    omega
  · exact ((box_below (.map #[] 0)).trans (hb.mono (by omega))).trans (hm2.mono (by omega))
  · intro k hk
    rcases List.mem_append.1 hk with e | e
    · simp [core, Value.ownBlock] at e
      omega
    · have := hl k e; omega

set_option maxRecDepth 100000 in
set_option maxHeartbeats 1000000 in
theorem tnew_any (sp wait most : Nat) (w : World) (h1 : 1 ≤ sp ∧ sp ≤ 5000) (h2 : 1 ≤ wait ∧ wait ≤ 1099511627776) (h3 : 1 ≤ most ∧ most ≤ 5000) :
    Calls Try.prog 10 #[.int .i64 (sp : Int), .int .i64 (wait : Int), .int .i64 (most : Int)] w (NewTo w (new sp wait most)) := by
  have k1 := fun W => within_any sp 5000 W
  have k2 := fun W => within_any wait 1099511627776 W
  have k3 := fun W => within_any most 5000 W
  rw [show decide ((1 : Int) ≤ (sp : Int) ∧ (sp : Int) ≤ 5000) = true by simp; omega] at k1
  rw [show decide ((1 : Int) ≤ (wait : Int) ∧ (wait : Int) ≤ 1099511627776) = true by simp; omega] at k2
  rw [show decide ((1 : Int) ≤ (most : Int) ∧ (most : Int) ≤ 5000) = true by simp; omega] at k3
  have hN := hnew_any sp (w.alloc (.map #[] 0)) h1.1 h1.2
  have hE : ∀ H hbs w2, Hp w2 hbs H sp [] → Below (w.alloc (.map #[] 0)).heap.size (w.alloc (.map #[] 0)) w2 → (∀ k ∈ hbs, (w.alloc (.map #[] 0)).heap.size ≤ k) → NewTo w (new sp wait most) (.returned (.pointer (some ⟨w2.heap.size + 2, 0, none⟩))) (((w2.alloc (.map #[] 0)).alloc (.map #[] 0)).alloc (.cells (bfC (new sp wait most) w.heap.size w2.heap.size (w2.heap.size + 1) H (.slice none 0 0)) 79)) := fun H hbs w2 a b c => new_to h1 h2 h3 a b c
  have HE := Lib.hid hE
  have HN := Lib.hid hN
  have K1 := Lib.hid k1
  have K2 := Lib.hid k2
  have K3 := Lib.hid k3
  have hmm := @run_makeMap Try.prog
  clear hE hN k1 k2 k3 h1 h2 h3
  go_enter Try.func10, Try.ntmps10
  go_wp2_with fail
  refine (K1.out _).mono ?_
  rintro e w' ⟨rfl, rfl⟩
  go_wp2_with fail
  refine (K2.out _).mono ?_
  rintro e w' ⟨rfl, rfl⟩
  go_wp2_with fail
  refine (K3.out _).mono ?_
  rintro e w' ⟨rfl, rfl⟩
  go_wp2_with fail
  refine HN.out.mono ?_
  rintro e w2 ⟨H, hbs, rfl, a, b, c⟩
  have HX := Lib.hid (HE.out H hbs w2 a b c)
  clear a b c
  go_wp2_with fail
  go_ret
  exact HX.out
end Go.Proofs.Ythpcnnkdpgjiiaa
