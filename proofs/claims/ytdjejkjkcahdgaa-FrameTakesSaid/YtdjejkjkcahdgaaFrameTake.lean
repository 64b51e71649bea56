/-
  What frame.Take does, at every slice of bytes and every place: what the chapter says, in new memory; nothing that lay has turned.
-/
import Derived.Deep.RegionHeld3
import Derived.Test.YtdjejkjkcahdgaaFrameOf
namespace Go.Proofs.Ytdjejkjkcahdgaa
open Go.RowKit Go.Proofs.NumMath Go.Proofs.FrameMath

/-- 'b[lo:hi]' of a slice of bytes: a window. -/
theorem cut_all (A : Option Addr) (cs : List UInt8) (cap lo n : Nat) (hn : lo + n ≤ cs.length) (hl : cs.length ≤ cap) :
    ∃ A' : Option Addr, (∀ w : World, (Instr.slice 22 (.slice A cs.length cap) (some (.int .i64 (lo : Int))) (some (.int .i64 ((lo : Int) + (n : Int)))) none).run Try.prog w = .ok (.slice A' n (cap - lo)) w) ∧
      ∀ (W : World) (n₀ : Nat), Holds8 n₀ W A cs → Holds8 n₀ W A' ((cs.drop lo).take n) := by
  refine ⟨if cap = lo then A else A.map (·.add (lo * 1)), fun w => ?_, fun W n₀ hr h0 => ?_⟩
  · rw [run_slice_lh w 22 A cs.length cap (by kernel_rfl) .i64 .i64 (lo : Int) ((lo : Int) + (n : Int)) (by omega) (by omega) (by omega)]
    have hz : (sizeOf (Try.prog.elem 22)).run Try.prog w = .ok 1 w := by kernel_rfl
    rw [hz]
    have e1 : ((lo : Int) + (n : Int)).toNat = lo + n := by omega
    simp only [sliced, Result.andThen, Int.toNat_natCast, e1, Nat.add_sub_cancel_left]
  · have hlen : ((cs.drop lo).take n).length = n := by simp; omega
    rw [hlen] at h0
    obtain ⟨b, off, rfl, hb, hc⟩ := hr (by omega)
    rw [if_neg (by omega)]
    refine ⟨b, off + lo, ?_, hb, fun j hj => ?_⟩
    · simp only [Option.map_some, Nat.mul_one, Addr.add]
      by_cases h1 : lo = 0 <;> simp [h1]
    · rw [hlen] at hj
      rw [Nat.add_assoc, hc (lo + j) (by omega)]
      simp [hj, show lo + j < cs.length by omega]

theorem own_base {w : World} {b c : Nat} {e : TypeId} {v : Value} {n : Nat} {xs : List Value} (h : w.ownsRow b e 1 v n xs) (hb : c ≤ b) : w.ownsRow c e 1 v n xs := by
  refine ⟨h.1, ?_⟩
  rcases h.2 with h | ⟨g, cap, cur, h1, h2, h3⟩
  · exact .inl h
  · exact .inr ⟨g, cap, cur, h1, Nat.le_trans hb h2, h3⟩

set_option linter.unusedSimpArgs false in
set_option maxRecDepth 100000 in
set_option maxHeartbeats 4000000 in
/-- **frame.Take at every slice of bytes and every place.** -/
theorem take_any (A : Option Addr) (cs : List UInt8) (cap : Nat) (i : Int) (w : World) (hl : cs.length ≤ cap) (hcap : cap ≤ 9223372036854775807) (hr : Holds8 w.heap.size w A cs) :
    Calls Try.prog 31 #[.slice A cs.length cap, .int .i64 i] w fun e w' => ∃ A' c', e = .returned (.tuple #[.slice A' (take cs i).1.length c', .int .i64 ((take cs i).2.1 : Int), .int .u16 ((take cs i).2.2 : Int)]) ∧
      w'.ownsRow w.heap.size 5 1 (.slice A' (take cs i).1.length c') (take cs i).1.length ((take cs i).1.map b8) ∧ Below w.heap.size w w' := by
  have hget := get_any A cs cap i w hl hcap hr
  generalize hT : take cs i = T
  unfold take at hT
  generalize hg : getAt cs i = g at hget hT
  obtain ⟨n, to, e0⟩ := g
  dsimp only at hT hget
  have HG := Lib.hid hget
  clear hget
  by_cases he : e0 = 0
  · subst he
    obtain ⟨hto, hn⟩ := getAt_le hg
    simp only [ne_eq, not_true_eq_false, if_false] at hT
    clear hg
    by_cases h1 : 4096 < n
    · rw [if_pos h1] at hT
      subst hT
      clear hr
      go_enter Try.func31, Try.ntmps31
      go_wp2_with (go_at_call 60; refine HG.out.mono ?_; rintro e w1 ⟨rfl, hb1⟩)
      go_ret3
      exact ⟨none, 0, rfl, own_none, hb1⟩
    rw [if_neg h1] at hT
    by_cases h2 : cs.length - to < 4 + n
    · rw [if_pos h2] at hT
      subst hT
      obtain ⟨len, hlen⟩ : ∃ len, cs.length = len := ⟨_, rfl⟩
      rw [hlen] at HG h2 hto hl ⊢
      have h3 : (len : Int) - (to : Int) < 4 + (n : Int) := by omega
      clear hr hlen
      go_enter Try.func31, Try.ntmps31
      go_wp2_with (go_at_call 60; refine HG.out.mono ?_; rintro e w1 ⟨rfl, hb1⟩)
      go_ret3
      exact ⟨none, 0, rfl, own_none, hb1⟩
    · rw [if_neg h2] at hT
      obtain ⟨A1, hs1, hw1⟩ := cut_all A cs cap to 4 (by omega) hl
      obtain ⟨A2, hs2, hw2⟩ := cut_all A cs cap (to + 4) n (by omega) hl
      rw [show ((to : Int) + ((4 : Nat) : Int)) = (to : Int) + 4 by omega] at hs1
      rw [show ((to + 4 : Nat) : Int) = (to : Int) + 4 by omega] at hs2
      have hhl : ((cs.drop to).take 4).length = 4 := by simp; omega
      have hbl : ((cs.drop (to + 4)).take n).length = n := by simp; omega
      have HR1 : Hid (∀ W : World, Below w.heap.size w W → Holds8 W.heap.size W A1 ((cs.drop to).take 4)) := Lib.hid (fun W hb => hw1 W _ (hr.later hb))
      have HR2 : Hid (∀ W : World, Below w.heap.size w W → Holds8 W.heap.size W A2 ((cs.drop (to + 4)).take n)) := Lib.hid (fun W hb => hw2 W _ (hr.later hb))
      obtain ⟨len, hlen⟩ : ∃ len, cs.length = len := ⟨_, rfl⟩
      rw [hlen] at HG h2 hto hl hs1 hs2 ⊢
      have h3 : ¬ (len : Int) - (to : Int) < 4 + (n : Int) := by omega
      clear hr hlen hw1 hw2
      generalize (cs.drop to).take 4 = head at hT HR1 hhl
      generalize (cs.drop (to + 4)).take n = body at hT HR2 hbl
      obtain ⟨bt, hbt⟩ : ∃ bt, bt = decide (head = four (sum body)) := ⟨_, rfl⟩
      have HT : Hid ((bt = true ∧ T = (body, to + 4 + n, 0)) ∨ (bt = false ∧ T = ([], 0, 30))) := Lib.hid (by
        by_cases h : head = four (sum body)
        · rw [if_pos h] at hT
          exact .inl ⟨by rw [hbt]; simp [h], hT.symm⟩
        · rw [if_neg h] at hT
          exact .inr ⟨by rw [hbt]; simp [h], hT.symm⟩)
      have HBT := Lib.hid hbt
      have HHL := Lib.hid hhl
      have HBL := Lib.hid hbl
      clear hT hbt hhl hbl h2
      have ew1 : IntKind.i64.wrap ((to : Int) + 4) = (to : Int) + 4 := IntWalk.i64_in _ (by omega)
      have ew2 : IntKind.i64.wrap ((to : Int) + 4 + (n : Int)) = (to : Int) + 4 + (n : Int) := IntWalk.i64_in _ (by omega)
      go_enter Try.func31, Try.ntmps31
      go_wp2_with (go_at_call 60; refine HG.out.mono ?_; rintro e w1 ⟨rfl, hB1⟩)
      have hBd : Below w.heap.size w w1.drew := ⟨hB1.os, hB1.tape, hB1.output, hB1.size, hB1.block⟩
      refine wp_region_held_drew (S := fun W => Below w.heap.size w W) (by kernel_rfl) ?_ (fun hHeld => ?_)
      · exact hBd
      refine wpAnyH_take (i := 0) (v := ?_) rfl (by kernel_rfl) (by kernel_rfl) (by kernel_rfl) (fun _ _ _ h => h) (Or.inl ⟨by rfl, ?_⟩) (by assumption) ?_
      rotate_left
      · intro wq hSw; (try dsimp only at hSw); go_simp; (try with_reducible rfl)
      simp only [Act.put, List.getElem_toArray, List.getElem_cons_succ, List.getElem_cons_zero, List.setIfInBounds_toArray, List.set_cons_zero, List.set_cons_succ]
      refine wpAnyH_take (i := 1) (v := ?_) rfl (by kernel_rfl) (by kernel_rfl) (by kernel_rfl) (fun _ _ _ h => h) (Or.inl ⟨by rfl, ?_⟩) (by assumption) ?_
      rotate_left
      · intro wq hSw; (try dsimp only at hSw); go_simp; (try with_reducible rfl)
      simp only [Act.put, List.getElem_toArray, List.getElem_cons_succ, List.getElem_cons_zero, List.setIfInBounds_toArray, List.set_cons_zero, List.set_cons_succ]
      refine wpAnyH_take (i := 2) (v := ?_) rfl (by kernel_rfl) (by kernel_rfl) (by kernel_rfl) (fun _ _ _ h => h) (Or.inl ⟨by rfl, ?_⟩) (by assumption) ?_
      rotate_left
      · intro wq hSw; (try dsimp only at hSw); go_simp; (try with_reducible rfl)
      simp only [Act.put, List.getElem_toArray, List.getElem_cons_succ, List.getElem_cons_zero, List.setIfInBounds_toArray, List.set_cons_zero, List.set_cons_succ]
      refine wpAnyH_take (i := 3) (v := ?_) rfl (by kernel_rfl) (by kernel_rfl) (by kernel_rfl) (fun _ _ _ h => h) (Or.inl ⟨by rfl, ?_⟩) (by assumption) ?_
      rotate_left
      · intro wq hSw; (try dsimp only at hSw); go_simp; (try with_reducible rfl)
      simp only [Act.put, List.getElem_toArray, List.getElem_cons_succ, List.getElem_cons_zero, List.setIfInBounds_toArray, List.set_cons_zero, List.set_cons_succ]
      refine wpAnyH_take (i := 4) (v := ?_) rfl (by kernel_rfl) (by kernel_rfl) (by kernel_rfl) (fun _ _ _ h => h) (Or.inl ⟨by rfl, ?_⟩) (by assumption) ?_
      rotate_left
      · intro wq hSw; (try dsimp only at hSw); go_simp; (try with_reducible rfl)
      simp only [Act.put, List.getElem_toArray, List.getElem_cons_succ, List.getElem_cons_zero, List.setIfInBounds_toArray, List.set_cons_zero, List.set_cons_succ]
      refine wpAnyH_take (i := 5) (v := ?_) rfl (by kernel_rfl) (by kernel_rfl) (by kernel_rfl) (fun _ _ _ h => h) (Or.inl ⟨by rfl, ?_⟩) (by assumption) ?_
      rotate_left
      · intro wq hSw; (try dsimp only at hSw); go_simp; (try with_reducible rfl)
      simp only [Act.put, List.getElem_toArray, List.getElem_cons_succ, List.getElem_cons_zero, List.setIfInBounds_toArray, List.set_cons_zero, List.set_cons_succ]
      refine wpAnyH_take (i := 6) (v := ?_) rfl (by kernel_rfl) (by kernel_rfl) (by kernel_rfl) (fun _ _ _ h => h) (Or.inl ⟨by rfl, ?_⟩) (by assumption) ?_
      rotate_left
      · intro wq hSw; (try dsimp only at hSw); go_simp; (try with_reducible rfl)
      simp only [Act.put, List.getElem_toArray, List.getElem_cons_succ, List.getElem_cons_zero, List.setIfInBounds_toArray, List.set_cons_zero, List.set_cons_succ]
      refine wpAnyH_take (i := 7) (v := ?_) rfl (by kernel_rfl) (by kernel_rfl) (by kernel_rfl) (fun _ _ _ h => h) (Or.inl ⟨by rfl, ?_⟩) (by assumption) ?_
      rotate_left
      · intro wq hSw; (try dsimp only at hSw); go_simp; (try with_reducible rfl)
      simp only [Act.put, List.getElem_toArray, List.getElem_cons_succ, List.getElem_cons_zero, List.setIfInBounds_toArray, List.set_cons_zero, List.set_cons_succ]
      refine wpAnyH_ready (rs := [8]) (by kernel_rfl) (by simp) ?_
      refine AllReadyH.cons rfl (fun K hK => ?_) AllReadyH.nil
      go_simp
      refine (sumOf_holds A2 body n (cap - (to + 4)) _ HBL.out (by omega) (HR2.out _ hBd)).mono ?_
      rintro e w2 ⟨A3, rfl, hr3, hb2⟩
      have hB2 : Below w.heap.size w w2 := hB1.trans ((undrewn hb2).mono hB1.size)
      have HR3 := Lib.hid hr3
      clear hr3
      clear hHeld
      (try go_wp2_with fail)
      refine hK.out _ _ ?_ (fun hHeld => ?_)
      · exact hB2
      clear hK K
      try simp only [Act.put, List.getElem_toArray, List.getElem_cons_succ, List.getElem_cons_zero, List.setIfInBounds_toArray, List.set_cons_zero, List.set_cons_succ]
      refine wpAnyH_ready (rs := [9]) (by kernel_rfl) (by simp) ?_
      refine AllReadyH.cons rfl (fun K hK => ?_) AllReadyH.nil
      go_simp
      refine (equal_any A1 (some A3) head (four (sum body)) 4 4 (cap - to) 4 w2 bt HHL.out (four_length _) (HR1.out _ hB2) HR3.out HBT.out).mono ?_
      rintro e w3 ⟨rfl, rfl⟩
      clear hHeld
      (try go_wp2_with fail)
      refine hK.out _ _ ?_ (fun hHeld => ?_)
      · exact hB2
      clear hK K
      try simp only [Act.put, List.getElem_toArray, List.getElem_cons_succ, List.getElem_cons_zero, List.setIfInBounds_toArray, List.set_cons_zero, List.set_cons_succ]
      refine wpAnyH_take (i := 10) (v := ?_) rfl (by kernel_rfl) (by kernel_rfl) (by kernel_rfl) (fun _ _ _ h => h) (Or.inl ⟨by rfl, ?_⟩) (by assumption) ?_
      rotate_left
      · intro wq hSw; (try dsimp only at hSw); go_simp; (try with_reducible rfl)
      simp only [Act.put, List.getElem_toArray, List.getElem_cons_succ, List.getElem_cons_zero, List.setIfInBounds_toArray, List.set_cons_zero, List.set_cons_succ]
      refine wpAnyH_done (by kernel_rfl) ?_ _
      clear hHeld
      clear HR1 HR3 hb2 hBd hs1
      rcases HT.out with ⟨hb, hT⟩ | ⟨hb, hT⟩
      · subst hb hT
        go_wp2_with fail
        refine (clone_any A2 body n (cap - (to + 4)) _ HBL.out (by omega) (HR2.out _ hB2)).mono ?_
        rintro e w4 ⟨A4, c4, rfl, hown4, hb4⟩
        have HO4 := Lib.hid hown4
        have hB4 := hB2.trans (hb4.mono hB2.size)
        have hmo := hB2.size
        clear hown4 hb4
        go_wp2_with fail
        go_ret3
        refine ⟨A4, c4, ?_, ?_, hB4⟩
        · rw [HBL.out]; simp
        · rw [HBL.out]
          have h := HO4.out
          rw [HBL.out] at h
          exact own_base h hmo
      · subst hb hT
        go_wp2
        go_ret3
        exact ⟨none, 0, rfl, own_none, hB2⟩
  · simp only [ne_eq, he, not_false_eq_true, if_true] at hT
    subst hT
    clear hg hr
    have he' : ((e0 : Int) != 0) = true := by simp; exact he
    go_enter Try.func31, Try.ntmps31
    go_wp2_with (go_at_call 60; refine HG.out.mono ?_; rintro e w1 ⟨rfl, hb1⟩)
    go_ret3
    exact ⟨none, 0, rfl, own_none, hb1⟩

end Go.Proofs.Ytdjejkjkcahdgaa
