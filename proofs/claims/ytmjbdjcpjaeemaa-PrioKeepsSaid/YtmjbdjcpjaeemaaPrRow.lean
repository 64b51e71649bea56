/-
  What the row's own methods do: Len, above, Less.
-/
import Derived.Handy
import Derived.RegionTactic
import Derived.BigRegion
import Derived.Deep.RegionHeld
import Derived.Test.YtmjbdjcpjaeemaaPr0
import Derived.Test.YtmjbdjcpjaeemaaPrAbv
namespace Go.Proofs.Ytmjbdjcpjaeemaa
open Go.RowKit Go.Proofs.PrioMath

set_option maxRecDepth 100000 in
set_option maxHeartbeats 1000000 in
theorem len_any {S : Nat} {mo : Value × Value × Value} {v : Value} {l : List Of} (w : World) (h : Rw w S mo v l) :
    Calls Try.prog 16 #[.pointer (some ⟨S, 3, none⟩)] w fun e w' => e = .returned (.int .i64 (l.length : Int)) ∧ w = w' := by
  obtain ⟨A, cap, rfl, h1, h2⟩ := h.len
  have s1 := h.own.cell 3 rfl
  obtain ⟨n, hn⟩ : ∃ n, l.length = n := ⟨_, rfl⟩
  rw [hn] at s1 h1 ⊢
  clear h hn
  go_enter Try.func16, Try.ntmps16
  go_wp2_with fail
  go_ret
  exact ⟨rfl, rfl⟩

/-- Is a above b, as the row's own above tells it? -/
theorem over_eq (a b : Of) : lt b a = (abv a.w a.d b.w b.d || (decide (a.p < b.p) && !abv b.w b.d a.w a.d)) := by
  unfold lt abv
  by_cases h1 : b.w * (a.d + 1) < a.w * (b.d + 1)
  · simp [h1]
  · by_cases h2 : b.w * (a.d + 1) = a.w * (b.d + 1)
    · simp [h2]
    · have h3 : a.w * (b.d + 1) < b.w * (a.d + 1) := by omega
      simp [h1, h2, h3]
set_option maxRecDepth 100000 in
set_option maxHeartbeats 1000000 in
theorem over_any (a b : Of) (w : World) (fa : Fit a) (fb : Fit b) :
    Calls Try.prog 80 #[.agg #[.int .i64 (a.p : Int), .int .u64 (a.w : Int), .int .u64 (a.d : Int)], .agg #[.int .i64 (b.p : Int), .int .u64 (b.w : Int), .int .u64 (b.d : Int)]] w fun e w' => e = .returned (.bool (lt b a)) ∧ Below w.heap.size w w' := by
  have hv := over_eq a b
  rw [hv]
  clear hv
  obtain ⟨p, x, c⟩ := a
  obtain ⟨q, y, d⟩ := b
  obtain ⟨f1, f2⟩ := fa
  obtain ⟨f3, f4⟩ := fb
  simp only at f1 f2 f3 f4 ⊢
  have hA := fun W => above_any x c y d W f1 f2 f3 f4
  have hB := fun W => above_any y d x c W f3 f4 f1 f2
  obtain ⟨b1, hb1⟩ : ∃ b, abv x c y d = b := ⟨_, rfl⟩
  obtain ⟨b2, hb2⟩ : ∃ b, abv y d x c = b := ⟨_, rfl⟩
  obtain ⟨b3, hb3⟩ : ∃ b, decide (p < q) = b := ⟨_, rfl⟩
  have t1 : decide ((p : Int) < (q : Int)) = b3 := by rw [← hb3]; simp
  rw [hb1] at hA
  rw [hb2] at hB
  rw [hb1, hb2, hb3]
  have HA := Lib.hid hA
  have HB := Lib.hid hB
  have hw : Hid (Below w.heap.size w ((w.alloc (.cells #[.int .i64 (p : Int), .int .u64 (x : Int), .int .u64 (c : Int)] 59)).alloc (.cells #[.int .i64 (q : Int), .int .u64 (y : Int), .int .u64 (d : Int)] 59))) := Lib.hid ((box_below _).alloc (by simp) _)
  clear hA hB hb1 hb2 f1 f2 f3 f4
  cases b1 with
  | true =>
    go_enter Try.func80, Try.ntmps80
    go_wp2_with fail
    refine (HA.out _).mono ?_
    rintro e w1 ⟨rfl, rfl⟩
    go_wp2_with fail
    go_ret
    exact ⟨rfl, hw.out⟩
  | false =>
    cases b3 with
    | false =>
      go_enter Try.func80, Try.ntmps80
      go_wp2_with fail
      refine (HA.out _).mono ?_
      rintro e w1 ⟨rfl, rfl⟩
      go_wp2_with fail
      go_ret
      exact ⟨rfl, hw.out⟩
    | true =>
      go_enter Try.func80, Try.ntmps80
      go_wp2_with fail
      refine (HA.out _).mono ?_
      rintro e w1 ⟨rfl, rfl⟩
      go_wp2_with fail
      refine (HB.out _).mono ?_
      rintro e w1 ⟨rfl, rfl⟩
      go_wp2_with fail
      go_ret
      exact ⟨rfl, hw.out⟩

set_option linter.unusedSimpArgs false in
set_option maxRecDepth 100000 in
set_option maxHeartbeats 1000000 in
theorem less_any {S : Nat} {mo : Value × Value × Value} {v : Value} {l : List Of} (i j : Nat) (w : World) (h : Rw w S mo v l) (hi : i < l.length) (hj : j < l.length) :
    Calls Try.prog 76 #[.pointer (some ⟨S, 3, none⟩), .int .i64 (i : Int), .int .i64 (j : Int)] w fun e w' => e = .returned (.bool (lt (at_ l i) (at_ l j))) ∧ Below w.heap.size w w' := by
  obtain ⟨B, cap, rfl, h1, h2, _⟩ := h.slice (by omega)
  have hm := h.most
  have s1 := h.own.cell 3 rfl
  obtain ⟨i1, i2, i3⟩ := h.cell hi
  obtain ⟨j1, j2, j3⟩ := h.cell hj
  have hA := fun W => over_any (at_ l j) (at_ l i) W (h.fit _ (at_mem hj)) (h.fit _ (at_mem hi))
  obtain ⟨b, hb⟩ : ∃ b, lt (at_ l i) (at_ l j) = b := ⟨_, rfl⟩
  rw [hb] at hA ⊢
  obtain ⟨⟨ia, ib, ic⟩, hia⟩ : ∃ a, at_ l i = a := ⟨_, rfl⟩
  obtain ⟨⟨ja, jb, jc⟩, hja⟩ : ∃ a, at_ l j = a := ⟨_, rfl⟩
  rw [hia] at i1 i2 i3 hA
  rw [hja] at j1 j2 j3 hA
  simp only at i1 i2 i3 j1 j2 j3 hA
  obtain ⟨n, hn⟩ : ∃ n, l.length = n := ⟨_, rfl⟩
  rw [hn] at s1 h1 hi hj hm
  have hSl := h.own.lt
  have hBl : B < w.heap.size := by assumption
  have hF : ∀ W, Below w.heap.size w W → W.cell? ⟨S, 3, none⟩ = some (.slice (some ⟨B, 0, none⟩) n cap) ∧ (W.cell? ⟨B, j * 3, none⟩ = some (.int .i64 (ja : Int)) ∧ W.cell? ⟨B, j * 3 + 1, none⟩ = some (.int .u64 (jb : Int)) ∧ W.cell? ⟨B, j * 3 + 2, none⟩ = some (.int .u64 (jc : Int))) ∧ W.cell? ⟨B, i * 3, none⟩ = some (.int .i64 (ia : Int)) ∧ W.cell? ⟨B, i * 3 + 1, none⟩ = some (.int .u64 (ib : Int)) ∧ W.cell? ⟨B, i * 3 + 2, none⟩ = some (.int .u64 (ic : Int)) := fun W hW =>
    ⟨(hW.cell (p := ⟨S, 3, none⟩) hSl).trans s1, ⟨(hW.cell (p := ⟨B, j * 3, none⟩) hBl).trans j1, (hW.cell (p := ⟨B, j * 3 + 1, none⟩) hBl).trans j2, (hW.cell (p := ⟨B, j * 3 + 2, none⟩) hBl).trans j3⟩, (hW.cell (p := ⟨B, i * 3, none⟩) hBl).trans i1, (hW.cell (p := ⟨B, i * 3 + 1, none⟩) hBl).trans i2, (hW.cell (p := ⟨B, i * 3 + 2, none⟩) hBl).trans i3⟩
  have HF := Lib.hid hF
  have HA := Lib.hid hA
  have hB0 : Below w.heap.size w w.drew := (Below.refl _ w).drew
  clear h hn hA hb hia hja hF i1 i2 i3 j1 j2 j3 s1
  go_enter Try.func76, Try.ntmps76
  go_wp2_with fail
  refine wp_region_held_drew (S := fun W => Below w.heap.size w W) (by kernel_rfl) ?_ (fun hHeld => ?_)
  · exact hB0
  refine wpAnyH_take (i := 0) (v := ?_) rfl (by kernel_rfl) (by kernel_rfl) (by kernel_rfl) (fun _ _ _ h => h) (Or.inl ⟨by rfl, ?_⟩) (by assumption) ?_
  rotate_left
  · intro wq hSw; (try dsimp only at hSw); go_simp; (try with_reducible rfl)
  simp only [Act.put, List.getElem_toArray, List.getElem_cons_succ, List.getElem_cons_zero, List.setIfInBounds_toArray, List.set_cons_zero, List.set_cons_succ]
  refine wpAnyH_take (i := 1) (v := ?_) rfl (by kernel_rfl) (by kernel_rfl) (by kernel_rfl) (fun _ _ _ h => h) (Or.inl ⟨by rfl, ?_⟩) (by assumption) ?_
  rotate_left
  · intro wq hSw; (try dsimp only at hSw); go_simp; (try with_reducible rfl)
  simp only [Act.put, List.getElem_toArray, List.getElem_cons_succ, List.getElem_cons_zero, List.setIfInBounds_toArray, List.set_cons_zero, List.set_cons_succ]
  refine wpAnyH_take (i := 2) (v := ?_) rfl (by kernel_rfl) (by kernel_rfl) (by kernel_rfl) (fun _ _ _ h => h) (Or.inl ⟨by rfl, ?_⟩) (by assumption) ?_
  rotate_left
  · intro wq hSw; (try dsimp only at hSw); obtain ⟨s1, _⟩ := HF.out _ hSw; go_simp; (try with_reducible rfl)
  simp only [Act.put, List.getElem_toArray, List.getElem_cons_succ, List.getElem_cons_zero, List.setIfInBounds_toArray, List.set_cons_zero, List.set_cons_succ]
  refine wpAnyH_take (i := 3) (v := ?_) rfl (by kernel_rfl) (by kernel_rfl) (by kernel_rfl) (fun _ _ _ h => h) (Or.inl ⟨by rfl, ?_⟩) (by assumption) ?_
  rotate_left
  · intro wq hSw; (try dsimp only at hSw); go_simp; (try with_reducible rfl)
  simp only [Act.put, List.getElem_toArray, List.getElem_cons_succ, List.getElem_cons_zero, List.setIfInBounds_toArray, List.set_cons_zero, List.set_cons_succ]
  refine wpAnyH_take (i := 4) (v := ?_) rfl (by kernel_rfl) (by kernel_rfl) (by kernel_rfl) (fun _ _ _ h => h) (Or.inl ⟨by rfl, ?_⟩) (by assumption) ?_
  rotate_left
  · intro wq hSw; (try dsimp only at hSw); go_simp; (try with_reducible rfl)
  simp only [Act.put, List.getElem_toArray, List.getElem_cons_succ, List.getElem_cons_zero, List.setIfInBounds_toArray, List.set_cons_zero, List.set_cons_succ]
  refine wpAnyH_take (i := 5) (v := ?_) rfl (by kernel_rfl) (by kernel_rfl) (by kernel_rfl) (fun _ _ _ h => h) (Or.inl ⟨by rfl, ?_⟩) (by assumption) ?_
  rotate_left
  · intro wq hSw; (try dsimp only at hSw); obtain ⟨_, ⟨j1, j2, j3⟩, _⟩ := HF.out _ hSw; go_simp; (try with_reducible rfl)
  simp only [Act.put, List.getElem_toArray, List.getElem_cons_succ, List.getElem_cons_zero, List.setIfInBounds_toArray, List.set_cons_zero, List.set_cons_succ]
  refine wpAnyH_take (i := 6) (v := ?_) rfl (by kernel_rfl) (by kernel_rfl) (by kernel_rfl) (fun _ _ _ h => h) (Or.inl ⟨by rfl, ?_⟩) (by assumption) ?_
  rotate_left
  · intro wq hSw; (try dsimp only at hSw); go_simp; (try with_reducible rfl)
  simp only [Act.put, List.getElem_toArray, List.getElem_cons_succ, List.getElem_cons_zero, List.setIfInBounds_toArray, List.set_cons_zero, List.set_cons_succ]
  refine wpAnyH_take (i := 7) (v := ?_) rfl (by kernel_rfl) (by kernel_rfl) (by kernel_rfl) (fun _ _ _ h => h) (Or.inl ⟨by rfl, ?_⟩) (by assumption) ?_
  rotate_left
  · intro wq hSw; (try dsimp only at hSw); go_simp; (try with_reducible rfl)
  simp only [Act.put, List.getElem_toArray, List.getElem_cons_succ, List.getElem_cons_zero, List.setIfInBounds_toArray, List.set_cons_zero, List.set_cons_succ]
  refine wpAnyH_take (i := 8) (v := ?_) rfl (by kernel_rfl) (by kernel_rfl) (by kernel_rfl) (fun _ _ _ h => h) (Or.inl ⟨by rfl, ?_⟩) (by assumption) ?_
  rotate_left
  · intro wq hSw; (try dsimp only at hSw); obtain ⟨s1, _⟩ := HF.out _ hSw; go_simp; (try with_reducible rfl)
  simp only [Act.put, List.getElem_toArray, List.getElem_cons_succ, List.getElem_cons_zero, List.setIfInBounds_toArray, List.set_cons_zero, List.set_cons_succ]
  refine wpAnyH_take (i := 9) (v := ?_) rfl (by kernel_rfl) (by kernel_rfl) (by kernel_rfl) (fun _ _ _ h => h) (Or.inl ⟨by rfl, ?_⟩) (by assumption) ?_
  rotate_left
  · intro wq hSw; (try dsimp only at hSw); go_simp; (try with_reducible rfl)
  simp only [Act.put, List.getElem_toArray, List.getElem_cons_succ, List.getElem_cons_zero, List.setIfInBounds_toArray, List.set_cons_zero, List.set_cons_succ]
  refine wpAnyH_take (i := 10) (v := ?_) rfl (by kernel_rfl) (by kernel_rfl) (by kernel_rfl) (fun _ _ _ h => h) (Or.inl ⟨by rfl, ?_⟩) (by assumption) ?_
  rotate_left
  · intro wq hSw; (try dsimp only at hSw); go_simp; (try with_reducible rfl)
  simp only [Act.put, List.getElem_toArray, List.getElem_cons_succ, List.getElem_cons_zero, List.setIfInBounds_toArray, List.set_cons_zero, List.set_cons_succ]
  refine wpAnyH_take (i := 11) (v := ?_) rfl (by kernel_rfl) (by kernel_rfl) (by kernel_rfl) (fun _ _ _ h => h) (Or.inl ⟨by rfl, ?_⟩) (by assumption) ?_
  rotate_left
  · intro wq hSw; (try dsimp only at hSw); obtain ⟨_, _, i1, i2, i3⟩ := HF.out _ hSw; go_simp; (try with_reducible rfl)
  simp only [Act.put, List.getElem_toArray, List.getElem_cons_succ, List.getElem_cons_zero, List.setIfInBounds_toArray, List.set_cons_zero, List.set_cons_succ]
  refine wpAnyH_ready (rs := [12]) (by kernel_rfl) (by simp) ?_
  refine AllReadyH.cons rfl (fun K hK => ?_) AllReadyH.nil
  go_simp
  refine (HA.out _).mono ?_
  rintro e w1 ⟨rfl, hb⟩
  have hb1 : Below w.heap.size w w1 := hHeld.trans (hb.mono hHeld.size)
  clear hb hHeld
  (try go_wp2_with fail)
  refine hK.out _ _ ?_ (fun hHeld => ?_)
  · exact hb1
  clear hK K
  try simp only [Act.put, List.getElem_toArray, List.getElem_cons_succ, List.getElem_cons_zero, List.setIfInBounds_toArray, List.set_cons_zero, List.set_cons_succ]
  refine wpAnyH_take (i := 13) (v := ?_) rfl (by kernel_rfl) (by kernel_rfl) (by kernel_rfl) (fun _ _ _ h => h) (Or.inl ⟨by rfl, ?_⟩) (by assumption) ?_
  rotate_left
  · intro wq hSw; (try dsimp only at hSw); go_simp; (try with_reducible rfl)
  simp only [Act.put, List.getElem_toArray, List.getElem_cons_succ, List.getElem_cons_zero, List.setIfInBounds_toArray, List.set_cons_zero, List.set_cons_succ]
  refine wpAnyH_done (by kernel_rfl) ?_ _
  clear hHeld
  go_wp2_with fail
  go_ret
  exact ⟨rfl, hb1⟩
end Go.Proofs.Ytmjbdjcpjaeemaa
