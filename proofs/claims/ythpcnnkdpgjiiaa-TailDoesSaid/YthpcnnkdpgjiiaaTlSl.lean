/-
  slices.Index and slices.Delete of a row of traces; Clone and Clip of no attributes; Clip of spans.
-/
import Derived.Deep.QuietTactic
import Derived.BigQuiet
import Derived.Test.YthpcnnkdpgjiiaaHpPut
import Derived.Test.YthpcnnkdpgjiiaaTlQu
namespace Go.Proofs.Ythpcnnkdpgjiiaa
open Go.RowKit

set_option linter.unusedSimpArgs false in
set_option maxRecDepth 100000 in
set_option maxHeartbeats 2000000 in
theorem index_any {v : Value} {a b : List Tr} {t : Tr} (w : World) (h : Qu w v (a ++ t :: b)) (hn : ∀ x ∈ a, x ≠ t) (hl : (a ++ t :: b).length ≤ 5000) :
    Calls Try.prog 44 #[v, .agg #[.int .u64 (t.1 : Int), .int .u64 (t.2 : Int)]] w fun e w' => e = .returned (.int .i64 (a.length : Int)) ∧ Below w.heap.size w w' := by
  obtain ⟨g, o, cap, rfl, c1, c2, c3⟩ := h.some_ (by simp; omega)
  have hlen : (a ++ t :: b).length = a.length + (b.length + 1) := by simp
  have hcell : ∀ i (hi : i < (a ++ t :: b).length), w.cell? ⟨g, o + i * 2, none⟩ = some (.int .u64 ((a ++ t :: b)[i].1 : Int)) ∧ w.cell? ⟨g, o + i * 2 + 1, none⟩ = some (.int .u64 ((a ++ t :: b)[i].2 : Int)) := fun i hi => h.cell hi
  have hhit : (a ++ t :: b)[a.length]'(by simp) = t := by simp
  have hmiss : ∀ i (hi : i < a.length), (a ++ t :: b)[i]'(by simp; omega) ≠ t := fun i hi => by
    rw [List.getElem_append_left hi]
    exact hn _ (List.getElem_mem hi)
  obtain ⟨p, q⟩ := t
  obtain ⟨l, hll⟩ : ∃ l, a ++ (p, q) :: b = l := ⟨_, rfl⟩
  have HC := Lib.hid (show ∀ i (hi : i < l.length), w.cell? ⟨g, o + i * 2, none⟩ = some (.int .u64 (l[i].1 : Int)) ∧ w.cell? ⟨g, o + i * 2 + 1, none⟩ = some (.int .u64 (l[i].2 : Int)) by rw [← hll]; exact hcell)
  obtain ⟨k, hk⟩ : ∃ k, a.length = k := ⟨_, rfl⟩
  obtain ⟨n, hnn⟩ : ∃ n, l.length = n := ⟨_, rfl⟩
  have hkn : k < n := by rw [← hk, ← hnn, ← hll]; simp
  have HH := Lib.hid (show ∃ h : k < l.length, l[k] = (p, q) by subst hll hk; exact ⟨by simp, by simp⟩)
  have HM := Lib.hid (show ∀ i (_ : i < k) (h : i < l.length), l[i] ≠ (p, q) by subst hll hk; exact fun i hi _ => hmiss i hi)
  have HN := Lib.hid hnn
  have hB : Below w.heap.size w (w.alloc (.cells #[.int .u64 (p : Int), .int .u64 (q : Int)] 83)) := box_below _
  have k0 := (blk_new w #[.int .u64 (p : Int), .int .u64 (q : Int)] 83).cell 0 rfl
  have k1 := (blk_new w #[.int .u64 (p : Int), .int .u64 (q : Int)] 83).cell 1 rfl
  have HK := Lib.hid (show (w.alloc (.cells #[.int .u64 (p : Int), .int .u64 (q : Int)] 83)).cell? ⟨w.heap.size, 0, none⟩ = some (.int .u64 (p : Int)) ∧ (w.alloc (.cells #[.int .u64 (p : Int), .int .u64 (q : Int)] 83)).cell? ⟨w.heap.size, 1, none⟩ = some (.int .u64 (q : Int)) from ⟨k0, k1⟩)
  have HB := Lib.hid hB
  rw [hll, hnn] at hl c1
  rw [hll, hnn]
  rw [hk]
  have HL := Lib.hid hl
  clear h hlen hcell hhit hmiss hn hB hk hnn hll k0 k1
  obtain ⟨n0, hn0⟩ : ∃ n0, w.heap.size = n0 := ⟨_, rfl⟩
  rw [hn0] at c3 HK HB ⊢
  go_enter Try.func44, Try.ntmps44
  go_wp2_with fail
  go_loopw [8] (fun iv wr => ∃ i : Nat, iv = .int .i64 (i : Int) ∧ i ≤ k ∧ Below (n0 + 1) (w.alloc (.cells #[.int .u64 (p : Int), .int .u64 (q : Int)] 83)) wr) (fun iv _ => n - (intOf iv).toNat)
  case atStart => exact ⟨0, rfl, by omega, Below.refl _ _⟩
  case round =>
    obtain ⟨i, rfl, hi, hb⟩ := hrel
    have hin : i < l.length := by rw [HN.out]; omega
    obtain ⟨r0, r1⟩ := HC.out i hin
    have e : ∀ j, wr.cell? ⟨g, j, none⟩ = w.cell? ⟨g, j, none⟩ := fun j => ((hb.mono (by omega : n0 ≤ n0 + 1)).cell (p := ⟨g, j, none⟩) c3).trans (HB.out.cell (p := ⟨g, j, none⟩) c3)
    rw [← e] at r0 r1
    have k0 := (hb.cell (p := ⟨n0, 0, none⟩) (Nat.lt_succ_self n0)).trans HK.out.1
    have k1 := (hb.cell (p := ⟨n0, 1, none⟩) (Nat.lt_succ_self n0)).trans HK.out.2
    obtain ⟨x, hx⟩ : ∃ x, l[i] = x := ⟨_, rfl⟩
    rw [hx] at r0 r1
    obtain ⟨x1, x2⟩ := x
    dsimp only at r0 r1
    have HX := Lib.hid hx
    have HBB := Lib.hid ((HB.out.trans (hb.mono (by omega : n0 ≤ n0 + 1))))
    have HB1 := Lib.hid hb
    have ti : decide ((i : Int) < (n : Int)) = true := by simp; omega
    have tn : decide (i < n) = true := by simp; omega
    clear e hx hb
    by_cases hik : i = k
    · obtain ⟨h1, h2⟩ := HH.out
      have hxe : x1 = p ∧ x2 = q := by
        have := HX.out
        subst hik
        rw [h2] at this
        injection this with a b
        exact ⟨a.symm, b.symm⟩
      obtain ⟨rfl, rfl⟩ := hxe
      clear h1 h2
      have hin2 : i < n := by omega
      have HIK := Lib.hid hik
      clear hik
      go_wp2_with fail
      refine wp_region_held_drew (S := fun W => W.cell? ⟨n0, 0, none⟩ = some (.int .u64 (x1 : Int)) ∧ W.cell? ⟨n0, 1, none⟩ = some (.int .u64 (x2 : Int)) ∧ W.cell? ⟨g, o + i * 2, none⟩ = some (.int .u64 (x1 : Int)) ∧ W.cell? ⟨g, o + i * 2 + 1, none⟩ = some (.int .u64 (x2 : Int))) (by kernel_rfl) ?_ (fun hHeld => ?_)
      · exact ⟨k0, k1, r0, r1⟩
      refine wpAnyH_take (i := 0) (v := ?_) rfl (by kernel_rfl) (by kernel_rfl) (by kernel_rfl) (fun _ _ _ h => h) (Or.inl ⟨by rfl, ?_⟩) (by assumption) ?_
      rotate_left
      · intro wq hSw; (try dsimp only at hSw); have a0 := hSw.1; have a1 := hSw.2.1; go_simp; (try with_reducible rfl)
      simp only [Act.put, List.getElem_toArray, List.getElem_cons_succ, List.getElem_cons_zero, List.setIfInBounds_toArray, List.set_cons_zero, List.set_cons_succ]
      refine wpAnyH_take (i := 1) (v := ?_) rfl (by kernel_rfl) (by kernel_rfl) (by kernel_rfl) (fun _ _ _ h => h) (Or.inl ⟨by rfl, ?_⟩) (by assumption) ?_
      rotate_left
      · intro wq hSw; (try dsimp only at hSw); go_simp; (try with_reducible rfl)
      simp only [Act.put, List.getElem_toArray, List.getElem_cons_succ, List.getElem_cons_zero, List.setIfInBounds_toArray, List.set_cons_zero, List.set_cons_succ]
      refine wpAnyH_take (i := 2) (v := ?_) rfl (by kernel_rfl) (by kernel_rfl) (by kernel_rfl) (fun _ _ _ h => h) (Or.inl ⟨by rfl, ?_⟩) (by assumption) ?_
      rotate_left
      · intro wq hSw; (try dsimp only at hSw); go_simp; (try with_reducible rfl)
      simp only [Act.put, List.getElem_toArray, List.getElem_cons_succ, List.getElem_cons_zero, List.setIfInBounds_toArray, List.set_cons_zero, List.set_cons_succ]
      refine wpAnyH_take (i := 3) (v := ?_) rfl (by kernel_rfl) (by kernel_rfl) (by kernel_rfl) (fun _ _ _ h => h) (Or.inl ⟨by rfl, ?_⟩) (by assumption) ?_
      rotate_left
      · intro wq hSw; (try dsimp only at hSw); go_simp; (try with_reducible rfl)
      simp only [Act.put, List.getElem_toArray, List.getElem_cons_succ, List.getElem_cons_zero, List.setIfInBounds_toArray, List.set_cons_zero, List.set_cons_succ]
      refine wpAnyH_take (i := 4) (v := ?_) rfl (by kernel_rfl) (by kernel_rfl) (by kernel_rfl) (fun _ _ _ h => h) (Or.inl ⟨by rfl, ?_⟩) (by assumption) ?_
      rotate_left
      · intro wq hSw; (try dsimp only at hSw); have a0 := hSw.2.2.1; have a1 := hSw.2.2.2; go_simp; (try with_reducible rfl)
      simp only [Act.put, List.getElem_toArray, List.getElem_cons_succ, List.getElem_cons_zero, List.setIfInBounds_toArray, List.set_cons_zero, List.set_cons_succ]
      refine wpAnyH_take (i := 5) (v := ?_) rfl (by kernel_rfl) (by kernel_rfl) (by kernel_rfl) (fun _ _ _ h => h) (Or.inl ⟨by rfl, ?_⟩) (by assumption) ?_
      rotate_left
      · intro wq hSw; (try dsimp only at hSw); go_simp; (try with_reducible rfl)
      simp only [Act.put, List.getElem_toArray, List.getElem_cons_succ, List.getElem_cons_zero, List.setIfInBounds_toArray, List.set_cons_zero, List.set_cons_succ]
      refine wpAnyH_done (by kernel_rfl) ?_ _
      clear hHeld
      clear k0 k1 r0 r1
      go_wp2_with fail
      go_ret
      exact ⟨by rw [HIK.out]; rfl, HBB.out.drew⟩
    · have hin2 : i < n := by omega
      have hne : ∀ A B : Result Next, (if (p : Int) = (x1 : Int) then if (q : Int) = (x2 : Int) then A else B else B) = B := fun A B => by
        have := HM.out i (by omega) hin
        rw [HX.out] at this
        have h2 : ¬ (x1 = p ∧ x2 = q) := fun e => this (by rw [e.1, e.2])
        by_cases e1 : (p : Int) = x1
        · rw [if_pos e1, if_neg (fun e2 => h2 ⟨by omega, by omega⟩)]
        · rw [if_neg e1]
      go_wp2_with fail
      refine wp_region_held_drew (S := fun W => W.cell? ⟨n0, 0, none⟩ = some (.int .u64 (p : Int)) ∧ W.cell? ⟨n0, 1, none⟩ = some (.int .u64 (q : Int)) ∧ W.cell? ⟨g, o + i * 2, none⟩ = some (.int .u64 (x1 : Int)) ∧ W.cell? ⟨g, o + i * 2 + 1, none⟩ = some (.int .u64 (x2 : Int))) (by kernel_rfl) ?_ (fun hHeld => ?_)
      · exact ⟨k0, k1, r0, r1⟩
      refine wpAnyH_take (i := 0) (v := ?_) rfl (by kernel_rfl) (by kernel_rfl) (by kernel_rfl) (fun _ _ _ h => h) (Or.inl ⟨by rfl, ?_⟩) (by assumption) ?_
      rotate_left
      · intro wq hSw; (try dsimp only at hSw); have a0 := hSw.1; have a1 := hSw.2.1; go_simp; (try with_reducible rfl)
      simp only [Act.put, List.getElem_toArray, List.getElem_cons_succ, List.getElem_cons_zero, List.setIfInBounds_toArray, List.set_cons_zero, List.set_cons_succ]
      refine wpAnyH_take (i := 1) (v := ?_) rfl (by kernel_rfl) (by kernel_rfl) (by kernel_rfl) (fun _ _ _ h => h) (Or.inl ⟨by rfl, ?_⟩) (by assumption) ?_
      rotate_left
      · intro wq hSw; (try dsimp only at hSw); go_simp; (try with_reducible rfl)
      simp only [Act.put, List.getElem_toArray, List.getElem_cons_succ, List.getElem_cons_zero, List.setIfInBounds_toArray, List.set_cons_zero, List.set_cons_succ]
      refine wpAnyH_take (i := 2) (v := ?_) rfl (by kernel_rfl) (by kernel_rfl) (by kernel_rfl) (fun _ _ _ h => h) (Or.inl ⟨by rfl, ?_⟩) (by assumption) ?_
      rotate_left
      · intro wq hSw; (try dsimp only at hSw); go_simp; (try with_reducible rfl)
      simp only [Act.put, List.getElem_toArray, List.getElem_cons_succ, List.getElem_cons_zero, List.setIfInBounds_toArray, List.set_cons_zero, List.set_cons_succ]
      refine wpAnyH_take (i := 3) (v := ?_) rfl (by kernel_rfl) (by kernel_rfl) (by kernel_rfl) (fun _ _ _ h => h) (Or.inl ⟨by rfl, ?_⟩) (by assumption) ?_
      rotate_left
      · intro wq hSw; (try dsimp only at hSw); go_simp; (try with_reducible rfl)
      simp only [Act.put, List.getElem_toArray, List.getElem_cons_succ, List.getElem_cons_zero, List.setIfInBounds_toArray, List.set_cons_zero, List.set_cons_succ]
      refine wpAnyH_take (i := 4) (v := ?_) rfl (by kernel_rfl) (by kernel_rfl) (by kernel_rfl) (fun _ _ _ h => h) (Or.inl ⟨by rfl, ?_⟩) (by assumption) ?_
      rotate_left
      · intro wq hSw; (try dsimp only at hSw); have a0 := hSw.2.2.1; have a1 := hSw.2.2.2; go_simp; (try with_reducible rfl)
      simp only [Act.put, List.getElem_toArray, List.getElem_cons_succ, List.getElem_cons_zero, List.setIfInBounds_toArray, List.set_cons_zero, List.set_cons_succ]
      refine wpAnyH_take (i := 5) (v := ?_) rfl (by kernel_rfl) (by kernel_rfl) (by kernel_rfl) (fun _ _ _ h => h) (Or.inl ⟨by rfl, ?_⟩) (by assumption) ?_
      rotate_left
      · intro wq hSw; (try dsimp only at hSw); go_simp; (try with_reducible rfl)
      simp only [Act.put, List.getElem_toArray, List.getElem_cons_succ, List.getElem_cons_zero, List.setIfInBounds_toArray, List.set_cons_zero, List.set_cons_succ]
      refine wpAnyH_done (by kernel_rfl) ?_ _
      clear hHeld
      clear k0 k1 r0 r1
      go_wp2_with fail
      go_roundw
      case rel => exact ⟨i + 1, by simp, by omega, HB1.out.drew⟩
      case measure => simp [intOf]; omega

set_option linter.unusedSimpArgs false in
set_option maxRecDepth 100000 in
set_option maxHeartbeats 2000000 in
theorem delete_any {n cap : Nat} {A : Option Addr} {a b : List Tr} {t : Tr} (w : World) (h : Qu w (.slice A n cap) (a ++ t :: b)) (hl : (a ++ t :: b).length ≤ 5000) :
    Calls Try.prog 45 #[.slice A n cap, .int .i64 (a.length : Int), .int .i64 ((a.length + 1 : Nat) : Int)] w fun e w' => e = .returned (.slice A (a ++ b).length cap) ∧ Qu w' (.slice A (a ++ b).length cap) (a ++ b) ∧ Mut (Value.slice A n cap).ownBlock.toList w w' := by
  obtain ⟨i0, hi0, hz0, hz1, hz2⟩ := info_parts info_tr
  rcases h with ⟨_, e⟩ | ⟨g, o, cap', cur, e, g1, g2, g3, g4, g5⟩
  · simp at e
  injection e with e1 e2 e3
  subst e1 e2 e3
  have hL : (a ++ t :: b).length = a.length + b.length + 1 := by simp; omega
  have hL2 : (a ++ b).length = a.length + b.length := by simp
  obtain ⟨i, hia⟩ : ∃ i, a.length = i := ⟨_, rfl⟩
  obtain ⟨m, hm⟩ : ∃ m, b.length = m := ⟨_, rfl⟩
  have hq : ∀ k u, (trC (a ++ b))[k]? = some u → (k < i * 2 → cur[o + k]? = some u) ∧ (i * 2 ≤ k → (trC b)[k - i * 2]? = some u) := fun k u hu => by
    have hla : (trC a).length = i * 2 := by rw [trC_length, hia]
    rw [trC_append] at hu
    refine ⟨fun hk => g5 k u ?_, fun hk => ?_⟩
    · rw [trC_append, List.getElem?_append_left (by omega)]
      rw [List.getElem?_append_left (by omega)] at hu
      exact hu
    · rw [List.getElem?_append_right (by omega), hla] at hu
      exact hu
  obtain ⟨W1, hW1⟩ : ∃ W1, W1 = w.drew.setCells g (o + i * 2) (trC b) := ⟨_, rfl⟩
  have hg0 : w.drew.heap[g]? = some (.cells cur 83 (0, 0)) := g1
  obtain ⟨cur1, b1, b2, b3, b4⟩ := setCells_blk g (trC b) (o + i * 2) w.drew cur hg0
  have hm1 := setCells_mut g (trC b) (o + i * 2) w.drew
  rw [← hW1] at b1 hm1
  have hlb : (trC b).length = m * 2 := by rw [trC_length, hm]
  obtain ⟨W2, hW2⟩ : ∃ W2, W2 = W1.setRow g (cur1.toList.take (o + (i + m) * 2) ++ [Value.int .u64 0, .int .u64 0] ++ cur1.toList.drop (o + (i + m) * 2 + 2)).toArray := ⟨_, rfl⟩
  have d1 : W2.heap[g]? = some (.cells (cur1.toList.take (o + (i + m) * 2) ++ [Value.int .u64 0, .int .u64 0] ++ cur1.toList.drop (o + (i + m) * 2 + 2)).toArray 83 (0, 0)) := by rw [hW2]; exact setRow_heap _ _ _ _ _ _ b1
  have hm2 : Mut [g] W1 W2 := by
    rw [hW2]
    exact ⟨rfl, rfl, rfl, by simp, fun k _ hn => setRow_other _ _ _ _ (by simpa using hn)⟩
  rw [hL] at g2 hl
  rw [hL, hL2]
  rw [hia] at g2 hl ⊢
  rw [hm] at g2 hl ⊢
  have hfin : Qu W2 (.slice (some ⟨g, o, none⟩) (i + m) cap) (a ++ b) ∧ Mut (Value.slice (some ⟨g, o, none⟩) (i + m + 1) cap).ownBlock.toList w W2 := by
    refine ⟨.inr ⟨g, o, cap, _, by rw [hL2, hia, hm], d1, by rw [hL2, hia, hm]; omega, g3, by simp; omega, fun k u hu => ?_⟩, ?_⟩
    · have hk : k < (i + m) * 2 := by
        have := (List.getElem?_eq_some_iff.1 hu).1
        rw [trC_length, hL2, hia, hm] at this
        exact this
      obtain ⟨q1, q2⟩ := hq k u hu
      have d3 : (cur1.toList.take (o + (i + m) * 2) ++ [Value.int .u64 0, .int .u64 0] ++ cur1.toList.drop (o + (i + m) * 2 + 2)).toArray[o + k]? = cur1[o + k]? := by
        rw [List.getElem?_toArray, List.append_assoc, List.getElem?_append_left (by simp; omega), List.getElem?_take_of_lt (by omega)]
        simp
      rw [d3]
      by_cases hki : k < i * 2
      · rw [b3 (o + k) (by omega)]
        exact q1 hki
      · have := b4 (k - i * 2) (by omega) (by omega)
        rw [show o + k = o + i * 2 + (k - i * 2) by omega, this]
        exact q2 (by omega)
    · exact ((Mut.refl [g] w).drew.trans hm1).trans hm2
  obtain ⟨B, hB, hsrc⟩ : ∃ B : Addr, (if cap = i + 1 then some (⟨g, o, none⟩ : Addr) else some ⟨g, o + (i + 1) * 2, none⟩) = some B ∧ Hid (∀ k u, (trC b)[k]? = some u → w.drew.cell? (B.add k) = some u) := by
    by_cases h : cap = i + 1
    · refine ⟨⟨g, o, none⟩, by simp [h], fun k u hu => ?_⟩
      have : b = [] := List.eq_nil_of_length_eq_zero (by omega)
      subst this
      simp [trC] at hu
    · refine ⟨⟨g, o + (i + 1) * 2, none⟩, by simp [h], fun k u hu => ?_⟩
      rw [Addr.add_lit]
      have h2 : (trC (a ++ t :: b))[(i + 1) * 2 + k]? = some u := by
        rw [trC_append, List.getElem?_append_right (by rw [trC_length, hia]; omega), trC_length, hia, trC_cons, show (i + 1) * 2 + k - i * 2 = k + 1 + 1 by omega]
        simpa using hu
      have h3 := g5 _ _ h2
      have h4 : w.drew.heap[g]? = some (.cells cur 83 (0, 0)) := g1
      rw [show o + (i + 1) * 2 + k = o + ((i + 1) * 2 + k) by omega]
      simp [World.cell?, h4, h3]
  have s3 : Hid (∀ k, k < (trC b).length → (w.drew.cell? ⟨g, o + i * 2 + k, none⟩).isSome = true ∧ w.drew.frozen? ⟨g, o + i * 2 + k, none⟩ = false) := fun k hk => by
    rw [hlb] at hk
    exact ⟨by simp [World.cell?, hg0]; omega, by simp [World.frozen?, hg0]⟩
  have hcl : ∀ ty c, (Builtin.clear_ #[69] ty #[.slice (some ⟨g, o + (i + m) * 2, none⟩) 1 c]).run Try.prog W1 = .ok (.tuple #[]) W2 := fun ty c => by
    have hv : ∀ W, (zeroValue 83).run Try.prog W = .ok (.agg #[.int .u64 0, .int .u64 0]) W := fun W => by kernel_rfl
    have hst := run_storeCells_at Try.prog g (o + (i + m) * 2) 83 [.int .u64 0, .int .u64 0] 0 cur1 W1 b1 (by simp; omega) (by simp [Value.oneCell'])
    simp only [Nat.add_zero] at hst
    have hz : (Builtin.zeroCells (Value.agg #[.int .u64 0, .int .u64 0]).cells 1).toList = [.int .u64 0, .int .u64 0] := by kernel_rfl
    have hst2 : (storeCells ⟨g, o + (i + m) * 2, none⟩ [.int .u64 0, .int .u64 0] 0).run Try.prog W1 = .ok () W2 := by rw [hst, hW2]; rfl
    simp [Builtin.clear_, run_underlying Try.underlying69, hv, hst2, hz]
  obtain ⟨j, hj⟩ : ∃ j, i + 1 = j := ⟨_, rfl⟩
  obtain ⟨N, hN⟩ : ∃ N, i + m + 1 = N := ⟨_, rfl⟩
  have hmN : m = N - j := by omega
  rw [hj] at hB ⊢
  rw [hN] at hfin g2 hl ⊢
  subst hmN
  have hic : i ≤ cap := by omega
  have hjc : j ≤ cap := by omega
  have hij : i ≤ j := by omega
  have hjN : j ≤ N := by omega
  have hne : ((i : Int) == (j : Int)) = false := by simp; omega
  have hlo : i + (N - j) ≤ N := by omega
  have hlc : i + (N - j) ≤ cap := by omega
  have hsub : N - (i + (N - j)) = 1 := by omega
  have HJN := Lib.hid (show i + 1 = j ∧ N = i + (N - j) + 1 from ⟨hj, by omega⟩)
  have HF := Lib.hid hfin
  have HW1 := Lib.hid hW1
  have HLB := Lib.hid hlb
  clear hj hN hm hia hfin hW1 hW2 b1 b3 b4 hm1 d1 hm2 g5 hq hg0 g1 b2
  go_enter Try.func45, Try.ntmps45
  go_wp2_with fail
  go_region_law (refine step_append_room rfl (.tmp 22) (.tmp 25) 69 rfl 83 i0 2 Try.underlying69 hi0 hz1 g o i cap (by simp [Act.eval, Act.put]) B (N - j) (cap - j) (trC b) (by simp [Act.eval, Act.put]) HLB.out hsrc.out (trC_one b) (by omega) s3.out ?_; rw [← HW1.out])
  go_wp2_with fail
  go_ret
  exact ⟨rfl, HF.out⟩

set_option maxRecDepth 100000 in
set_option maxHeartbeats 1000000 in
theorem cloneA_any (w : World) : Calls Try.prog 41 #[.slice none 0 0] w fun e w' => e = .returned (.slice none 0 0) ∧ w = w' := by
  have e0 : (binOp BinOp.eql 33 (.slice none 0 0) (.slice none 0 0)).run Try.prog w = .ok (.bool true) w := by kernel_rfl
  go_enter Try.func41, Try.ntmps41
  go_wp2_with fail
  go_ret
  exact ⟨rfl, rfl⟩
set_option maxRecDepth 100000 in
set_option maxHeartbeats 1000000 in
theorem clipA_any (w : World) : Calls Try.prog 40 #[.slice none 0 0] w fun e w' => e = .returned (.slice none 0 0) ∧ w = w' := by
  go_enter Try.func40, Try.ntmps40
  go_wp2_with fail

  go_ret
  exact ⟨rfl, rfl⟩
set_option maxRecDepth 100000 in
set_option maxHeartbeats 1000000 in
theorem clipS_any (A : Option Addr) (n cap : Nat) (w : World) (h : n ≤ cap) (h2 : n ≤ 5000) : Calls Try.prog 43 #[.slice A n cap] w fun e w' => e = .returned (.slice A n n) ∧ w = w' := by
  have h0 : (0 : Int) ≤ (n : Int) := by omega
  go_enter Try.func43, Try.ntmps43
  cases A with
  | none =>
    go_wp2_with fail
    go_ret
    exact ⟨rfl, rfl⟩
  | some a =>
    go_wp2_with fail
    go_ret
    exact ⟨rfl, rfl⟩
end Go.Proofs.Ythpcnnkdpgjiiaa
