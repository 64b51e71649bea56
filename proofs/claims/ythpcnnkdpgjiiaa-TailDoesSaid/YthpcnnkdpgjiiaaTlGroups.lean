/-
  Two tellings of the same traces are the same.
-/
import Derived.Test.YthpcnnkdpgjiiaaTlRef10
import Derived.Test.YthpcnnkdpgjiiaaTlRef4
namespace Go.Proofs.Ythpcnnkdpgjiiaa
open Go.RowKit Go.Maps Go.Proofs.HeapMath Go.Proofs.TailMath

set_option linter.unusedSimpArgs false in
set_option maxRecDepth 100000 in
set_option maxHeartbeats 4000000 in
theorem groups_any (V V2 : Option Addr) (c2 : Nat) (l : List (Gr × Option Addr)) (l2 : List Tx) (L : List Gr) (w : World) (N : Nat) (hL : l.map (·.1) = L) (hL2 : l2.map (·.1) = L) (hN : L.length = N) (hc2 : N ≤ c2) (hT : Told w V l) (hT2 : ToldC w V2 l2) (hs : ∀ g ∈ L, g.spans.length ≤ 5000) (hN1 : N ≤ 5000) :
    Calls Try.prog 34 #[.slice V N N, .slice V2 N c2] w fun e w' => e = .returned (.bool true) ∧ Hid (Below w.heap.size w w') := by
  have hat : ∀ i, i < N → ∃ gt gt2 gh gl K K2 Ai Bi, V = some ⟨gt, 0, none⟩ ∧ V2 = some ⟨gt2, 0, none⟩ ∧ K ≤ 5000 ∧ K ≤ K2 ∧ (∀ W, Below w.heap.size w W → W.cell? ⟨gt, i * 3, none⟩ = some (.int .u64 ((gh : Nat) : Int)) ∧ W.cell? ⟨gt, i * 3 + 1, none⟩ = some (.int .u64 ((gl : Nat) : Int)) ∧ W.cell? ⟨gt, i * 3 + 2, none⟩ = some (.slice Ai K K) ∧ W.cell? ⟨gt2, i * 3, none⟩ = some (.int .u64 ((gh : Nat) : Int)) ∧ W.cell? ⟨gt2, i * 3 + 1, none⟩ = some (.int .u64 ((gl : Nat) : Int)) ∧ W.cell? ⟨gt2, i * 3 + 2, none⟩ = some (.slice Bi K K2)) ∧
      ∀ k, k < K → ∃ (gs gs2 : Nat) (s : Sp), Ai = some ⟨gs, 0, none⟩ ∧ Bi = some ⟨gs2, 0, none⟩ ∧ ∀ W, Below w.heap.size w W → (∀ j, j < 10 → W.cell? ⟨gs, k * 10 + j, none⟩ = (spL s)[j]?) ∧ (∀ j, j < 10 → W.cell? ⟨gs2, k * 10 + j, none⟩ = (spL s)[j]?) := fun i hi => by
    have hil : i < l.length := by rw [← hL, List.length_map] at hN; omega
    have hil2 : i < l2.length := by rw [← hL2, List.length_map] at hN; omega
    have hiL : i < L.length := by omega
    have e1 : l[i].1 = L[i] := by simp [← hL]
    have e2 : l2[i].1 = L[i] := by simp [← hL2]
    obtain ⟨gt, f1, hg, _⟩ := hT (by omega)
    obtain ⟨gt2, f2, hg2, _⟩ := hT2 (by omega)
    have t1 : ∀ W, Below w.heap.size w W → W.cell? ⟨gt, i * 3, none⟩ = some (.int .u64 (L[i].hi : Int)) ∧ W.cell? ⟨gt, i * 3 + 1, none⟩ = some (.int .u64 (L[i].lo : Int)) ∧ W.cell? ⟨gt, i * 3 + 2, none⟩ = some (.slice l[i].2 L[i].spans.length L[i].spans.length) ∧ Sps W l[i].2 L[i].spans := fun W hW => by
      obtain ⟨g', f', _, hc⟩ := hT.later hW (by omega)
      rw [f1] at f'
      injection f' with f'
      injection f' with f'
      subst f'
      have := hc i hil
      rw [e1] at this
      exact this
    have t2 : ∀ W, Below w.heap.size w W → W.cell? ⟨gt2, i * 3, none⟩ = some (.int .u64 (L[i].hi : Int)) ∧ W.cell? ⟨gt2, i * 3 + 1, none⟩ = some (.int .u64 (L[i].lo : Int)) ∧ W.cell? ⟨gt2, i * 3 + 2, none⟩ = some (.slice l2[i].2.1 L[i].spans.length l2[i].2.2) ∧ L[i].spans.length ≤ l2[i].2.2 ∧ Sps W l2[i].2.1 L[i].spans := fun W hW => by
      obtain ⟨g', f', _, hc⟩ := hT2.later hW (by omega)
      rw [f2] at f'
      injection f' with f'
      injection f' with f'
      subst f'
      have := hc i hil2
      rw [e2] at this
      exact this
    refine ⟨gt, gt2, L[i].hi, L[i].lo, L[i].spans.length, l2[i].2.2, l[i].2, l2[i].2.1, f1, f2, hs _ (List.getElem_mem hiL), (t2 w (Below.refl _ _)).2.2.2.1, fun W hW => ⟨(t1 W hW).1, (t1 W hW).2.1, (t1 W hW).2.2.1, (t2 W hW).1, (t2 W hW).2.1, (t2 W hW).2.2.1⟩, fun k hk => ?_⟩
    obtain ⟨gs, a1, a2, _⟩ := (t1 w (Below.refl _ _)).2.2.2 (by omega)
    obtain ⟨gs2, b1, b2, _⟩ := (t2 w (Below.refl _ _)).2.2.2.2 (by omega)
    refine ⟨gs, gs2, L[i].spans[k], a1, b1, fun W hW => ⟨fun j hj => ?_, fun j hj => ?_⟩⟩
    · obtain ⟨g', f', _, hc⟩ := (t1 W hW).2.2.2 (by omega)
      rw [a1] at f'
      injection f' with f'
      injection f' with f'
      subst f'
      exact hc k hk j hj
    · obtain ⟨g', f', _, hc⟩ := (t2 W hW).2.2.2.2 (by omega)
      rw [b1] at f'
      injection f' with f'
      injection f' with f'
      subst f'
      exact hc k hk j hj
  have HAT := Lib.hid hat
  have tn : ((N : Int) != (N : Int)) = false := by simp
  clear hat hT hT2 hL hL2 hN hs
  go_enter Try.func34, Try.ntmps34
  go_wp2_with fail
  go_loopw [5] (fun iv wr => ∃ i : Nat, iv = .int .i64 (i : Int) ∧ i ≤ N ∧ Hid (Below w.heap.size w wr)) (fun iv _ => N - (intOf iv).toNat)
  case atStart => exact ⟨0, rfl, by omega, Lib.hid (Below.refl _ _)⟩
  case round =>
    obtain ⟨i, rfl, hi, HB⟩ := hrel
    by_cases hin : i < N
    · have di : decide ((i : Int) < (N : Int)) = true := by simp; omega
      obtain ⟨gt, gt2, gh, gl, K, K2, Ai, Bi, rfl, rfl, hK, hK2, hc, hsp⟩ := HAT.out i hin
      obtain ⟨p0, p1, p2, q0, q1, q2⟩ := hc wr HB.out
      have HC := Lib.hid hc
      have HSP := Lib.hid hsp
      have b1 : ((gh : Int) != (gh : Int)) = false := by simp
      have b2 : ((gl : Int) != (gl : Int)) = false := by simp
      have b3 : ((K : Int) != (K : Int)) = false := by simp
      clear hc hsp
      go_wp2_with fail
      go_quiet (fail)
      have HB2 := Lib.hid (Below.drewN' HB.out nq)
      clear p0 p1 p2 q0 q1 q2 HB
      go_wp2_with fail
      go_loopw [6] (fun kv wk => ∃ k : Nat, kv = .int .i64 (k : Int) ∧ k ≤ K ∧ Hid (Below w.heap.size w wk)) (fun kv _ => K - (intOf kv).toNat)
      case atStart => exact ⟨0, rfl, by omega, HB2⟩
      case round =>
        clear HB2
        obtain ⟨k, rfl, hk, HBK⟩ := hrel
        obtain ⟨p0, p1, p2, q0, q1, q2⟩ := HC.out wr HBK.out
        by_cases hkn : k < K
        · have dk : decide ((k : Int) < (K : Int)) = true := by simp; omega
          obtain ⟨gs, gs2, s, rfl, rfl, hcc⟩ := HSP.out k hkn
          obtain ⟨hi', lo', id, pa, nm, st, en, bad, rv⟩ := s
          have HCC := Lib.hid hcc
          have HSS := Lib.hid (fun W => show Calls Try.prog 46 #[.agg #[.int .u64 (hi' : Int), .int .u64 (lo' : Int), .int .u64 (id : Int), .int .u64 (pa : Int), .string nm, .int .i64 st, .int .i64 en, .bool bad, .slice none 0 0, .int .u64 (rv : Int)], .agg #[.int .u64 (hi' : Int), .int .u64 (lo' : Int), .int .u64 (id : Int), .int .u64 (pa : Int), .string nm, .int .i64 st, .int .i64 en, .bool bad, .slice none 0 0, .int .u64 (rv : Int)]] W (fun e w' => e = .returned (.bool true) ∧ Hid (Below W.heap.size W w')) from sameSpan_self ⟨hi', lo', id, pa, nm, st, en, bad, rv⟩ W)
          have hBd : Below w.heap.size w wr.drew := HBK.out.trans ((⟨rfl, rfl, rfl, Nat.le_refl _, fun _ _ => rfl⟩ : Below wr.heap.size wr wr.drew).mono HBK.out.size)
          clear hcc HSP
          go_wp2_with fail
          refine wp_region_held_drew (S := fun W => Below w.heap.size w W) (by kernel_rfl) ?_ (fun hHeld => ?_)
          · exact hBd
          refine wpAnyH_take (i := 0) (v := ?_) rfl (by kernel_rfl) (by kernel_rfl) (by kernel_rfl) (fun _ _ _ h => h) (Or.inl ⟨by rfl, ?_⟩) (by assumption) ?_
          rotate_left
          · intro wq hSw; (try dsimp only at hSw); go_simp; (try with_reducible rfl)
          simp only [Act.put, List.getElem_toArray, List.getElem_cons_succ, List.getElem_cons_zero, List.setIfInBounds_toArray, List.set_cons_zero, List.set_cons_succ]
          refine wpAnyH_take (i := 1) (v := ?_) rfl (by kernel_rfl) (by kernel_rfl) (by kernel_rfl) (fun _ _ _ h => h) (Or.inl ⟨by rfl, ?_⟩) (by assumption) ?_
          rotate_left
          · intro wq hSw; (try dsimp only at hSw); go_simp; (try with_reducible rfl)
          simp only [Act.put, List.getElem_toArray, List.getElem_cons_succ, List.getElem_cons_zero, List.setIfInBounds_toArray, List.set_cons_zero, List.set_cons_succ]
          refine wpAnyH_take (i := 2) (v := ?_) rfl (by kernel_rfl) (by kernel_rfl) (by kernel_rfl) (fun _ _ _ h => h) (Or.inl ⟨by rfl, ?_⟩) (by assumption) ?_
          rotate_left
          · intro wq hSw; (try dsimp only at hSw); go_simp; (try with_reducible rfl)
          simp only [Act.put, List.getElem_toArray, List.getElem_cons_succ, List.getElem_cons_zero, List.setIfInBounds_toArray, List.set_cons_zero, List.set_cons_succ]
          refine wpAnyH_take (i := 3) (v := ?_) rfl (by kernel_rfl) (by kernel_rfl) (by kernel_rfl) (fun _ _ _ h => h) (Or.inl ⟨by rfl, ?_⟩) (by assumption) ?_
          rotate_left
          · intro wq hSw; (try dsimp only at hSw); go_simp; (try with_reducible rfl)
          simp only [Act.put, List.getElem_toArray, List.getElem_cons_succ, List.getElem_cons_zero, List.setIfInBounds_toArray, List.set_cons_zero, List.set_cons_succ]
          refine wpAnyH_take (i := 4) (v := ?_) rfl (by kernel_rfl) (by kernel_rfl) (by kernel_rfl) (fun _ _ _ h => h) (Or.inl ⟨by rfl, ?_⟩) (by assumption) ?_
          rotate_left
          · intro wq hSw; (try dsimp only at hSw); have hq := (HC.out _ hSw).2.2.1; go_simp; (try with_reducible rfl)
          simp only [Act.put, List.getElem_toArray, List.getElem_cons_succ, List.getElem_cons_zero, List.setIfInBounds_toArray, List.set_cons_zero, List.set_cons_succ]
          refine wpAnyH_take (i := 5) (v := ?_) rfl (by kernel_rfl) (by kernel_rfl) (by kernel_rfl) (fun _ _ _ h => h) (Or.inl ⟨by rfl, ?_⟩) (by assumption) ?_
          rotate_left
          · intro wq hSw; (try dsimp only at hSw); go_simp; (try with_reducible rfl)
          simp only [Act.put, List.getElem_toArray, List.getElem_cons_succ, List.getElem_cons_zero, List.setIfInBounds_toArray, List.set_cons_zero, List.set_cons_succ]
          refine wpAnyH_take (i := 6) (v := ?_) rfl (by kernel_rfl) (by kernel_rfl) (by kernel_rfl) (fun _ _ _ h => h) (Or.inl ⟨by rfl, ?_⟩) (by assumption) ?_
          rotate_left
          · intro wq hSw; (try dsimp only at hSw); go_simp; (try with_reducible rfl)
          simp only [Act.put, List.getElem_toArray, List.getElem_cons_succ, List.getElem_cons_zero, List.setIfInBounds_toArray, List.set_cons_zero, List.set_cons_succ]
          refine wpAnyH_take (i := 7) (v := ?_) rfl (by kernel_rfl) (by kernel_rfl) (by kernel_rfl) (fun _ _ _ h => h) (Or.inl ⟨by rfl, ?_⟩) (by assumption) ?_
          rotate_left
          · intro wq hSw; (try dsimp only at hSw); have hq0 : wq.cell? ⟨gs, k * 10, none⟩ = some (.int .u64 (hi' : Int)) := (HCC.out wq hSw).1 0 (by omega); have hq1 : wq.cell? ⟨gs, k * 10 + 1, none⟩ = some (.int .u64 (lo' : Int)) := (HCC.out wq hSw).1 1 (by omega); have hq2 : wq.cell? ⟨gs, k * 10 + 2, none⟩ = some (.int .u64 (id : Int)) := (HCC.out wq hSw).1 2 (by omega); have hq3 : wq.cell? ⟨gs, k * 10 + 3, none⟩ = some (.int .u64 (pa : Int)) := (HCC.out wq hSw).1 3 (by omega); have hq4 : wq.cell? ⟨gs, k * 10 + 4, none⟩ = some (.string nm) := (HCC.out wq hSw).1 4 (by omega); have hq5 : wq.cell? ⟨gs, k * 10 + 5, none⟩ = some (.int .i64 st) := (HCC.out wq hSw).1 5 (by omega); have hq6 : wq.cell? ⟨gs, k * 10 + 6, none⟩ = some (.int .i64 en) := (HCC.out wq hSw).1 6 (by omega); have hq7 : wq.cell? ⟨gs, k * 10 + 7, none⟩ = some (.bool bad) := (HCC.out wq hSw).1 7 (by omega); have hq8 : wq.cell? ⟨gs, k * 10 + 8, none⟩ = some (.slice none 0 0) := (HCC.out wq hSw).1 8 (by omega); have hq9 : wq.cell? ⟨gs, k * 10 + 9, none⟩ = some (.int .u64 (rv : Int)) := (HCC.out wq hSw).1 9 (by omega); go_simp; (try with_reducible rfl)
          simp only [Act.put, List.getElem_toArray, List.getElem_cons_succ, List.getElem_cons_zero, List.setIfInBounds_toArray, List.set_cons_zero, List.set_cons_succ]
          refine wpAnyH_take (i := 8) (v := ?_) rfl (by kernel_rfl) (by kernel_rfl) (by kernel_rfl) (fun _ _ _ h => h) (Or.inl ⟨by rfl, ?_⟩) (by assumption) ?_
          rotate_left
          · intro wq hSw; (try dsimp only at hSw); go_simp; (try with_reducible rfl)
          simp only [Act.put, List.getElem_toArray, List.getElem_cons_succ, List.getElem_cons_zero, List.setIfInBounds_toArray, List.set_cons_zero, List.set_cons_succ]
          refine wpAnyH_take (i := 9) (v := ?_) rfl (by kernel_rfl) (by kernel_rfl) (by kernel_rfl) (fun _ _ _ h => h) (Or.inl ⟨by rfl, ?_⟩) (by assumption) ?_
          rotate_left
          · intro wq hSw; (try dsimp only at hSw); go_simp; (try with_reducible rfl)
          simp only [Act.put, List.getElem_toArray, List.getElem_cons_succ, List.getElem_cons_zero, List.setIfInBounds_toArray, List.set_cons_zero, List.set_cons_succ]
          refine wpAnyH_take (i := 10) (v := ?_) rfl (by kernel_rfl) (by kernel_rfl) (by kernel_rfl) (fun _ _ _ h => h) (Or.inl ⟨by rfl, ?_⟩) (by assumption) ?_
          rotate_left
          · intro wq hSw; (try dsimp only at hSw); go_simp; (try with_reducible rfl)
          simp only [Act.put, List.getElem_toArray, List.getElem_cons_succ, List.getElem_cons_zero, List.setIfInBounds_toArray, List.set_cons_zero, List.set_cons_succ]
          refine wpAnyH_take (i := 11) (v := ?_) rfl (by kernel_rfl) (by kernel_rfl) (by kernel_rfl) (fun _ _ _ h => h) (Or.inl ⟨by rfl, ?_⟩) (by assumption) ?_
          rotate_left
          · intro wq hSw; (try dsimp only at hSw); go_simp; (try with_reducible rfl)
          simp only [Act.put, List.getElem_toArray, List.getElem_cons_succ, List.getElem_cons_zero, List.setIfInBounds_toArray, List.set_cons_zero, List.set_cons_succ]
          refine wpAnyH_take (i := 12) (v := ?_) rfl (by kernel_rfl) (by kernel_rfl) (by kernel_rfl) (fun _ _ _ h => h) (Or.inl ⟨by rfl, ?_⟩) (by assumption) ?_
          rotate_left
          · intro wq hSw; (try dsimp only at hSw); have hq := (HC.out _ hSw).2.2.2.2.2; go_simp; (try with_reducible rfl)
          simp only [Act.put, List.getElem_toArray, List.getElem_cons_succ, List.getElem_cons_zero, List.setIfInBounds_toArray, List.set_cons_zero, List.set_cons_succ]
          refine wpAnyH_take (i := 13) (v := ?_) rfl (by kernel_rfl) (by kernel_rfl) (by kernel_rfl) (fun _ _ _ h => h) (Or.inl ⟨by rfl, ?_⟩) (by assumption) ?_
          rotate_left
          · intro wq hSw; (try dsimp only at hSw); go_simp; (try with_reducible rfl)
          simp only [Act.put, List.getElem_toArray, List.getElem_cons_succ, List.getElem_cons_zero, List.setIfInBounds_toArray, List.set_cons_zero, List.set_cons_succ]
          refine wpAnyH_take (i := 14) (v := ?_) rfl (by kernel_rfl) (by kernel_rfl) (by kernel_rfl) (fun _ _ _ h => h) (Or.inl ⟨by rfl, ?_⟩) (by assumption) ?_
          rotate_left
          · intro wq hSw; (try dsimp only at hSw); go_simp; (try with_reducible rfl)
          simp only [Act.put, List.getElem_toArray, List.getElem_cons_succ, List.getElem_cons_zero, List.setIfInBounds_toArray, List.set_cons_zero, List.set_cons_succ]
          refine wpAnyH_take (i := 15) (v := ?_) rfl (by kernel_rfl) (by kernel_rfl) (by kernel_rfl) (fun _ _ _ h => h) (Or.inl ⟨by rfl, ?_⟩) (by assumption) ?_
          rotate_left
          · intro wq hSw; (try dsimp only at hSw); have hq0 : wq.cell? ⟨gs2, k * 10, none⟩ = some (.int .u64 (hi' : Int)) := (HCC.out wq hSw).2 0 (by omega); have hq1 : wq.cell? ⟨gs2, k * 10 + 1, none⟩ = some (.int .u64 (lo' : Int)) := (HCC.out wq hSw).2 1 (by omega); have hq2 : wq.cell? ⟨gs2, k * 10 + 2, none⟩ = some (.int .u64 (id : Int)) := (HCC.out wq hSw).2 2 (by omega); have hq3 : wq.cell? ⟨gs2, k * 10 + 3, none⟩ = some (.int .u64 (pa : Int)) := (HCC.out wq hSw).2 3 (by omega); have hq4 : wq.cell? ⟨gs2, k * 10 + 4, none⟩ = some (.string nm) := (HCC.out wq hSw).2 4 (by omega); have hq5 : wq.cell? ⟨gs2, k * 10 + 5, none⟩ = some (.int .i64 st) := (HCC.out wq hSw).2 5 (by omega); have hq6 : wq.cell? ⟨gs2, k * 10 + 6, none⟩ = some (.int .i64 en) := (HCC.out wq hSw).2 6 (by omega); have hq7 : wq.cell? ⟨gs2, k * 10 + 7, none⟩ = some (.bool bad) := (HCC.out wq hSw).2 7 (by omega); have hq8 : wq.cell? ⟨gs2, k * 10 + 8, none⟩ = some (.slice none 0 0) := (HCC.out wq hSw).2 8 (by omega); have hq9 : wq.cell? ⟨gs2, k * 10 + 9, none⟩ = some (.int .u64 (rv : Int)) := (HCC.out wq hSw).2 9 (by omega); go_simp; (try with_reducible rfl)
          simp only [Act.put, List.getElem_toArray, List.getElem_cons_succ, List.getElem_cons_zero, List.setIfInBounds_toArray, List.set_cons_zero, List.set_cons_succ]
          refine wpAnyH_ready (rs := [16]) (by kernel_rfl) (by simp) ?_
          refine AllReadyH.cons rfl (fun K hK => ?_) AllReadyH.nil
          go_simp
          refine (HSS.out _).mono ?_
          rintro e w5 ⟨rfl, HB5⟩
          have hb5 : Below w.heap.size w w5 := hHeld.trans (HB5.out.mono hHeld.size)
          (try go_wp2_with fail)
          refine hK.out _ _ ?_ (fun hHeld => ?_)
          · exact hb5
          clear hK K
          try simp only [Act.put, List.getElem_toArray, List.getElem_cons_succ, List.getElem_cons_zero, List.setIfInBounds_toArray, List.set_cons_zero, List.set_cons_succ]
          refine wpAnyH_take (i := 17) (v := ?_) rfl (by kernel_rfl) (by kernel_rfl) (by kernel_rfl) (fun _ _ _ h => h) (Or.inl ⟨by rfl, ?_⟩) (by assumption) ?_
          rotate_left
          · intro wq hSw; (try dsimp only at hSw); go_simp; (try with_reducible rfl)
          simp only [Act.put, List.getElem_toArray, List.getElem_cons_succ, List.getElem_cons_zero, List.setIfInBounds_toArray, List.set_cons_zero, List.set_cons_succ]
          refine wpAnyH_done (by kernel_rfl) ?_ _
          clear hHeld
          have HB6 := Lib.hid hb5
          clear hb5 hBd HBK p0 p1 p2 q0 q1 q2
          go_wp2_with fail
          go_roundw
          case rel => exact ⟨k + 1, by simp, by omega, HB6⟩
          case measure => simp [intOf]; omega
        · obtain rfl : K = k := by omega
          have dk : decide ((K : Int) < (K : Int)) = false := by simp
          have HB6 := HBK
          clear HSP HC
          go_wp2_with fail
          go_roundw
          case rel => exact ⟨i + 1, by simp, by omega, HB6⟩
          case measure => simp [intOf]; omega
    · obtain rfl : i = N := by omega
      have di : decide ((i : Int) < (i : Int)) = false := by simp
      clear HAT
      go_wp2_with fail
      go_ret
      exact ⟨rfl, HB⟩
end Go.Proofs.Ythpcnnkdpgjiiaa
