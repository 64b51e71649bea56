/-
  Proved: PrioMean returns true for every bytes, every number kept and every number of draws: over all draws of some, what is kept counts for no more than all, on average; it counts for all, if there are no more than are kept; each that is kept counts for no less than its weight. No condition.
-/
import Derived.Deep.RegionHeld
import Derived.Test.YtbjpfafohaebpaaPrMeanL
namespace Go.Proofs.Ytbjpfafohaebpaa
open Go.ChangeShapes Go.WideShapes Go.ChangeAt Go.RowKit Go.Proofs.PrioMath

set_option linter.unusedSimpArgs false in
set_option maxRecDepth 100000 in
set_option maxHeartbeats 8000000 in
theorem prioMean_walk (A : Option Addr) (cs : List UInt8) (cap : Nat) (c1 c2 : UInt8) (w : World) (hC : Holds8 w.heap.size w A cs) (_hcap : cs.length ≤ cap) (hc2 : cap ≤ 9223372036854775807) :
    Calls Try.prog 8 #[.slice A cs.length cap, .int .u8 (c1.toNat : Int), .int .u8 (c2.toNat : Int)] w fun e w' => e = .returned (.bool true) ∧ Below w.heap.size w w' := by
  have hc8 := c1.toNat_lt
  have hd8 := c2.toNat_lt
  obtain ⟨mo, hmo⟩ : ∃ x, c1.toNat = x := ⟨_, rfl⟩
  obtain ⟨mp, hmp⟩ : ∃ x, c2.toNat = x := ⟨_, rfl⟩
  rw [hmo] at hc8 ⊢
  rw [hmp] at hd8 ⊢
  clear hmo hmp
  have HK := Lib.hid (fun W => known_any W)
  have HC := Lib.hid hC
  obtain ⟨N, hN⟩ : ∃ n, cs.length = n := ⟨_, rfl⟩
  obtain ⟨n, hn1, hn2, hn4, hnN⟩ : ∃ n : Nat, min (N : Int) 4 = (n : Int) ∧ (if (4 : Int) < (N : Int) then 4 else (N : Int)) = (n : Int) ∧ n ≤ 4 ∧ n ≤ N := ⟨min N 4, by omega, by split <;> omega, by omega, by omega⟩
  have hn3 : min N 4 = n := by omega
  have HN := Lib.hid (show n ≤ cs.length by rw [hN]; exact hnN)
  rw [hN]
  obtain ⟨m5, hm5, hm52, hm53⟩ : ∃ k : Nat, (mp : Int) % 5 = (k : Int) ∧ k < 5 ∧ (mp : Int).tmod 5 = (k : Int) := ⟨mp % 5, by omega, by omega, by rw [Int.tmod_eq_emod_of_nonneg (by omega)]; omega⟩
  obtain ⟨m, hm, hm2⟩ : ∃ k : Nat, (1 : Int) + (m5 : Int) = (k : Int) ∧ k = 1 + m5 := ⟨1 + m5, by simp, rfl⟩
  obtain ⟨k3, hk3, hk32, hk33⟩ : ∃ k : Nat, (mo : Int) % 3 = (k : Int) ∧ k < 3 ∧ (mo : Int).tmod 3 = (k : Int) := ⟨mo % 3, by omega, by omega, by rw [Int.tmod_eq_emod_of_nonneg (by omega)]; omega⟩
  obtain ⟨k, hk, hk2⟩ : ∃ k : Nat, (1 : Int) + (k3 : Int) = (k : Int) ∧ k = 1 + k3 := ⟨1 + k3, by simp, rfl⟩
  have hm15 : 1 ≤ m ∧ m ≤ 5 := by omega
  have hk13 : 1 ≤ k ∧ k ≤ 3 := by omega
  have hend : Hid (∀ W W', Below w.heap.size w W → Below W.heap.size W W' → Below w.heap.size w W') := Lib.hid fun W W' h1 h2 => h1.trans (h2.mono h1.size)
  clear hC hm2 hk2 hN
  by_cases h0 : n = 0
  · have t1 : ((n : Int) == 0) = true := by simp; omega
    have t1' : decide ((n : Int) = 0) = true := by simp; omega
    clear h0
    go_enter Try.func8, Try.ntmps8
    go_wp2_with fail
    refine (HK.out _).mono ?_
    rintro e w1 ⟨rfl, hb⟩
    go_wp2_with fail
    go_ret
    exact ⟨rfl, hb⟩
  have t1 : ((n : Int) == 0) = false := by simp [h0]
  have hn0 : 1 ≤ n := by omega
  have hLc := fun W => lcm_any m W hm15.1 hm15.2
  obtain ⟨hden1, hden60⟩ := lcmF_le hm15.2
  have hdvd := lcmF_dvd hm15.2
  have hvec := pow_small (n := n) hm15.2 hn4
  have hmean := mean (den := lcmF m) (k := k) (n := n) (W := wOf cs) hk13.1 hm15 hn4 (fun i _ => (wOf_le cs i).2) hdvd
  have hfew : n ≤ k → sumN (m ^ n) (tot (lcmF m) k m n (wOf cs)) = sumN n (wOf cs) * m ^ n * lcmF m := fun h => by
    rw [sumN_congr fun v _ => mean_few h v, sumN_const]
    simp [Nat.mul_comm, Nat.mul_left_comm]
  have hall : sumN n (wOf cs) ≤ 120 := by
    have := sumN_le (n := n) (f := wOf cs) (C := 30) fun i _ => (wOf_le cs i).2
    omega
  obtain ⟨den, hden⟩ : ∃ d, lcmF m = d := ⟨_, rfl⟩
  rw [hden] at hLc hden1 hden60 hdvd hmean hfew
  obtain ⟨q, hq1, hq2, hq3, hqn⟩ : ∃ q : Nat, min (k : Int) (n : Int) = (q : Int) ∧ (if (n : Int) < (k : Int) then (n : Int) else (k : Int)) = (q : Int) ∧ q = min n k ∧ q ≤ n := ⟨min n k, by omega, by split <;> omega, rfl, by omega⟩
  have hq4 : min k n = q := by omega
  have hcl : ∀ v, (closeL k m (mkV (wOf cs) m v n)).length = q := fun v => by rw [kept_pl (mkV_pl (wOf cs) m v n), mkV_len, hq3]
  have HLC := Lib.hid hLc
  have HDV := Lib.hid hdvd
  have HME := Lib.hid hmean
  have HFE := Lib.hid hfew
  have HCL := Lib.hid hcl
  have HNew : Hid (∀ W, Calls Try.prog 10 #[.int .i64 (k : Int), .int .u64 (m : Int)] W fun e w' => ∃ S bs, e = .returned (.pointer (some ⟨S, 0, none⟩)) ∧ Hid (Ow W w' S k m [] bs)) := Lib.hid fun W => own_new k m W hk13.1 (by omega) (by omega)
  have am0 : ((m : Int) == 0) = false := by simp; omega
  have am0' : decide ((m : Int) = 0) = false := by simp; omega
  have hm0 : ¬ m = 0 := by omega
  clear hLc hdvd hmean hfew hcl hden hq3 h0
  go_enter Try.func8, Try.ntmps8
  go_wp2_with fail
  refine (HK.out _).mono ?_
  rintro e w1 ⟨rfl, hb⟩
  have HB := Lib.hid hb
  clear hb
  go_wp2_with fail
  go_loopw [10, 11] (fun av iv wr => ∃ a i : Nat, av = .int .u64 (a : Int) ∧ iv = .int .i64 (i : Int) ∧ i ≤ n ∧ a ≤ 30 * i ∧ Hid (sumN i (wOf cs) = a) ∧ Hid (Below w.heap.size w wr)) (fun _ iv _ => n - (intOf iv).toNat)
  case atStart => exact ⟨0, 0, rfl, rfl, by omega, by omega, Lib.hid rfl, HB⟩
  case round =>
    obtain ⟨a, i, rfl, rfl, hi, hal, HA, HB1⟩ := hrel
    by_cases hin : i < n
    · clear HB
      obtain ⟨b, off, rfl, hb, hcell⟩ := HC.out (by have := HN.out; omega)
      obtain ⟨x, hx⟩ : ∃ x, (cs.getD i 0).toNat = x := ⟨_, rfl⟩
      obtain ⟨r, hr⟩ : ∃ r, x % 30 = r := ⟨_, rfl⟩
      obtain ⟨⟨hx255, hr29, hw, hr1, hr2⟩, hF⟩ := byte_at hcell hb hin HN.out hx hr
      have f1 := hF _ HB1.out
      obtain ⟨x1, hx1, hx2⟩ : ∃ x1 : Nat, (r : Int) + 1 = (x1 : Int) ∧ x1 = r + 1 := ⟨r + 1, by simp, rfl⟩
      obtain ⟨a1, ha1, ha2⟩ : ∃ a1 : Nat, (a : Int) + (x1 : Int) = (a1 : Int) ∧ a1 = a + x1 := ⟨a + x1, by simp, rfl⟩
      have HA1 : Hid (sumN (i + 1) (wOf cs) = a1) := Lib.hid (by rw [sumN, HA.out, hw, ha2, hx2])
      have ha1l : a1 ≤ 30 * (i + 1) := by omega
      have t2 : decide ((i : Int) < (n : Int)) = true := by simp; omega
      clear hx hr hw hF hcell hx2 ha2 HA
      go_wp2_with fail
      go_roundw
      case rel => exact ⟨a1, i + 1, rfl, by simp, by omega, ha1l, HA1, HB1⟩
      case measure => simp [intOf]; omega
    · have hie : n = i := by omega
      subst hie
      have t2 : decide ((n : Int) < (n : Int)) = false := by simp
      have ha120 : a ≤ 120 := by rw [← HA.out]; exact hall
      clear HB hin
      go_wp2_with fail
      refine (HLC.out _).mono ?_
      rintro e w2 ⟨rfl, rfl⟩
      go_wp2_with fail
      go_loopw [13, 14] (fun vv iv wr => ∃ y i : Nat, vv = .int .u64 (y : Int) ∧ iv = .int .i64 (i : Int) ∧ i ≤ n ∧ y ≤ 625 ∧ Hid (m ^ i = y) ∧ Hid (Below w.heap.size w wr)) (fun _ iv _ => n - (intOf iv).toNat)
      case atStart => exact ⟨1, 0, rfl, rfl, by omega, by omega, Lib.hid (by simp), HB1⟩
      case round =>
        obtain ⟨y, i, rfl, rfl, hi, hy, HY, HB2⟩ := hrel
        by_cases hin : i < n
        · clear HB1
          obtain ⟨y1, hy1⟩ : ∃ y1, y * m = y1 := ⟨_, rfl⟩
          have e1 : (y : Int) * (m : Int) = (y1 : Int) := by rw [← hy1]; simp
          have hpow : m ^ (i + 1) = y1 := by rw [Nat.pow_succ, HY.out, hy1]
          have hy2 : y1 ≤ 625 := by rw [← hpow]; exact pow_small hm15.2 (by omega)
          have HY1 := Lib.hid hpow
          have t3 : decide ((i : Int) < (n : Int)) = true := by simp; omega
          clear hpow hy1 HY
          go_wp2_with fail
          go_roundw
          case rel => exact ⟨y1, i + 1, rfl, by simp, by omega, hy2, HY1, HB2⟩
          case measure => simp [intOf]; omega
        · have hie : n = i := by omega
          subst hie
          clear HB1 hin
          go_wp2_with fail
          go_loopw [15, 16] (fun sv vv wr => ∃ sm v : Nat, sv = .int .u64 (sm : Int) ∧ vv = .int .u64 (v : Int) ∧ v ≤ y ∧ sm ≤ 22500000 ∧ Hid (sumN v (tot den k m n (wOf cs)) = sm) ∧ Hid (Below w.heap.size w wr)) (fun _ vv _ => y - (intOf vv).toNat)
          case atStart => exact ⟨0, 0, rfl, rfl, by omega, by omega, Lib.hid rfl, HB2⟩
          case round =>
            obtain ⟨sm, v, rfl, rfl, hv, hsm, HSM, HB3⟩ := hrel
            by_cases hvy : v < y
            · clear HB2
              have t4 : decide ((v : Int) < (y : Int)) = true := by simp; omega
              have t4' : decide (v < y) = true := by simp; omega
              go_wp2_with fail
              refine (HNew.out _).mono ?_
              rintro e w3 ⟨S, bs, rfl, HO⟩
              have HO1 : Hid (Of_ wr w3 S k m (mkV (wOf cs) m v 0)) := Lib.hid ⟨bs, HO.out⟩
              have hb4 : Hid (Below w.heap.size w wr) := HB3
              clear HO
              go_wp2_with fail
              obtain ⟨w4, hw4⟩ : ∃ x, x = wr := ⟨_, rfl⟩
              rw [← hw4] at HO1 hb4
              clear hw4
              have HV0 : Hid (v / m ^ 0 = v) := Lib.hid (by simp)
              go_loopw [18, 19] (fun xv iv wr => ∃ X i : Nat, xv = .int .u64 (X : Int) ∧ iv = .int .i64 (i : Int) ∧ i ≤ n ∧ X ≤ v ∧ Hid (v / m ^ i = X) ∧ Hid (Of_ w4 wr S k m (mkV (wOf cs) m v i))) (fun _ iv _ => n - (intOf iv).toNat)
              case atStart => exact ⟨v, 0, rfl, rfl, by omega, Nat.le_refl _, HV0, HO1⟩
              case round =>
                obtain ⟨X, i, rfl, rfl, hi, hXv, HX, HO2⟩ := hrel
                by_cases hin : i < n
                · clear HO1
                  obtain ⟨b, off, rfl, hb, hcell⟩ := HC.out (by have := HN.out; omega)
                  obtain ⟨x, hx⟩ : ∃ x, (cs.getD i 0).toNat = x := ⟨_, rfl⟩
                  obtain ⟨r, hr⟩ : ∃ r, x % 30 = r := ⟨_, rfl⟩
                  obtain ⟨⟨hx255, hr29, hw, hr1, hr2⟩, hF⟩ := byte_at hcell hb hin HN.out hx hr
                  obtain ⟨x1, hx1, hx2⟩ : ∃ x1 : Nat, (r : Int) + 1 = (x1 : Int) ∧ x1 = r + 1 := ⟨r + 1, by simp, rfl⟩
                  obtain ⟨dg, hdg⟩ : ∃ dg, X % m = dg := ⟨_, rfl⟩
                  have hdgm : dg < m := by rw [← hdg]; exact Nat.mod_lt _ (by omega)
                  have e1 : (X : Int) % (m : Int) = (dg : Int) := by rw [← hdg]; simp
                  obtain ⟨X1, hX1⟩ : ∃ X1, X / m = X1 := ⟨_, rfl⟩
                  have e2 : (X : Int) / (m : Int) = (X1 : Int) := by rw [← hX1]; simp
                  have hX1v : X1 ≤ v := by rw [← hX1]; exact Nat.le_trans (Nat.div_le_self _ _) hXv
                  have HX1 : Hid (v / m ^ (i + 1) = X1) := Lib.hid (by rw [Nat.pow_succ, ← Nat.div_div_eq_div_mul, HX.out, hX1])
                  have hdig : dig m v i = dg := by unfold dig; rw [HX.out, hdg]
                  have hdw : Below wr.heap.size wr wr.drew := (Below.refl _ wr).drew
                  have hA := v_add (HO2.out.later hdw) (by rw [hw, ← hx2]) hdig (by omega) hdgm hm15.2 (by omega)
                  have HA := Lib.hid hA
                  have hB0 : Below w.heap.size w wr.drew := hend.out _ _ hb4.out (HO2.out.later hdw).below
                  have wr0 : IntKind.u64.wrap (r : Int) = (r : Int) := by rw [IntKind.wrap_u64]; omega
                  have wx1 : IntKind.u64.wrap (x1 : Int) = (x1 : Int) := by rw [IntKind.wrap_u64]; omega
                  have wr8 : IntKind.u8.wrap (r : Int) = (r : Int) := by rw [IntKind.wrap_u8]; omega
                  have wdg : IntKind.u64.wrap (dg : Int) = (dg : Int) := by rw [IntKind.wrap_u64]; omega
                  have e1t : (X : Int).tmod (m : Int) = (dg : Int) := by rw [Int.tmod_eq_emod_of_nonneg (by omega)]; exact e1
                  have HF := Lib.hid hF
                  have hiN : i < N := by omega
                  have t5 : decide ((i : Int) < (n : Int)) = true := by simp; omega
                  clear hx hr hw hF hcell hx2 hdg hX1 hdig hA HX
                  go_wp2_with fail
                  refine wp_region_held_drew (S := fun W => Below w.heap.size w W) (by kernel_rfl) ?_ (fun hHeld => ?_)
                  · exact hB0
                  refine wpAnyH_take (i := 0) (v := ?_) rfl (by kernel_rfl) (by kernel_rfl) (by kernel_rfl) (fun _ _ _ h => h) (Or.inl ⟨by rfl, ?_⟩) (by assumption) ?_
                  rotate_left
                  · intro wq hSw; (try dsimp only at hSw); go_simp; (try with_reducible rfl)
                  simp only [Act.put, List.getElem_toArray, List.getElem_cons_succ, List.getElem_cons_zero, List.setIfInBounds_toArray, List.set_cons_zero, List.set_cons_succ]
                  refine wpAnyH_take (i := 1) (v := ?_) rfl (by kernel_rfl) (by kernel_rfl) (by kernel_rfl) (fun _ _ _ h => h) (Or.inl ⟨by rfl, ?_⟩) (by assumption) ?_
                  rotate_left
                  · intro wq hSw; (try dsimp only at hSw); go_simp; (try with_reducible rfl)
                  simp only [Act.put, List.getElem_toArray, List.getElem_cons_succ, List.getElem_cons_zero, List.setIfInBounds_toArray, List.set_cons_zero, List.set_cons_succ]
                  refine wpAnyH_take (i := 2) (v := ?_) rfl (by kernel_rfl) (by kernel_rfl) (by kernel_rfl) (fun _ _ _ h => h) (Or.inl ⟨by rfl, ?_⟩) (by assumption) ?_
                  rotate_left
                  · intro wq hSw; (try dsimp only at hSw); go_simp; (try with_reducible rfl)
                  simp only [Act.put, List.getElem_toArray, List.getElem_cons_succ, List.getElem_cons_zero, List.setIfInBounds_toArray, List.set_cons_zero, List.set_cons_succ]
                  refine wpAnyH_take (i := 3) (v := ?_) rfl (by kernel_rfl) (by kernel_rfl) (by kernel_rfl) (fun _ _ _ h => h) (Or.inl ⟨by rfl, ?_⟩) (by assumption) ?_
                  rotate_left
                  · intro wq hSw; (try dsimp only at hSw); go_simp; (try with_reducible rfl)
                  simp only [Act.put, List.getElem_toArray, List.getElem_cons_succ, List.getElem_cons_zero, List.setIfInBounds_toArray, List.set_cons_zero, List.set_cons_succ]
                  refine wpAnyH_take (i := 4) (v := ?_) rfl (by kernel_rfl) (by kernel_rfl) (by kernel_rfl) (fun _ _ _ h => h) (Or.inl ⟨by rfl, ?_⟩) (by assumption) ?_
                  rotate_left
                  · intro wq hSw; (try dsimp only at hSw); have c1 := HF.out _ hSw; go_simp; (try with_reducible rfl)
                  simp only [Act.put, List.getElem_toArray, List.getElem_cons_succ, List.getElem_cons_zero, List.setIfInBounds_toArray, List.set_cons_zero, List.set_cons_succ]
                  refine wpAnyH_take (i := 5) (v := ?_) rfl (by kernel_rfl) (by kernel_rfl) (by kernel_rfl) (fun _ _ _ h => h) (Or.inl ⟨by rfl, ?_⟩) (by assumption) ?_
                  rotate_left
                  · intro wq hSw; (try dsimp only at hSw); go_simp; (try with_reducible rfl)
                  simp only [Act.put, List.getElem_toArray, List.getElem_cons_succ, List.getElem_cons_zero, List.setIfInBounds_toArray, List.set_cons_zero, List.set_cons_succ]
                  refine wpAnyH_take (i := 6) (v := ?_) rfl (by kernel_rfl) (by kernel_rfl) (by kernel_rfl) (fun _ _ _ h => h) (Or.inl ⟨by rfl, ?_⟩) (by assumption) ?_
                  rotate_left
                  · intro wq hSw; (try dsimp only at hSw); go_simp; (try with_reducible rfl)
                  simp only [Act.put, List.getElem_toArray, List.getElem_cons_succ, List.getElem_cons_zero, List.setIfInBounds_toArray, List.set_cons_zero, List.set_cons_succ]
                  refine wpAnyH_take (i := 7) (v := ?_) rfl (by kernel_rfl) (by kernel_rfl) (by kernel_rfl) (fun _ _ _ h => h) (Or.inl ⟨by rfl, ?_⟩) (by assumption) ?_
                  rotate_left
                  · intro wq hSw; (try dsimp only at hSw); go_simp; (try with_reducible rfl)
                  simp only [Act.put, List.getElem_toArray, List.getElem_cons_succ, List.getElem_cons_zero, List.setIfInBounds_toArray, List.set_cons_zero, List.set_cons_succ]
                  refine wpAnyH_take (i := 8) (v := ?_) rfl (by kernel_rfl) (by kernel_rfl) (by kernel_rfl) (fun _ _ _ h => h) (Or.inl ⟨by rfl, ?_⟩) (by assumption) ?_
                  rotate_left
                  · intro wq hSw; (try dsimp only at hSw); go_simp; (try with_reducible rfl)
                  simp only [Act.put, List.getElem_toArray, List.getElem_cons_succ, List.getElem_cons_zero, List.setIfInBounds_toArray, List.set_cons_zero, List.set_cons_succ]
                  refine wpAnyH_take (i := 9) (v := ?_) rfl (by kernel_rfl) (by kernel_rfl) (by kernel_rfl) (fun _ _ _ h => h) (Or.inl ⟨by rfl, ?_⟩) (by assumption) ?_
                  rotate_left
                  · intro wq hSw; (try dsimp only at hSw); go_simp; (try with_reducible rfl)
                  simp only [Act.put, List.getElem_toArray, List.getElem_cons_succ, List.getElem_cons_zero, List.setIfInBounds_toArray, List.set_cons_zero, List.set_cons_succ]
                  refine wpAnyH_take (i := 10) (v := ?_) rfl (by kernel_rfl) (by kernel_rfl) (by kernel_rfl) (fun _ _ _ h => h) (Or.inl ⟨by rfl, ?_⟩) (by assumption) ?_
                  rotate_left
                  · intro wq hSw; (try dsimp only at hSw); go_simp; (try with_reducible rfl)
                  simp only [Act.put, List.getElem_toArray, List.getElem_cons_succ, List.getElem_cons_zero, List.setIfInBounds_toArray, List.set_cons_zero, List.set_cons_succ]
                  refine wpAnyH_ready (rs := [11]) (by kernel_rfl) (by simp) ?_
                  refine AllReadyH.cons rfl (fun K hK => ?_) AllReadyH.nil
                  go_simp
                  refine HA.out.mono ?_
                  rintro e w5 ⟨rfl, HO3⟩
                  have hb2 := hend.out _ _ hb4.out HO3.out.below
                  (try go_wp2_with fail)
                  refine hK.out _ _ ?_ (fun hHeld => ?_)
                  · exact hb2
                  clear hK K
                  try simp only [Act.put, List.getElem_toArray, List.getElem_cons_succ, List.getElem_cons_zero, List.setIfInBounds_toArray, List.set_cons_zero, List.set_cons_succ]
                  refine wpAnyH_done (by kernel_rfl) ?_ _
                  clear hHeld
                  clear hB0
                  go_wp2_with fail
                  go_roundw
                  case rel => exact ⟨X1, i + 1, by rw [← e2], by simp, by omega, hX1v, HX1, HO3⟩
                  case measure => simp [intOf]; omega
                · have hie : n = i := by omega
                  subst hie
                  have hClose := of_close HO2.out (by rw [mkV_len]; omega) (HCL.out v)
                  have HClose := Lib.hid hClose
                  have hlow := HO2.out.below
                  have HLOW := Lib.hid hlow
                  have hbel : Hid (∀ W, Below w4.heap.size w4 W → Below w.heap.size w W) := Lib.hid fun W h => hend.out _ _ hb4.out h
                  clear hClose HO1 hin hlow HO2
                  go_wp2_with fail
                  refine HClose.out.mono ?_
                  rintro e w5 ⟨T, rfl, HO3⟩
                  have HO5 : Hid (Below w.heap.size w w5 ∧ Kp w5 T q (closeL k m (mkV (wOf cs) m v n))) := Lib.hid ⟨hbel.out _ HO3.out.1.2.1, HO3.out.2.1⟩
                  clear HO3 HClose HLOW hbel hb4 HB3 HX
                  go_wp2_with fail
                  have HP0 : Hid (sm = sm + partS den k m n (wOf cs) v 0) := Lib.hid rfl
                  go_loopw [15, 21] (fun sv jv wr => ∃ s2 j : Nat, sv = .int .u64 (s2 : Int) ∧ jv = .int .i64 (j : Int) ∧ j ≤ q ∧ Hid (s2 = sm + partS den k m n (wOf cs) v j) ∧ Hid (Below w.heap.size w wr ∧ Kp wr T q (closeL k m (mkV (wOf cs) m v n)))) (fun _ jv _ => q - (intOf jv).toNat)
                  case atStart => exact ⟨sm, 0, rfl, rfl, by omega, HP0, HO5⟩
                  case round =>
                    obtain ⟨s2, j, rfl, rfl, hj, HP, HO6⟩ := hrel
                    by_cases hjq : j < q
                    · clear HO5 HP0
                      have hlen := HCL.out v
                      obtain ⟨p1, p2, p3, p4, p5⟩ := told_ok (den := den) (k := k) (n := n) (v := v) (W := wOf cs) hm15 (fun i _ => (wOf_le cs i).2) HDV.out (by rw [hlen]; exact hjq)
                      have hpl := partS_le (den := den) (k := k) (n := n) (v := v) (j := j + 1) (W := wOf cs) hm15 (fun i _ => (wOf_le cs i).2) HDV.out hden60 hn4 (by rw [hlen]; exact hjq)
                      have hps : partS den k m n (wOf cs) v (j + 1) = partS den k m n (wOf cs) v j + den / (at_ (closeL k m (mkV (wOf cs) m v n)) j).d * (at_ (closeL k m (mkV (wOf cs) m v n)) j).w := rfl
                      obtain ⟨k1, k2, k3⟩ := HO6.out.2.cell hjq
                      obtain ⟨⟨p, nu, D⟩, hat⟩ : ∃ t, at_ (closeL k m (mkV (wOf cs) m v n)) j = t := ⟨_, rfl⟩
                      rw [hat] at p1 p2 p3 p4 p5 k1 k2 k3 hps
                      simp only at p1 p2 p3 p4 p5 k1 k2 k3 hps
                      obtain ⟨b, off, rfl, hb, hcell⟩ := HC.out (by have := HN.out; omega)
                      obtain ⟨x, hx⟩ : ∃ x, (cs.getD p 0).toNat = x := ⟨_, rfl⟩
                      obtain ⟨r, hr⟩ : ∃ r, x % 30 = r := ⟨_, rfl⟩
                      obtain ⟨⟨hx255, hr29, hw, hr1, hr2⟩, hF⟩ := byte_at hcell hb p1 HN.out hx hr
                      have f1 := hF _ HO6.out.1
                      obtain ⟨x1, hx1, hx2⟩ : ∃ x1 : Nat, (r : Int) + 1 = (x1 : Int) ∧ x1 = r + 1 := ⟨r + 1, by simp, rfl⟩
                      rw [hw, ← hx2] at p4
                      obtain ⟨pd, hpd⟩ : ∃ pd, x1 * D = pd := ⟨_, rfl⟩
                      have e1 : (x1 : Int) * (D : Int) = (pd : Int) := by rw [← hpd]; simp
                      rw [hpd] at p4
                      have hD60 : D ≤ 60 := Nat.le_trans (Nat.le_of_dvd (by omega) p3) hden60
                      have e2 : (den : Int) % (D : Int) = 0 := by
                        have := Nat.mod_eq_zero_of_dvd p3
                        omega
                      have e2t : (den : Int).tmod (D : Int) = 0 := by rw [Int.tmod_eq_emod_of_nonneg (by omega)]; exact e2
                      obtain ⟨qd, hqd⟩ : ∃ qd, den / D = qd := ⟨_, rfl⟩
                      have e3 : (den : Int) / (D : Int) = (qd : Int) := by rw [← hqd]; simp
                      have e3t : (den : Int).tdiv (D : Int) = (qd : Int) := by rw [Int.tdiv_eq_ediv_of_nonneg (by omega)]; exact e3
                      have hqdl : qd ≤ 60 := by rw [← hqd]; exact Nat.le_trans (Nat.div_le_self _ _) hden60
                      obtain ⟨tm, htm⟩ : ∃ tm, qd * nu = tm := ⟨_, rfl⟩
                      have e4 : (qd : Int) * (nu : Int) = (tm : Int) := by rw [← htm]; simp
                      rw [hqd, htm] at hps
                      have html : tm ≤ 9000 := by rw [← htm]; exact Nat.mul_le_mul hqdl p5
                      obtain ⟨s3, hs3, hs32⟩ : ∃ s3 : Nat, (s2 : Int) + (tm : Int) = (s3 : Int) ∧ s3 = s2 + tm := ⟨s2 + tm, by simp, rfl⟩
                      have HP1 : Hid (s3 = sm + partS den k m n (wOf cs) v (j + 1)) := Lib.hid (by rw [hs32, HP.out, hps]; omega)
                      have hs3l : s3 ≤ 22536000 := by have := HP1.out; omega
                      have hs2l : s2 ≤ 22536000 := by omega
                      have a1 : ((D : Int) == 0) = false := by simp; omega
                      have a1' : decide ((D : Int) = 0) = false := by simp; omega
                      have a1'' : ¬ D = 0 := by omega
                      have a2 : decide ((p : Int) < 0) = false := by simp
                      have a3 : decide ((n : Int) ≤ (p : Int)) = false := by simp; omega
                      have a3' : decide (n ≤ p) = false := by simp; omega
                      have a4 : decide ((nu : Int) < (pd : Int)) = false := by simp; omega
                      have a4' : decide (nu < pd) = false := by simp; omega
                      have hpN : p < N := by omega
                      have wr0 : IntKind.u64.wrap (r : Int) = (r : Int) := by rw [IntKind.wrap_u64]; omega
                      have wr8 : IntKind.u8.wrap (r : Int) = (r : Int) := by rw [IntKind.wrap_u8]; omega
                      have wx1 : IntKind.u64.wrap (x1 : Int) = (x1 : Int) := by rw [IntKind.wrap_u64]; omega
                      have wpd : IntKind.u64.wrap (pd : Int) = (pd : Int) := by rw [IntKind.wrap_u64]; omega
                      have wqd : IntKind.u64.wrap (qd : Int) = (qd : Int) := by rw [IntKind.wrap_u64]; omega
                      have wtm : IntKind.u64.wrap (tm : Int) = (tm : Int) := by rw [IntKind.wrap_u64]; omega
                      have ws3 : IntKind.u64.wrap (s3 : Int) = (s3 : Int) := by rw [IntKind.wrap_u64]; omega
                      have t6 : decide ((j : Int) < (q : Int)) = true := by simp; omega
                      clear p2 p3 hat hlen hpl hps hx hr hw hF hcell hx2 hpd hqd htm hs32 HP
                      go_wp2_with fail
                      go_quiet (fail)
                      have HO7 : Hid (Below w.heap.size w (wr.drewN nq) ∧ Kp (wr.drewN nq) T q (closeL k m (mkV (wOf cs) m v n))) := Lib.hid ⟨draws HO6.out.1 _, HO6.out.2.mut (Mut.drewN (Mut.refl [] wr) nq) (by simp)⟩
                      have k2' : (wr.drewN nq).cell? ⟨T, j * 3 + 1, none⟩ = some (.int .u64 (nu : Int)) := k2
                      have k3' : (wr.drewN nq).cell? ⟨T, j * 3 + 2, none⟩ = some (.int .u64 (D : Int)) := k3
                      clear f1 k1 k2 k3 HO6
                      generalize wr.drewN nq = w6 at HO7 k2' k3' ⊢
                      go_wp2_with fail
                      go_quiet (fail)
                      have HO8 : Hid (Below w.heap.size w (w6.drewN nq) ∧ Kp (w6.drewN nq) T q (closeL k m (mkV (wOf cs) m v n))) := Lib.hid ⟨draws HO7.out.1 _, HO7.out.2.mut (Mut.drewN (Mut.refl [] w6) nq) (by simp)⟩
                      clear k2' k3' HO7
                      go_wp2_with fail
                      go_roundw
                      case rel => exact ⟨s3, j + 1, rfl, by simp, by omega, HP1, HO8⟩
                      case measure => simp [intOf]; omega
                    · have hje : j = q := by omega
                      subst hje
                      have hlen := HCL.out v
                      have hnew : sumN (v + 1) (tot den k m n (wOf cs)) = s2 := by
                        rw [sumN, HSM.out, HP.out, ← hlen]
                        rfl
                      have hs2l : s2 ≤ 22500000 := by
                        rw [← hnew]
                        exact sum_le hm15 (fun i _ => (wOf_le cs i).2) HDV.out hden60 hn4 (by omega)
                      have HNW := Lib.hid hnew
                      have HB7 := Lib.hid HO6.out.1
                      clear hnew hlen HP HP0 HO5 HO6 hjq
                      go_wp2_with fail
                      go_roundw
                      case rel => exact ⟨s2, v + 1, rfl, by simp, by omega, hs2l, HNW, HB7⟩
                      case measure => simp [intOf]; omega
            · have hve : y = v := by omega
              subst hve
              obtain ⟨ay, hay⟩ : ∃ ay, a * y = ay := ⟨_, rfl⟩
              have e1 : (a : Int) * (y : Int) = (ay : Int) := by rw [← hay]; simp
              have hayl : ay ≤ 75000 := by rw [← hay]; exact Nat.mul_le_mul ha120 hy
              obtain ⟨av, hav⟩ : ∃ av, ay * den = av := ⟨_, rfl⟩
              have e2 : (ay : Int) * (den : Int) = (av : Int) := by rw [← hav]; simp
              have havl : av ≤ 4500000 := by rw [← hav]; exact Nat.mul_le_mul hayl hden60
              have hle := HME.out
              rw [HA.out, HY.out, hay, hav, HSM.out] at hle
              have hfe := HFE.out
              rw [HA.out, HY.out, hay, hav, HSM.out] at hfe
              have t4 : decide ((y : Int) < (y : Int)) = false := by simp
              have t5 : decide ((sm : Int) ≤ (av : Int)) = true := by simp; omega
              have t5' : decide (sm ≤ av) = true := by simp; omega
              by_cases hkn : k < n
              · have t6 : decide ((k : Int) < (n : Int)) = true := by simp; omega
                have t6' : decide (k < n) = true := by simp; omega
                clear hay hav hle hfe HB2 hvy
                go_wp2_with fail
                go_ret
                exact ⟨rfl, HB3.out⟩
              · have t6 : decide ((k : Int) < (n : Int)) = false := by simp; omega
                have t6' : decide (k < n) = false := by simp; omega
                obtain rfl : sm = av := hfe (by omega)
                clear hay hav hle hfe HB2 hvy
                go_wp2_with fail
                go_ret
                exact ⟨by simp, HB3.out⟩
namespace PrioMean
set_option linter.unusedSimpArgs false in
set_option maxRecDepth 100000 in
theorem lifted (os : Os) (started : os.Started) (H : Type) (enc : TypeId × Value → H) :
    ReturnsInHanded {} Try.checked os 8 .any (Rows.prioMeanSpec.pre6 enc Try.prog Try.f8 Rows.prioMeanRow.domain false) (Rows.prioMeanSpec.post enc Try.prog Try.f8 false true false false) := by
  refine returnsInHanded_of_change (C := Try.checked) own started (by kernel_rfl) Try.func8
    (ChangeSpec.witness6 (enc := enc) (C := Try.checked) false ⟨#[], #[.slice none 0 0, .int .u8 0, .int .u8 0], []⟩ 8 (by kernel_rfl) (by kernel_rfl) (by kernel_rfl) (by kernel_rfl)) ?_
  intro W base args ds gs before hval0 hW _ _
  have hval : ∀ (j : Nat) t v, Try.f8.params[j]? = some t → args[j]? = some v → Value.okWide Try.prog W .any base t v := hval0
  have hW' := hW
  obtain ⟨p, q, hA0, hV, rfl, _, _⟩ := hW
  have hA : DataW.TrodAll enc Try.prog W 0 (fun _ => true) true Try.f8.params.toList args.toList ds p := hA0
  rw [Try.params8] at hA hval
  obtain ⟨v0, vs0, d0, ds0, p0, q0, hargs, rfl, rfl, h0, r0⟩ := trodAll_cons hA
  obtain ⟨v1, vs1, d1, ds1, p1, q1, rfl, rfl, rfl, h1, r1⟩ := trodAll_cons r0
  obtain ⟨v2, vs2, d2, ds2, p2, q2, rfl, rfl, rfl, h2, r2⟩ := trodAll_cons r1
  obtain ⟨rfl, rfl, rfl⟩ := trodAll_nil r2
  obtain rfl : args = #[v0, v1, v2] := by cases args; simp_all
  obtain ⟨rfl, rfl⟩ := trodVars_none hV
  obtain ⟨A0, cs0, cap0, rfl, l0, m0, b0, again0⟩ := arg_bytes (hval 0 46 v0 rfl rfl) h0
  have x0 := arg_extra h0
  obtain ⟨a1, rfl, rfl, rfl, w1⟩ := open_int Try.underlying5 (hval 1 5 v1 rfl rfl) h1
  have k1 := wf_u8 w1
  obtain ⟨n1, rfl⟩ : ∃ u : UInt8, a1 = (u.toNat : Int) := ⟨UInt8.ofNat a1.toNat, by simp; omega⟩
  obtain ⟨a2, rfl, rfl, rfl, w2⟩ := open_int Try.underlying5 (hval 2 5 v2 rfl rfl) h2
  have k2 := wf_u8 w2
  obtain ⟨n2, rfl⟩ : ∃ u : UInt8, a2 = (u.toNat : Int) := ⟨UInt8.ofNat a2.toNat, by simp; omega⟩
  clear hA0 hval0
  simp only [List.append_nil] at hW'
  refine (prioMean_walk A0 cs0 cap0 n1 n2 W b0 l0 m0).mono fun e W' ⟨he, hg⟩ => ?_
  subst he
  exact ⟨_, rfl, true_last hW' rfl (by kernel_rfl) Try.underlying4 rfl rfl rfl (of_decide_eq_true (by kernel_rfl)) hg⟩

/-- **PrioMean, at every input.** -/
theorem proved : Rows.PrioMeanSaid :=
  OpenClaim.holds_of_wide 8 Try.f8 rfl rfl rfl rfl rfl rfl rfl ⟨rfl, rfl, rfl, rfl, rfl⟩ rfl rfl rfl rfl rfl (by kernel_rfl) Try.func8 (by kernel_rfl)
    (of_decide_eq_true (by kernel_rfl)) (by unfold Func.isWrapper; first | (rw [if_pos (by decide +kernel)]; kernel_rfl) | (rw [if_neg (by decide +kernel)]; exact ⟨rfl, rfl⟩))
    (fun os started H enc _ => lifted os started H enc)
end PrioMean

end Go.Proofs.Ytbjpfafohaebpaa
