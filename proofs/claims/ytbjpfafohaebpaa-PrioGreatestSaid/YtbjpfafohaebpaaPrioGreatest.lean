/-
  Proved: PrioGreatest returns true for every list of offers, every number kept and every number of draws: of those that are not kept none is above one that is. No condition.
-/
import Derived.Deep.RegionHeld
import Derived.Test.YtbjpfafohaebpaaPrMarks
namespace Go.Proofs.Ytbjpfafohaebpaa
open Go.ChangeShapes Go.WideShapes Go.ChangeAt Go.RowKit Go.Proofs.PrioMath

/-- What Close told, beside the marks. -/
def Gr (w W : World) (T q I n : Nat) (out : List Of) (i : Nat) : Prop := Below w.heap.size w W ∧ Kp W T q out ∧ Mk W I n (th out i) ∧ w.heap.size ≤ I ∧ T ≠ I
theorem Gr.drewN {w W : World} {T q I n i : Nat} {out : List Of} (h : Gr w W T q I n out i) (x : Nat) : Gr w (W.drewN x) T q I n out i :=
  ⟨draws h.1 x, h.2.1.mut (Mut.drewN (Mut.refl [] W) x) (by simp), h.2.2.1.drewN x, h.2.2.2⟩
theorem Gr.set {w W : World} {T q I n i p : Nat} {out : List Of} (h : Gr w W T q I n out i) (hi : i < out.length) (hp : (at_ out i).p = p) (hpn : p < n) : Gr w (W.setCell ⟨I, p, none⟩ (.int .i64 1)) T q I n out (i + 1) := by
  have hm : Mut [I] W (W.setCell ⟨I, p, none⟩ (.int .i64 1)) := (Mut.refl _ _).setCell (by simp) _
  refine ⟨h.1.trans (hm.below h.1.size (fun x hx => by rw [List.mem_singleton.1 hx]; exact h.2.2.2.1)), h.2.1.mut hm (by simpa using h.2.2.2.2), ?_, h.2.2.2⟩
  exact h.2.2.1.set hpn (b := true) (by rw [th_next hi, hp]; simp) (fun j hj => by rw [th_next hi, hp]; simp [Ne.symm hj])

set_option linter.unusedSimpArgs false in
set_option maxRecDepth 100000 in
set_option maxHeartbeats 4000000 in
theorem prioGreatest_walk (A : Option Addr) (l : List Oa) (cap : Nat) (c : UInt8) (m : Nat) (w : World) (hC : Ofs w.heap.size w A l) (_hcap : l.length ≤ cap) (_hc2 : cap ≤ 9223372036854775807) (hm : m < 18446744073709551616) :
    Calls Try.prog 9 #[.slice A l.length cap, .int .u8 (c.toNat : Int), .int .u64 (m : Int)] w fun e w' => e = .returned (.bool true) ∧ Below w.heap.size w w' := by
  have hc8 := c.toNat_lt
  obtain ⟨mo, hmo⟩ : ∃ x, c.toNat = x := ⟨_, rfl⟩
  rw [hmo] at hc8 ⊢
  clear hmo
  have HK := Lib.hid (fun W => known_any W)
  have HC := Lib.hid hC
  obtain ⟨n, hn⟩ : ∃ n, l.length = n := ⟨_, rfl⟩
  have HN := Lib.hid hn
  rw [hn]
  clear hC hn
  obtain ⟨k8, hk8, hk82⟩ : ∃ k : Nat, (mo : Int) % 8 = (k : Int) ∧ k < 8 := ⟨mo % 8, by omega, by omega⟩
  have hk8t : (mo : Int).tmod 8 = (k8 : Int) := by rw [Int.tmod_eq_emod_of_nonneg (by omega)]; exact hk8
  obtain ⟨kk, hkk, hkk2⟩ : ∃ k : Nat, (1 : Int) + (k8 : Int) = (k : Int) ∧ k = 1 + k8 := ⟨1 + k8, by simp, rfl⟩
  have hNew := own_new kk m w (by omega) (by omega) hm
  have HNew := Lib.hid hNew
  have hpl := mk_pl m l n
  have hol := mk_len m l n
  obtain ⟨q, hq⟩ : ∃ q, (closeL kk m (mkO m l n)).length = q := ⟨_, rfl⟩
  have hqm : q = min n kk := by rw [← hq, kept_pl hpl, hol]
  have hqi : min (n : Int) (kk : Int) = (q : Int) := by omega
  have hqi2 : (if (kk : Int) < (n : Int) then (kk : Int) else (n : Int)) = (q : Int) := by split <;> omega
  have hqn : q ≤ n := by omega
  have HQ := Lib.hid hq
  have HPL := Lib.hid (show Pl (mkO m l n) ∧ (mkO m l n).length = n from ⟨hpl, hol⟩)
  clear hNew hkk2 hq hpl hol hqm
  by_cases h60 : 60 < n
  · have t2 : decide ((60 : Int) < (n : Int)) = true := by simp; omega
    clear h60
    go_enter Try.func9, Try.ntmps9
    go_wp2_with fail
    refine HNew.out.mono ?_
    rintro e w1 ⟨S, bs, rfl, HO⟩
    go_wp2_with fail
    refine (HK.out _).mono ?_
    rintro e w2 ⟨rfl, hb⟩
    have HB := Lib.hid (HO.out.later hb).2.1
    clear hb
    go_wp2_with fail
    go_ret
    exact ⟨rfl, HB.out⟩
  have t2 : decide ((60 : Int) < (n : Int)) = false := by simp; omega
  have hn60 : n ≤ 60 := by omega
  clear h60
  go_enter Try.func9, Try.ntmps9
  go_wp2_with fail
  refine HNew.out.mono ?_
  rintro e w1 ⟨S, bs, rfl, HO⟩
  go_wp2_with fail
  refine (HK.out _).mono ?_
  rintro e w2 ⟨rfl, hb⟩
  have HO1 : Hid (Of_ w w2 S kk m (mkO m l 0)) := Lib.hid ⟨bs, HO.out.later hb⟩
  clear HO HNew hb
  go_wp2_with fail
  go_loopw [8] (fun iv wr => ∃ i : Nat, iv = .int .i64 (i : Int) ∧ i ≤ n ∧ Hid (Of_ w wr S kk m (mkO m l i))) (fun iv _ => n - (intOf iv).toNat)
  case atStart => exact ⟨0, rfl, by omega, HO1⟩
  case round =>
    obtain ⟨i, rfl, hi, HO⟩ := hrel
    by_cases hin : i < n
    · clear HO1
      obtain ⟨g, off, rfl, hg, hcell⟩ := HC.out (by rw [HN.out]; omega)
      obtain ⟨x, hx⟩ : ∃ x, (l.getD i (0, 0)).1 = x := ⟨_, rfl⟩
      obtain ⟨d, hd⟩ : ∃ x, (l.getD i (0, 0)).2 = x := ⟨_, rfl⟩
      obtain ⟨⟨hxl, hdl⟩, hF⟩ := ofs_at hcell hg hin HN.out hx hd
      obtain ⟨x1, hx1, hx2⟩ : ∃ x1 : Nat, (x : Int) + 1 = (x1 : Int) ∧ x1 = x + 1 := ⟨x + 1, by simp, rfl⟩
      have wx0 : IntKind.u64.wrap (x : Int) = (x : Int) := by rw [IntKind.wrap_u64]; omega
      have wd0 : IntKind.u64.wrap (d : Int) = (d : Int) := by rw [IntKind.wrap_u64]; omega
      have wx1 : IntKind.u64.wrap (x1 : Int) = (x1 : Int) := by rw [IntKind.wrap_u64]; omega
      have HF := Lib.hid hF
      have hdw : Below wr.heap.size wr wr.drew := (Below.refl _ wr).drew
      have hA := of_add (HO.out.later hdw) hx hd hx2 hxl hdl (by omega)
      have HA := Lib.hid hA
      have hB0 : Below w.heap.size w wr.drew := (HO.out.later hdw).below
      have t1 : decide ((i : Int) < (n : Int)) = true := by simp; omega
      clear hx hd hcell hF hA hx2
      go_wp2_with fail
      refine wp_region_held_drew (S := fun W => Below w.heap.size w W) (by kernel_rfl) ?_ (fun hHeld => ?_)
      · exact hB0
      refine wpAnyH_take (i := 0) (v := ?_) rfl (by kernel_rfl) (by kernel_rfl) (by kernel_rfl) (fun _ _ _ h => h) (Or.inl ⟨by rfl, ?_⟩) (by assumption) ?_
      rotate_left
      · intro wq hSw; (try dsimp only at hSw); go_simp; (try with_reducible rfl)
      simp only [Act.put, List.getElem_toArray, List.getElem_cons_succ, List.getElem_cons_zero, List.setIfInBounds_toArray, List.set_cons_zero, List.set_cons_succ]
      refine wpAnyH_take (i := 1) (v := ?_) rfl (by kernel_rfl) (by kernel_rfl) (by kernel_rfl) (fun _ _ _ h => h) (Or.inl ⟨by rfl, ?_⟩) (by assumption) ?_
      rotate_left
      · intro wq hSw; (try dsimp only at hSw); go_simp; (try with_reducible rfl)
      simp only [Act.put, List.getElem_toArray, List.getElem_cons_succ, List.getElem_cons_zero, List.setIfInBounds_toArray, List.set_cons_zero, List.set_cons_succ]
      refine wpAnyH_take (i := 2) (v := ?_) rfl (by kernel_rfl) (by kernel_rfl) (by kernel_rfl) (fun _ _ _ h => h) (Or.inl ⟨by rfl, ?_⟩) (by assumption) ?_
      rotate_left
      · intro wq hSw; (try dsimp only at hSw); go_simp; (try with_reducible rfl)
      simp only [Act.put, List.getElem_toArray, List.getElem_cons_succ, List.getElem_cons_zero, List.setIfInBounds_toArray, List.set_cons_zero, List.set_cons_succ]
      refine wpAnyH_take (i := 3) (v := ?_) rfl (by kernel_rfl) (by kernel_rfl) (by kernel_rfl) (fun _ _ _ h => h) (Or.inl ⟨by rfl, ?_⟩) (by assumption) ?_
      rotate_left
      · intro wq hSw; (try dsimp only at hSw); go_simp; (try with_reducible rfl)
      simp only [Act.put, List.getElem_toArray, List.getElem_cons_succ, List.getElem_cons_zero, List.setIfInBounds_toArray, List.set_cons_zero, List.set_cons_succ]
      refine wpAnyH_take (i := 4) (v := ?_) rfl (by kernel_rfl) (by kernel_rfl) (by kernel_rfl) (fun _ _ _ h => h) (Or.inl ⟨by rfl, ?_⟩) (by assumption) ?_
      rotate_left
      · intro wq hSw; (try dsimp only at hSw); go_simp; (try with_reducible rfl)
      simp only [Act.put, List.getElem_toArray, List.getElem_cons_succ, List.getElem_cons_zero, List.setIfInBounds_toArray, List.set_cons_zero, List.set_cons_succ]
      refine wpAnyH_take (i := 5) (v := ?_) rfl (by kernel_rfl) (by kernel_rfl) (by kernel_rfl) (fun _ _ _ h => h) (Or.inl ⟨by rfl, ?_⟩) (by assumption) ?_
      rotate_left
      · intro wq hSw; (try dsimp only at hSw); obtain ⟨c1, c2⟩ := HF.out _ hSw; go_simp; (try with_reducible rfl)
      simp only [Act.put, List.getElem_toArray, List.getElem_cons_succ, List.getElem_cons_zero, List.setIfInBounds_toArray, List.set_cons_zero, List.set_cons_succ]
      refine wpAnyH_take (i := 6) (v := ?_) rfl (by kernel_rfl) (by kernel_rfl) (by kernel_rfl) (fun _ _ _ h => h) (Or.inl ⟨by rfl, ?_⟩) (by assumption) ?_
      rotate_left
      · intro wq hSw; (try dsimp only at hSw); go_simp; (try with_reducible rfl)
      simp only [Act.put, List.getElem_toArray, List.getElem_cons_succ, List.getElem_cons_zero, List.setIfInBounds_toArray, List.set_cons_zero, List.set_cons_succ]
      refine wpAnyH_take (i := 7) (v := ?_) rfl (by kernel_rfl) (by kernel_rfl) (by kernel_rfl) (fun _ _ _ h => h) (Or.inl ⟨by rfl, ?_⟩) (by assumption) ?_
      rotate_left
      · intro wq hSw; (try dsimp only at hSw); go_simp; (try with_reducible rfl)
      simp only [Act.put, List.getElem_toArray, List.getElem_cons_succ, List.getElem_cons_zero, List.setIfInBounds_toArray, List.set_cons_zero, List.set_cons_succ]
      refine wpAnyH_take (i := 8) (v := ?_) rfl (by kernel_rfl) (by kernel_rfl) (by kernel_rfl) (fun _ _ _ h => h) (Or.inl ⟨by rfl, ?_⟩) (by assumption) ?_
      rotate_left
      · intro wq hSw; (try dsimp only at hSw); go_simp; (try with_reducible rfl)
      simp only [Act.put, List.getElem_toArray, List.getElem_cons_succ, List.getElem_cons_zero, List.setIfInBounds_toArray, List.set_cons_zero, List.set_cons_succ]
      refine wpAnyH_take (i := 9) (v := ?_) rfl (by kernel_rfl) (by kernel_rfl) (by kernel_rfl) (fun _ _ _ h => h) (Or.inl ⟨by rfl, ?_⟩) (by assumption) ?_
      rotate_left
      · intro wq hSw; (try dsimp only at hSw); go_simp; (try with_reducible rfl)
      simp only [Act.put, List.getElem_toArray, List.getElem_cons_succ, List.getElem_cons_zero, List.setIfInBounds_toArray, List.set_cons_zero, List.set_cons_succ]
      refine wpAnyH_take (i := 10) (v := ?_) rfl (by kernel_rfl) (by kernel_rfl) (by kernel_rfl) (fun _ _ _ h => h) (Or.inl ⟨by rfl, ?_⟩) (by assumption) ?_
      rotate_left
      · intro wq hSw; (try dsimp only at hSw); go_simp; (try with_reducible rfl)
      simp only [Act.put, List.getElem_toArray, List.getElem_cons_succ, List.getElem_cons_zero, List.setIfInBounds_toArray, List.set_cons_zero, List.set_cons_succ]
      refine wpAnyH_take (i := 11) (v := ?_) rfl (by kernel_rfl) (by kernel_rfl) (by kernel_rfl) (fun _ _ _ h => h) (Or.inl ⟨by rfl, ?_⟩) (by assumption) ?_
      rotate_left
      · intro wq hSw; (try dsimp only at hSw); go_simp; (try with_reducible rfl)
      simp only [Act.put, List.getElem_toArray, List.getElem_cons_succ, List.getElem_cons_zero, List.setIfInBounds_toArray, List.set_cons_zero, List.set_cons_succ]
      refine wpAnyH_take (i := 12) (v := ?_) rfl (by kernel_rfl) (by kernel_rfl) (by kernel_rfl) (fun _ _ _ h => h) (Or.inl ⟨by rfl, ?_⟩) (by assumption) ?_
      rotate_left
      · intro wq hSw; (try dsimp only at hSw); obtain ⟨c1, c2⟩ := HF.out _ hSw; go_simp; (try with_reducible rfl)
      simp only [Act.put, List.getElem_toArray, List.getElem_cons_succ, List.getElem_cons_zero, List.setIfInBounds_toArray, List.set_cons_zero, List.set_cons_succ]
      refine wpAnyH_take (i := 13) (v := ?_) rfl (by kernel_rfl) (by kernel_rfl) (by kernel_rfl) (fun _ _ _ h => h) (Or.inl ⟨by rfl, ?_⟩) (by assumption) ?_
      rotate_left
      · intro wq hSw; (try dsimp only at hSw); go_simp; (try with_reducible rfl)
      simp only [Act.put, List.getElem_toArray, List.getElem_cons_succ, List.getElem_cons_zero, List.setIfInBounds_toArray, List.set_cons_zero, List.set_cons_succ]
      refine wpAnyH_ready (rs := [14]) (by kernel_rfl) (by simp) ?_
      refine AllReadyH.cons rfl (fun K hK => ?_) AllReadyH.nil
      go_simp
      refine HA.out.mono ?_
      rintro e w2 ⟨rfl, HO2⟩
      have hb2 := HO2.out.below
      (try go_wp2_with fail)
      refine hK.out _ _ ?_ (fun hHeld => ?_)
      · exact hb2
      clear hK K
      try simp only [Act.put, List.getElem_toArray, List.getElem_cons_succ, List.getElem_cons_zero, List.setIfInBounds_toArray, List.set_cons_zero, List.set_cons_succ]
      refine wpAnyH_done (by kernel_rfl) ?_ _
      clear hHeld
      clear hB0
      go_wp2_with fail
      go_roundw
      case rel => exact ⟨i + 1, by simp, by omega, HO2⟩
      case measure => simp [intOf]; omega
    · have hie : n = i := by omega
      subst hie
      have hClose := of_close HO.out (by rw [mk_len]; omega) HQ.out
      have HClose := Lib.hid hClose
      have t3 : decide ((n : Int) < (n : Int)) = false := by simp
      clear hClose HO1 hin
      go_wp2_with fail
      refine HClose.out.mono ?_
      rintro e w3 ⟨T, rfl, HO2⟩
      have hmk := make_ints n (by omega) w3
      have hG : Gr w (w3.alloc (.cells (zeI n) 3)) T q w3.heap.size n (closeL kk m (mkO m l n)) 0 := by
        refine ⟨HO2.out.1.2.1.alloc HO2.out.1.2.1.size _, HO2.out.2.1.later (box_below _), (mk_new w3 n).congr fun j _ => (th_zero _ j).symm, HO2.out.1.2.1.size, ?_⟩
        have := HO2.out.2.1.lt
        omega
      obtain ⟨I, hI⟩ : ∃ I, w3.heap.size = I := ⟨_, rfl⟩
      rw [hI] at hmk hG
      have HG := Lib.hid hG
      clear HO2 HClose HO hG hI
      go_wp2_with fail
      clear hmk
      go_loopw [11] (fun iv wr => ∃ i : Nat, iv = .int .i64 (i : Int) ∧ i ≤ q ∧ Hid (Gr w wr T q I n (closeL kk m (mkO m l n)) i)) (fun iv _ => q - (intOf iv).toNat)
      case atStart => exact ⟨0, rfl, by omega, HG⟩
      case round =>
        obtain ⟨i, rfl, hi, HG2⟩ := hrel
        by_cases hiq : i < q
        · clear HG
          obtain ⟨k1, _, _⟩ := HG2.out.2.1.cell hiq
          have hpn := close_lt (k := kk) (m := m) HPL.out.1 (i := i) (by rw [HQ.out]; exact hiq)
          rw [HPL.out.2] at hpn
          have hfr := th_fresh (k := kk) (m := m) HPL.out.1 (i := i) (by rw [HQ.out]; exact hiq)
          have hset := fun W (h : Gr w W T q I n (closeL kk m (mkO m l n)) i) => h.set (by rw [HQ.out]; exact hiq) rfl hpn
          have hri : 0 < i → (at_ (closeL kk m (mkO m l n)) (i - 1)).p < (at_ (closeL kk m (mkO m l n)) i).p := fun h => close_rise HPL.out.1 (by omega) (by rw [HQ.out]; exact hiq)
          obtain ⟨p, hp⟩ : ∃ p, (at_ (closeL kk m (mkO m l n)) i).p = p := ⟨_, rfl⟩
          rw [hp] at k1 hpn hfr hset hri
          obtain ⟨m1, m2⟩ := HG2.out.2.2.1.2 p hpn
          rw [hfr] at m1
          have m1' : wr.cell? ⟨I, p, none⟩ = some (.int .i64 0) := m1
          have HS := Lib.hid hset
          have t4 : decide ((i : Int) < (q : Int)) = true := by simp; omega
          have t5 : decide ((p : Int) < 0) = false := by simp
          have t5' : ¬ (p : Int) < 0 := by omega
          have t6 : decide ((n : Int) ≤ (p : Int)) = false := by simp; omega
          have t6' : decide (n ≤ p) = false := by simp; omega
          have t6'' : ¬ n ≤ p := by omega
          clear hp hfr hset m1
          by_cases hi0 : i = 0
          · subst hi0
            have k1' : wr.cell? ⟨T, 0, none⟩ = some (.int .i64 (p : Int)) := by simpa using k1
            clear hri k1
            go_wp2_with fail
            go_quiet (fail)
            have HG3 := Lib.hid (HG2.out.drewN nq)
            have HS3 := Lib.hid (HS.out _ HG3.out)
            have k2 : (wr.drewN nq).cell? ⟨T, 0, none⟩ = some (.int .i64 (p : Int)) := k1'
            have m3 : (wr.drewN nq).cell? ⟨I, p, none⟩ = some (.int .i64 0) := m1'
            have m4 : (wr.drewN nq).frozen? ⟨I, p, none⟩ = false := m2
            clear k1' m1' m2 HG2 HS
            generalize wr.drewN nq = w5 at HG3 HS3 k2 m3 m4 ⊢
            go_wp2_with fail
            go_roundw
            case rel => exact ⟨1, by simp, by omega, HS3⟩
            case measure => simp [intOf]; omega
          · obtain ⟨i1, hi1, hi2⟩ : ∃ i1 : Nat, (i : Int) - 1 = (i1 : Int) ∧ i1 = i - 1 := ⟨i - 1, by omega, rfl⟩
            obtain ⟨k3, _, _⟩ := HG2.out.2.1.cell (i := i1) (by omega)
            have hri2 := hri (by omega)
            rw [← hi2] at hri2
            obtain ⟨p1, hp1⟩ : ∃ p, (at_ (closeL kk m (mkO m l n)) i1).p = p := ⟨_, rfl⟩
            rw [hp1] at k3 hri2
            have t7 : decide ((0 : Int) < (i : Int)) = true := by simp; omega
            have t7' : decide (0 < i) = true := by simp; omega
            have t8 : decide ((p : Int) ≤ (p1 : Int)) = false := by simp; omega
            have t8' : decide (p ≤ p1) = false := by simp; omega
            clear hri hp1 hi2 hi0
            go_wp2_with fail
            go_quiet (fail)
            have HG3 := Lib.hid (HG2.out.drewN nq)
            have HS3 := Lib.hid (HS.out _ HG3.out)
            have k2 : (wr.drewN nq).cell? ⟨T, i * 3, none⟩ = some (.int .i64 (p : Int)) := k1
            have m3 : (wr.drewN nq).cell? ⟨I, p, none⟩ = some (.int .i64 0) := m1'
            have m4 : (wr.drewN nq).frozen? ⟨I, p, none⟩ = false := m2
            clear k1 k3 m1' m2 HG2 HS
            generalize wr.drewN nq = w5 at HG3 HS3 k2 m3 m4 ⊢
            go_wp2_with fail
            go_roundw
            case rel => exact ⟨i + 1, by simp, by omega, HS3⟩
            case measure => simp [intOf]; omega
        · have hie : i = q := by omega
          subst hie
          have hall : ∀ W, Gr w W T i I n (closeL kk m (mkO m l n)) i → Below w.heap.size w W ∧ ∀ j, j < n → W.cell? ⟨I, j, none⟩ = some (.int .i64 (mk1 (decide (rank (mkO m l n) (at_ (mkO m l n) j) < kk)))) := fun W h => ⟨h.1, fun j hj => by
            have := (h.2.2.1.2 j hj).1
            rwa [← HQ.out, th_all (k := kk) (m := m) HPL.out.1 (by rw [HPL.out.2]; exact hj)] at this⟩
          have HAL := Lib.hid hall
          clear hall hiq HG
          go_wp2_with fail
          go_loopw [12] (fun iv wr => ∃ a : Nat, iv = .int .i64 (a : Int) ∧ a ≤ n ∧ Hid (Gr w wr T i I n (closeL kk m (mkO m l n)) i)) (fun iv _ => n - (intOf iv).toNat)
          case atStart => exact ⟨0, rfl, by omega, HG2⟩
          case round =>
            obtain ⟨a, rfl, ha, HG3⟩ := hrel
            by_cases han : a < n
            · clear HG2
              have t4 : decide ((a : Int) < (n : Int)) = true := by simp; omega
              go_wp2_with fail
              go_loopw [13] (fun jv wr => ∃ b : Nat, jv = .int .i64 (b : Int) ∧ b ≤ n ∧ Hid (Gr w wr T i I n (closeL kk m (mkO m l n)) i)) (fun jv _ => n - (intOf jv).toNat)
              case atStart => exact ⟨0, rfl, by omega, HG3⟩
              case round =>
                obtain ⟨b, rfl, hb, HG4⟩ := hrel
                by_cases hbn : b < n
                · clear HG3
                  have t5 : decide ((b : Int) < (n : Int)) = true := by simp; omega
                  obtain ⟨hbel, hmk⟩ := HAL.out _ HG4.out
                  have m1 := hmk a han
                  have m2 := hmk b hbn
                  by_cases ra : rank (mkO m l n) (at_ (mkO m l n) a) < kk
                  · rw [decide_eq_true ra] at m1
                    have m1' : wr.cell? ⟨I, a, none⟩ = some (.int .i64 1) := m1
                    clear m1 m2 ra hmk hbel
                    go_wp2_with fail
                    go_quiet (fail)
                    have HG5 := Lib.hid (HG4.out.drewN nq)
                    clear m1' HG4
                    go_wp2_with fail
                    go_roundw
                    case rel => exact ⟨b + 1, by simp, by omega, HG5⟩
                    case measure => simp [intOf]; omega
                  · rw [decide_eq_false ra] at m1
                    have m1' : wr.cell? ⟨I, a, none⟩ = some (.int .i64 0) := m1
                    by_cases rb : rank (mkO m l n) (at_ (mkO m l n) b) < kk
                    · rw [decide_eq_true rb] at m2
                      have m2' : wr.cell? ⟨I, b, none⟩ = some (.int .i64 1) := m2
                      have hno := not_over (by rw [HPL.out.2]; exact han) ra rb
                      rw [mk_at m l han, mk_at m l hbn] at hno
                      obtain ⟨g, off, rfl, hg, hcell⟩ := HC.out (by rw [HN.out]; omega)
                      obtain ⟨x, hx⟩ : ∃ x, (l.getD a (0, 0)).1 = x := ⟨_, rfl⟩
                      obtain ⟨d, hd⟩ : ∃ x, (l.getD a (0, 0)).2 = x := ⟨_, rfl⟩
                      obtain ⟨⟨hxl, hdl⟩, hF⟩ := ofs_at hcell hg han HN.out hx hd
                      obtain ⟨y, hy⟩ : ∃ x, (l.getD b (0, 0)).1 = x := ⟨_, rfl⟩
                      obtain ⟨e, he⟩ : ∃ x, (l.getD b (0, 0)).2 = x := ⟨_, rfl⟩
                      obtain ⟨⟨hyl, hel⟩, hF2⟩ := ofs_at hcell hg hbn HN.out hy he
                      rw [hx, hd, hy, he] at hno
                      obtain ⟨f1, f2⟩ := hF _ hbel
                      obtain ⟨f3, f4⟩ := hF2 _ hbel
                      obtain ⟨dw, hdw⟩ : ∃ f : Nat → Nat, ∀ c, c % dr m = f c := ⟨fun c => c % dr m, fun _ => rfl⟩
                      have hD := fun c (hc : c ≤ 255) W => drawn_any c m W hc hm
                      simp only [hdw] at hD hno
                      obtain ⟨x1, hx1, hx2⟩ : ∃ x1 : Nat, (x : Int) + 1 = (x1 : Int) ∧ x1 = x + 1 := ⟨x + 1, by simp, rfl⟩
                      obtain ⟨y1, hy1, hy2⟩ : ∃ x1 : Nat, (y : Int) + 1 = (x1 : Int) ∧ x1 = y + 1 := ⟨y + 1, by simp, rfl⟩
                      have wx0 : IntKind.u64.wrap (x : Int) = (x : Int) := by rw [IntKind.wrap_u64]; omega
                      have wx1 : IntKind.u64.wrap (x1 : Int) = (x1 : Int) := by rw [IntKind.wrap_u64]; omega
                      have wy0 : IntKind.u64.wrap (y : Int) = (y : Int) := by rw [IntKind.wrap_u64]; omega
                      have wy1 : IntKind.u64.wrap (y1 : Int) = (y1 : Int) := by rw [IntKind.wrap_u64]; omega
                      have hld : dw d < 18446744073709551616 := by rw [← hdw]; exact Nat.lt_of_le_of_lt (Nat.mod_le _ _) (by omega)
                      have hle : dw e < 18446744073709551616 := by rw [← hdw]; exact Nat.lt_of_le_of_lt (Nat.mod_le _ _) (by omega)
                      try simp only at hno
                      rw [← hx2, ← hy2] at hno
                      have hAb := fun W => refAbove_any x1 (dw d) y1 (dw e) W (by omega) hld (by omega) hle
                      rw [hno] at hAb
                      have HD := Lib.hid hD
                      have HAB := Lib.hid hAb
                      clear m1 m2 ra rb hmk hbel hno hx hd hy he hcell hF hF2 hD hx2 hy2 hdw hAb
                      go_wp2_with fail
                      go_quiet ((first | (go_at_call 19; exact quiet_left (HD.out _ (by assumption) _)) | (go_at_call 17; exact quiet_left (HAB.out _))))
                      have HG5 := Lib.hid (HG4.out.drewN nq)
                      clear m1' m2' HG4 f1 f2 f3 f4
                      go_wp2_with fail
                      go_roundw
                      case rel => exact ⟨b + 1, by simp, by omega, HG5⟩
                      case measure => simp [intOf]; omega
                    · rw [decide_eq_false rb] at m2
                      have m2' : wr.cell? ⟨I, b, none⟩ = some (.int .i64 0) := m2
                      clear m1 m2 ra rb hmk hbel
                      go_wp2_with fail
                      go_quiet (fail)
                      have HG5 := Lib.hid (HG4.out.drewN nq)
                      clear m1' m2' HG4
                      go_wp2_with fail
                      go_roundw
                      case rel => exact ⟨b + 1, by simp, by omega, HG5⟩
                      case measure => simp [intOf]; omega
                · have hbe : n = b := by omega
                  subst hbe
                  clear hbn HG3
                  go_wp2_with fail
                  go_roundw
                  case rel => exact ⟨a + 1, by simp, by omega, HG4⟩
                  case measure => simp [intOf]; omega
            · have hae : n = a := by omega
              subst hae
              have HB := Lib.hid HG3.out.1
              clear han HG2 HG3
              go_wp2_with fail
              go_ret
              exact ⟨rfl, HB.out⟩
namespace PrioGreatest
set_option linter.unusedSimpArgs false in
set_option maxRecDepth 100000 in
theorem lifted (os : Os) (started : os.Started) (H : Type) (enc : TypeId × Value → H) :
    ReturnsInHanded {} Try.checked os 9 .any (Rows.prioGreatestSpec.pre6 enc Try.prog Try.f9 Rows.prioGreatestRow.domain false) (Rows.prioGreatestSpec.post enc Try.prog Try.f9 false true false false) := by
  refine returnsInHanded_of_change (C := Try.checked) own started (by kernel_rfl) Try.func9
    (ChangeSpec.witness6 (enc := enc) (C := Try.checked) false ⟨#[], #[.slice none 0 0, .int .u8 0, .int .u64 0], []⟩ 8 (by kernel_rfl) (by kernel_rfl) (by kernel_rfl) (by kernel_rfl)) ?_
  intro W base args ds gs before hval0 hW _ _
  have hval : ∀ (j : Nat) t v, Try.f9.params[j]? = some t → args[j]? = some v → Value.okWide Try.prog W .any base t v := hval0
  have hW' := hW
  obtain ⟨p, q, hA0, hV, rfl, _, _⟩ := hW
  have hA : DataW.TrodAll enc Try.prog W 0 (fun _ => true) true Try.f9.params.toList args.toList ds p := hA0
  rw [Try.params9] at hA hval
  obtain ⟨v0, vs0, d0, ds0, p0, q0, hargs, rfl, rfl, h0, r0⟩ := trodAll_cons hA
  obtain ⟨v1, vs1, d1, ds1, p1, q1, rfl, rfl, rfl, h1, r1⟩ := trodAll_cons r0
  obtain ⟨v2, vs2, d2, ds2, p2, q2, rfl, rfl, rfl, h2, r2⟩ := trodAll_cons r1
  obtain ⟨rfl, rfl, rfl⟩ := trodAll_nil r2
  obtain rfl : args = #[v0, v1, v2] := by cases args; simp_all
  obtain ⟨rfl, rfl⟩ := trodVars_none hV
  obtain ⟨A0, cs0, cap0, rfl, l0, m0, b0⟩ := arg_offers (hval 0 35 v0 rfl rfl) h0
  obtain ⟨a1, rfl, rfl, rfl, w1⟩ := open_int Try.underlying5 (hval 1 5 v1 rfl rfl) h1
  have k1 := wf_u8 w1
  obtain ⟨n1, rfl⟩ : ∃ u : UInt8, a1 = (u.toNat : Int) := ⟨UInt8.ofNat a1.toNat, by simp; omega⟩
  obtain ⟨a2, rfl, rfl, rfl, w2⟩ := open_int Try.underlying24 (hval 2 24 v2 rfl rfl) h2
  have k2 := wf_u64 w2
  obtain ⟨n2, rfl⟩ : ∃ n : Nat, a2 = n := ⟨a2.toNat, by omega⟩
  clear hA0 hval0
  simp only [List.append_nil] at hW'
  refine (prioGreatest_walk A0 cs0 cap0 n1 n2 W b0 l0 m0 (by omega)).mono fun e W' ⟨he, hg⟩ => ?_
  subst he
  exact ⟨_, rfl, true_last hW' rfl (by kernel_rfl) Try.underlying4 rfl rfl rfl (of_decide_eq_true (by kernel_rfl)) hg⟩

/-- **PrioGreatest, at every input.** -/
theorem proved : Rows.PrioGreatestSaid :=
  OpenClaim.holds_of_wide 9 Try.f9 rfl rfl rfl rfl rfl rfl rfl ⟨rfl, rfl, rfl, rfl, rfl⟩ rfl rfl rfl rfl rfl (by kernel_rfl) Try.func9 (by kernel_rfl)
    (of_decide_eq_true (by kernel_rfl)) (by unfold Func.isWrapper; first | (rw [if_pos (by decide +kernel)]; kernel_rfl) | (rw [if_neg (by decide +kernel)]; exact ⟨rfl, rfl⟩))
    (fun os started H enc _ => lifted os started H enc)
end PrioGreatest

end Go.Proofs.Ytbjpfafohaebpaa
