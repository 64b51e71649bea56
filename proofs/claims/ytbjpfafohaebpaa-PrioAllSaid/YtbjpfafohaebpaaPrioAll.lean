/-
  Proved: PrioAll returns true for every list of offers, every number of draws and every number more: no more than are kept are all kept, each for its weight. No condition.
-/
import Derived.Deep.RegionHeld
import Derived.Test.YtbjpfafohaebpaaPrLaw
namespace Go.Proofs.Ytbjpfafohaebpaa
open Go.ChangeShapes Go.WideShapes Go.ChangeAt Go.RowKit Go.Proofs.PrioMath

set_option linter.unusedSimpArgs false in
set_option maxRecDepth 100000 in
set_option maxHeartbeats 2000000 in
theorem prioAll_walk (A : Option Addr) (l : List Oa) (cap m : Nat) (c : UInt8) (w : World) (hC : Ofs w.heap.size w A l) (hcap : l.length ≤ cap) (_hc2 : cap ≤ 9223372036854775807) (hm : m < 18446744073709551616) :
    Calls Try.prog 7 #[.slice A l.length cap, .int .u64 (m : Int), .int .u8 (c.toNat : Int)] w fun e w' => e = .returned (.bool true) ∧ Below w.heap.size w w' := by
  have hc8 := c.toNat_lt
  obtain ⟨mo, hmo⟩ : ∃ x, c.toNat = x := ⟨_, rfl⟩
  rw [hmo] at hc8 ⊢
  clear hmo
  have HK := Lib.hid (fun W => known_any W)
  have HC := Lib.hid hC
  obtain ⟨n, hn⟩ : ∃ n, l.length = n := ⟨_, rfl⟩
  have HN := Lib.hid hn
  rw [hn] at hcap ⊢
  clear hC hn
  have hend : Hid (∀ W W', Below w.heap.size w W → Below W.heap.size W W' → Below w.heap.size w W') := Lib.hid fun W W' h1 h2 => h1.trans (h2.mono h1.size)
  by_cases h0 : n = 0
  · have t1 : ((n : Int) == 0) = true := by simp; omega
    have t1' : decide ((n : Int) = 0) = true := by simp; omega
    clear h0
    go_enter Try.func7, Try.ntmps7
    go_wp2_with fail
    refine (HK.out _).mono ?_
    rintro e w1 ⟨rfl, hb⟩
    go_wp2_with fail
    go_ret
    exact ⟨rfl, hb⟩
  by_cases h60 : 60 < n
  · have t1 : ((n : Int) == 0) = false := by simp; omega
    have t2 : decide ((60 : Int) < (n : Int)) = true := by simp; omega
    clear h0 h60
    go_enter Try.func7, Try.ntmps7
    go_wp2_with fail
    refine (HK.out _).mono ?_
    rintro e w1 ⟨rfl, hb⟩
    go_wp2_with fail
    go_ret
    exact ⟨rfl, hb⟩
  have t1 : ((n : Int) == 0) = false := by simp; omega
  have t2 : decide ((60 : Int) < (n : Int)) = false := by simp; omega
  obtain ⟨kk, hkk, hkk2⟩ : ∃ k : Nat, (n : Int) + (mo : Int) = (k : Int) ∧ k = n + mo := ⟨n + mo, by simp, rfl⟩
  have hNew := own_new kk m w (by omega) (by omega) hm
  have HNew := Lib.hid hNew
  have hkn : n ≤ kk := by omega
  have hcl : (closeL kk m (mkO m l n)).length = n := by rw [kept_pl (mk_pl m l n), mk_len]; omega
  have hat : ∀ i, i < n → at_ (closeL kk m (mkO m l n)) i = ⟨i, (l.getD i (0, 0)).1 + 1, 1⟩ := fun i hi => by
    rw [close_few (mk_pl m l n) (by rw [mk_len]; exact hkn) (by rw [mk_len]; exact hi), mk_at m l hi]
  have HCL := Lib.hid hcl
  have HAT := Lib.hid hat
  have hn60 : n ≤ 60 := by omega
  clear hNew hkk2 hkn hcl hat h0 h60
  go_enter Try.func7, Try.ntmps7
  go_wp2_with fail
  refine HNew.out.mono ?_
  rintro e w1 ⟨S, bs, rfl, HO⟩
  have HO1 : Hid (Of_ w w1 S kk m (mkO m l 0)) := Lib.hid ⟨bs, HO.out⟩
  clear HO HNew
  go_wp2_with fail
  go_loopw [8] (fun iv wr => ∃ i : Nat, iv = .int .i64 (i : Int) ∧ i ≤ n ∧ Hid (Of_ w wr S kk m (mkO m l i))) (fun iv _ => n - (intOf iv).toNat)
  case atStart => exact ⟨0, rfl, by omega, HO1⟩
  case round =>
    obtain ⟨i, rfl, hi, HO⟩ := hrel
    by_cases hin : i < n
    · clear HO1
      obtain ⟨g, off, rfl, hg, hcell⟩ := HC.out (by rw [HN.out]; omega)
      obtain ⟨x, hx⟩ : ∃ x, (l.getD i (0, 0)).1 = x := ⟨_, rfl⟩
      obtain ⟨d, hd⟩ : ∃ x, (l.getD i (0, 0)).2 = x := ⟨_, rfl⟩
      obtain ⟨⟨hxl, hdl⟩, hF⟩ := ofs_at hcell hg hin HN.out hx hd
      obtain ⟨x1, hx1, hx2⟩ : ∃ x1 : Nat, (x : Int) + 1 = (x1 : Int) ∧ x1 = x + 1 := ⟨x + 1, by simp, rfl⟩
      have wx0 : IntKind.u64.wrap (x : Int) = (x : Int) := by rw [IntKind.wrap_u64]; omega
      have wd0 : IntKind.u64.wrap (d : Int) = (d : Int) := by rw [IntKind.wrap_u64]; omega
      have wx1 : IntKind.u64.wrap (x1 : Int) = (x1 : Int) := by rw [IntKind.wrap_u64]; omega
      have HF := Lib.hid hF
      have hdw : Below wr.heap.size wr wr.drew := (Below.refl _ wr).drew
      have hA := of_add (HO.out.later hdw) hx hd hx2 hxl hdl (by omega)
      have HA := Lib.hid hA
      have hB0 : Below w.heap.size w wr.drew := (HO.out.later hdw).below
      have t1 : decide ((i : Int) < (n : Int)) = true := by simp; omega
      clear hx hd hcell hF hA hx2
      go_wp2_with fail
      refine wp_region_held_drew (S := fun W => Below w.heap.size w W) (by kernel_rfl) ?_ (fun hHeld => ?_)
      · exact hB0
      refine wpAnyH_take (i := 0) (v := ?_) rfl (by kernel_rfl) (by kernel_rfl) (by kernel_rfl) (fun _ _ _ h => h) (Or.inl ⟨by rfl, ?_⟩) (by assumption) ?_
      rotate_left
      · intro wq hSw; (try dsimp only at hSw); go_simp; (try with_reducible rfl)
      simp only [Act.put, List.getElem_toArray, List.getElem_cons_succ, List.getElem_cons_zero, List.setIfInBounds_toArray, List.set_cons_zero, List.set_cons_succ]
      refine wpAnyH_take (i := 1) (v := ?_) rfl (by kernel_rfl) (by kernel_rfl) (by kernel_rfl) (fun _ _ _ h => h) (Or.inl ⟨by rfl, ?_⟩) (by assumption) ?_
      rotate_left
      · intro wq hSw; (try dsimp only at hSw); go_simp; (try with_reducible rfl)
      simp only [Act.put, List.getElem_toArray, List.getElem_cons_succ, List.getElem_cons_zero, List.setIfInBounds_toArray, List.set_cons_zero, List.set_cons_succ]
      refine wpAnyH_take (i := 2) (v := ?_) rfl (by kernel_rfl) (by kernel_rfl) (by kernel_rfl) (fun _ _ _ h => h) (Or.inl ⟨by rfl, ?_⟩) (by assumption) ?_
      rotate_left
      · intro wq hSw; (try dsimp only at hSw); go_simp; (try with_reducible rfl)
      simp only [Act.put, List.getElem_toArray, List.getElem_cons_succ, List.getElem_cons_zero, List.setIfInBounds_toArray, List.set_cons_zero, List.set_cons_succ]
      refine wpAnyH_take (i := 3) (v := ?_) rfl (by kernel_rfl) (by kernel_rfl) (by kernel_rfl) (fun _ _ _ h => h) (Or.inl ⟨by rfl, ?_⟩) (by assumption) ?_
      rotate_left
      · intro wq hSw; (try dsimp only at hSw); go_simp; (try with_reducible rfl)
      simp only [Act.put, List.getElem_toArray, List.getElem_cons_succ, List.getElem_cons_zero, List.setIfInBounds_toArray, List.set_cons_zero, List.set_cons_succ]
      refine wpAnyH_take (i := 4) (v := ?_) rfl (by kernel_rfl) (by kernel_rfl) (by kernel_rfl) (fun _ _ _ h => h) (Or.inl ⟨by rfl, ?_⟩) (by assumption) ?_
      rotate_left
      · intro wq hSw; (try dsimp only at hSw); go_simp; (try with_reducible rfl)
      simp only [Act.put, List.getElem_toArray, List.getElem_cons_succ, List.getElem_cons_zero, List.setIfInBounds_toArray, List.set_cons_zero, List.set_cons_succ]
      refine wpAnyH_take (i := 5) (v := ?_) rfl (by kernel_rfl) (by kernel_rfl) (by kernel_rfl) (fun _ _ _ h => h) (Or.inl ⟨by rfl, ?_⟩) (by assumption) ?_
      rotate_left
      · intro wq hSw; (try dsimp only at hSw); obtain ⟨c1, c2⟩ := HF.out _ hSw; go_simp; (try with_reducible rfl)
      simp only [Act.put, List.getElem_toArray, List.getElem_cons_succ, List.getElem_cons_zero, List.setIfInBounds_toArray, List.set_cons_zero, List.set_cons_succ]
      refine wpAnyH_take (i := 6) (v := ?_) rfl (by kernel_rfl) (by kernel_rfl) (by kernel_rfl) (fun _ _ _ h => h) (Or.inl ⟨by rfl, ?_⟩) (by assumption) ?_
      rotate_left
      · intro wq hSw; (try dsimp only at hSw); go_simp; (try with_reducible rfl)
      simp only [Act.put, List.getElem_toArray, List.getElem_cons_succ, List.getElem_cons_zero, List.setIfInBounds_toArray, List.set_cons_zero, List.set_cons_succ]
      refine wpAnyH_take (i := 7) (v := ?_) rfl (by kernel_rfl) (by kernel_rfl) (by kernel_rfl) (fun _ _ _ h => h) (Or.inl ⟨by rfl, ?_⟩) (by assumption) ?_
      rotate_left
      · intro wq hSw; (try dsimp only at hSw); go_simp; (try with_reducible rfl)
      simp only [Act.put, List.getElem_toArray, List.getElem_cons_succ, List.getElem_cons_zero, List.setIfInBounds_toArray, List.set_cons_zero, List.set_cons_succ]
      refine wpAnyH_take (i := 8) (v := ?_) rfl (by kernel_rfl) (by kernel_rfl) (by kernel_rfl) (fun _ _ _ h => h) (Or.inl ⟨by rfl, ?_⟩) (by assumption) ?_
      rotate_left
      · intro wq hSw; (try dsimp only at hSw); go_simp; (try with_reducible rfl)
      simp only [Act.put, List.getElem_toArray, List.getElem_cons_succ, List.getElem_cons_zero, List.setIfInBounds_toArray, List.set_cons_zero, List.set_cons_succ]
      refine wpAnyH_take (i := 9) (v := ?_) rfl (by kernel_rfl) (by kernel_rfl) (by kernel_rfl) (fun _ _ _ h => h) (Or.inl ⟨by rfl, ?_⟩) (by assumption) ?_
      rotate_left
      · intro wq hSw; (try dsimp only at hSw); go_simp; (try with_reducible rfl)
      simp only [Act.put, List.getElem_toArray, List.getElem_cons_succ, List.getElem_cons_zero, List.setIfInBounds_toArray, List.set_cons_zero, List.set_cons_succ]
      refine wpAnyH_take (i := 10) (v := ?_) rfl (by kernel_rfl) (by kernel_rfl) (by kernel_rfl) (fun _ _ _ h => h) (Or.inl ⟨by rfl, ?_⟩) (by assumption) ?_
      rotate_left
      · intro wq hSw; (try dsimp only at hSw); go_simp; (try with_reducible rfl)
      simp only [Act.put, List.getElem_toArray, List.getElem_cons_succ, List.getElem_cons_zero, List.setIfInBounds_toArray, List.set_cons_zero, List.set_cons_succ]
      refine wpAnyH_take (i := 11) (v := ?_) rfl (by kernel_rfl) (by kernel_rfl) (by kernel_rfl) (fun _ _ _ h => h) (Or.inl ⟨by rfl, ?_⟩) (by assumption) ?_
      rotate_left
      · intro wq hSw; (try dsimp only at hSw); go_simp; (try with_reducible rfl)
      simp only [Act.put, List.getElem_toArray, List.getElem_cons_succ, List.getElem_cons_zero, List.setIfInBounds_toArray, List.set_cons_zero, List.set_cons_succ]
      refine wpAnyH_take (i := 12) (v := ?_) rfl (by kernel_rfl) (by kernel_rfl) (by kernel_rfl) (fun _ _ _ h => h) (Or.inl ⟨by rfl, ?_⟩) (by assumption) ?_
      rotate_left
      · intro wq hSw; (try dsimp only at hSw); obtain ⟨c1, c2⟩ := HF.out _ hSw; go_simp; (try with_reducible rfl)
      simp only [Act.put, List.getElem_toArray, List.getElem_cons_succ, List.getElem_cons_zero, List.setIfInBounds_toArray, List.set_cons_zero, List.set_cons_succ]
      refine wpAnyH_take (i := 13) (v := ?_) rfl (by kernel_rfl) (by kernel_rfl) (by kernel_rfl) (fun _ _ _ h => h) (Or.inl ⟨by rfl, ?_⟩) (by assumption) ?_
      rotate_left
      · intro wq hSw; (try dsimp only at hSw); go_simp; (try with_reducible rfl)
      simp only [Act.put, List.getElem_toArray, List.getElem_cons_succ, List.getElem_cons_zero, List.setIfInBounds_toArray, List.set_cons_zero, List.set_cons_succ]
      refine wpAnyH_ready (rs := [14]) (by kernel_rfl) (by simp) ?_
      refine AllReadyH.cons rfl (fun K hK => ?_) AllReadyH.nil
      go_simp
      refine HA.out.mono ?_
      rintro e w2 ⟨rfl, HO2⟩
      have hb2 := HO2.out.below
      (try go_wp2_with fail)
      refine hK.out _ _ ?_ (fun hHeld => ?_)
      · exact hb2
      clear hK K
      try simp only [Act.put, List.getElem_toArray, List.getElem_cons_succ, List.getElem_cons_zero, List.setIfInBounds_toArray, List.set_cons_zero, List.set_cons_succ]
      refine wpAnyH_done (by kernel_rfl) ?_ _
      clear hHeld
      clear hB0
      go_wp2_with fail
      go_roundw
      case rel => exact ⟨i + 1, by simp, by omega, HO2⟩
      case measure => simp [intOf]; omega
    · have hie : i = n := by omega
      subst hie
      have hClose := of_close HO.out (by rw [mk_len]; omega) HCL.out
      have HClose := Lib.hid hClose
      have t3 : decide ((i : Int) < (i : Int)) = false := by simp
      clear hClose HO1 hin
      go_wp2_with fail
      refine HClose.out.mono ?_
      rintro e w2 ⟨T, rfl, HO2⟩
      have HO3 : Hid (Below w.heap.size w w2 ∧ Kp w2 T i (closeL kk m (mkO m l i))) := Lib.hid ⟨HO2.out.1.2.1, HO2.out.2.1⟩
      clear HO2 HClose HO
      go_wp2_with fail
      go_loopw [10] (fun jv wx => ∃ j : Nat, jv = .int .i64 (j : Int) ∧ j ≤ i ∧ Hid (Below w.heap.size w wx ∧ Kp wx T i (closeL kk m (mkO m l i)))) (fun jv _ => i - (intOf jv).toNat)
      case atStart => exact ⟨0, rfl, by omega, HO3⟩
      case round =>
        obtain ⟨j, rfl, hj, HO4⟩ := hrel
        by_cases hji : j < i
        · obtain ⟨g, off, rfl, hg, hcell⟩ := HC.out (by rw [HN.out]; omega)
          obtain ⟨x, hx⟩ : ∃ x, (l.getD j (0, 0)).1 = x := ⟨_, rfl⟩
          obtain ⟨d, hd⟩ : ∃ x, (l.getD j (0, 0)).2 = x := ⟨_, rfl⟩
          obtain ⟨⟨hxl, hdl⟩, hF⟩ := ofs_at hcell hg hji HN.out hx hd
          obtain ⟨x1, hx1, hx2⟩ : ∃ x1 : Nat, (x : Int) + 1 = (x1 : Int) ∧ x1 = x + 1 := ⟨x + 1, by simp, rfl⟩
          obtain ⟨f1, _⟩ := hF _ HO4.out.1
          obtain ⟨k1, k2, k3⟩ := HO4.out.2.cell hji
          rw [HAT.out j hji, hx, ← hx2] at k1 k2 k3
          simp only at k1 k2 k3
          have k3' : wr.cell? ⟨T, j * 3 + 2, none⟩ = some (.int .u64 1) := k3
          have t4 : decide ((j : Int) < (i : Int)) = true := by simp; omega
          clear hx hd hcell hF hx2 k3 HO3
          go_wp2_with fail
          go_quiet (fail)
          have HO5 : Hid (Below w.heap.size w (wr.drewN nq) ∧ Kp (wr.drewN nq) T i (closeL kk m (mkO m l i))) := Lib.hid ⟨draws HO4.out.1 _, HO4.out.2.mut (Mut.drewN (Mut.refl [] wr) nq) (by simp)⟩
          clear f1 k1 k2 k3' HO4
          go_wp2_with fail
          go_roundw
          case rel => exact ⟨j + 1, by simp, by omega, HO5⟩
          case measure => simp [intOf]; omega
        · have hje : j = i := by omega
          subst hje
          clear hji HO3
          go_wp2_with fail
          refine (HK.out _).mono ?_
          rintro e w5 ⟨rfl, hb5⟩
          have HB5 := Lib.hid (hend.out _ _ HO4.out.1 hb5)
          clear hb5
          go_wp2_with fail
          go_ret
          exact ⟨rfl, HB5.out⟩
namespace PrioAll
set_option linter.unusedSimpArgs false in
set_option maxRecDepth 100000 in
theorem lifted (os : Os) (started : os.Started) (H : Type) (enc : TypeId × Value → H) :
    ReturnsInHanded {} Try.checked os 7 .any (Rows.prioAllSpec.pre6 enc Try.prog Try.f7 Rows.prioAllRow.domain false) (Rows.prioAllSpec.post enc Try.prog Try.f7 false true false false) := by
  refine returnsInHanded_of_change (C := Try.checked) own started (by kernel_rfl) Try.func7
    (ChangeSpec.witness6 (enc := enc) (C := Try.checked) false ⟨#[], #[.slice none 0 0, .int .u64 0, .int .u8 0], []⟩ 8 (by kernel_rfl) (by kernel_rfl) (by kernel_rfl) (by kernel_rfl)) ?_
  intro W base args ds gs before hval0 hW _ _
  have hval : ∀ (j : Nat) t v, Try.f7.params[j]? = some t → args[j]? = some v → Value.okWide Try.prog W .any base t v := hval0
  have hW' := hW
  obtain ⟨p, q, hA0, hV, rfl, _, _⟩ := hW
  have hA : DataW.TrodAll enc Try.prog W 0 (fun _ => true) true Try.f7.params.toList args.toList ds p := hA0
  rw [Try.params7] at hA hval
  obtain ⟨v0, vs0, d0, ds0, p0, q0, hargs, rfl, rfl, h0, r0⟩ := trodAll_cons hA
  obtain ⟨v1, vs1, d1, ds1, p1, q1, rfl, rfl, rfl, h1, r1⟩ := trodAll_cons r0
  obtain ⟨v2, vs2, d2, ds2, p2, q2, rfl, rfl, rfl, h2, r2⟩ := trodAll_cons r1
  obtain ⟨rfl, rfl, rfl⟩ := trodAll_nil r2
  obtain rfl : args = #[v0, v1, v2] := by cases args; simp_all
  obtain ⟨rfl, rfl⟩ := trodVars_none hV
  obtain ⟨A0, cs0, cap0, rfl, l0, m0, b0⟩ := arg_offers (hval 0 35 v0 rfl rfl) h0
  obtain ⟨a1, rfl, rfl, rfl, w1⟩ := open_int Try.underlying24 (hval 1 24 v1 rfl rfl) h1
  have k1 := wf_u64 w1
  obtain ⟨n1, rfl⟩ : ∃ n : Nat, a1 = n := ⟨a1.toNat, by omega⟩
  obtain ⟨a2, rfl, rfl, rfl, w2⟩ := open_int Try.underlying5 (hval 2 5 v2 rfl rfl) h2
  have k2 := wf_u8 w2
  obtain ⟨n2, rfl⟩ : ∃ u : UInt8, a2 = (u.toNat : Int) := ⟨UInt8.ofNat a2.toNat, by simp; omega⟩
  clear hA0 hval0
  simp only [List.append_nil] at hW'
  refine (prioAll_walk A0 cs0 cap0 n1 n2 W b0 l0 m0 (by omega)).mono fun e W' ⟨he, hg⟩ => ?_
  subst he
  exact ⟨_, rfl, true_last hW' rfl (by kernel_rfl) Try.underlying4 rfl rfl rfl (of_decide_eq_true (by kernel_rfl)) hg⟩

/-- **PrioAll, at every input.** -/
theorem proved : Rows.PrioAllSaid :=
  OpenClaim.holds_of_wide 7 Try.f7 rfl rfl rfl rfl rfl rfl rfl ⟨rfl, rfl, rfl, rfl, rfl⟩ rfl rfl rfl rfl rfl (by kernel_rfl) Try.func7 (by kernel_rfl)
    (of_decide_eq_true (by kernel_rfl)) (by unfold Func.isWrapper; first | (rw [if_pos (by decide +kernel)]; kernel_rfl) | (rw [if_neg (by decide +kernel)]; exact ⟨rfl, rfl⟩))
    (fun os started H enc _ => lifted os started H enc)
end PrioAll

end Go.Proofs.Ytbjpfafohaebpaa
