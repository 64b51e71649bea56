/-
  The statement's own helper: of rows of rules and of spans both sides tell the same.
-/
import Derived.Test.YtmjbdjcpjaeemaaDoorPoArgs
namespace Go.Proofs.YtmjbdjcpjaeemaaDoor
open Go.ChangeShapes Go.WideShapes Go.ChangeAt Go.RowKit

set_option linter.unusedSimpArgs false in
set_option linter.unusedVariables false in
set_option maxRecDepth 100000 in
set_option maxHeartbeats 4000000 in
theorem tells_any (Al : Option Addr) (ls : List (List Ru)) (nl cl : Nat) (Ax : Option Addr) (xs : List Sp) (nx cx num : Nat) (w : World) (hln : ls.length = nl) (hok : OkRows ls) (hlh : HoldsRR w.heap.size w Al ls) (hfx : Fits nx cx xs) (hxh : HoldsS w.heap.size w Ax xs) :
    Calls Tryd.prog 17 #[.slice Al nl cl, .slice Ax nx cx, .int .u64 (num : Int)] w fun e w' => e = .returned (.bool true) ∧ Below w.heap.size w w' := by
  obtain ⟨k, hk⟩ : ∃ k, whichM ls xs num = k := ⟨_, rfl⟩
  obtain ⟨lx, hlx⟩ : ∃ k, lenM xs = k := ⟨_, rfl⟩
  obtain ⟨n0, hn0⟩ : ∃ x, w.heap.size = x := ⟨_, rfl⟩
  have hnl : nl ≤ 9223372036854775807 := by rw [← hln]; exact hok.1
  have hlh' := hlh
  rw [hn0] at hlh'
  have HWH : Hid (∀ W, Below w.heap.size w W → Calls Tryd.prog 13 #[.slice Al nl cl, .slice Ax nx cx, .int .u64 (num : Int)] W fun e w' => e = .returned (.int .i64 k) ∧ Below w.heap.size w w') := Lib.hid fun W hW => by
    rw [← hk]
    exact (which_any Al ls nl cl Ax xs nx cx num W hln hok (hlh.later hW) hfx (hxh.later hW)).mono fun e w' ⟨he, hb⟩ => ⟨he, hW.trans (hb.mono hW.size)⟩
  have HWR : Hid (∀ W, Below w.heap.size w W → Calls Tryd.prog 31 #[.slice Al nl cl, .slice Ax nx cx, .int .u64 (num : Int)] W fun e w' => e = .returned (.int .i64 k) ∧ Below w.heap.size w w') := Lib.hid fun W hW => by
    rw [← hk]
    exact (refWhich_any Al ls nl cl Ax xs nx cx num W hln hok (hlh.later hW) hfx (hxh.later hW)).mono fun e w' ⟨he, hb⟩ => ⟨he, hW.trans (hb.mono hW.size)⟩
  have HXL : Hid (∀ W, Below w.heap.size w W → Calls Tryd.prog 19 #[.slice Ax nx cx] W fun e w' => e = .returned (.int .i64 lx) ∧ Below w.heap.size w w') := Lib.hid fun W hW => by
    rw [← hlx]
    exact (len_any Ax xs nx cx W hfx.len hfx.cap_ hfx.cap2 (hxh.later hW)).mono fun e w' ⟨he, hb⟩ => ⟨he, hW.trans (hb.mono hW.size)⟩
  have HXR : Hid (∀ W, Below w.heap.size w W → Calls Tryd.prog 32 #[.slice Ax nx cx] W fun e w' => e = .returned (.int .i64 lx) ∧ Below w.heap.size w w') := Lib.hid fun W hW => by
    rw [← hlx]
    exact (refLen_any Ax xs nx cx W hfx.len (by have := hfx.cap_; have := hfx.cap2; omega) (hxh.later hW)).mono fun e w' ⟨he, hb⟩ => ⟨he, hW.trans (hb.mono hW.size)⟩
  have HROW : Hid (∀ i, i < nl → ∃ b off B c, Al = some ⟨b, off, none⟩ ∧ (∀ W, Below w.heap.size w W → W.cell? ⟨b, off + i, none⟩ = some (.slice B (ls.getD i []).length c)) ∧ HoldsR w.heap.size w B (ls.getD i [])) := Lib.hid fun i hi => by
    obtain ⟨b, off, e, hb, hc⟩ := hlh (by omega)
    obtain ⟨B, c, h1, h2⟩ := hc i (by omega)
    exact ⟨b, off, B, c, e, fun W hW => (hW.cell (p := ⟨b, off + i, none⟩) hb).trans h1, h2⟩
  have HALL : Hid (∀ i, i < nl → ∀ B c, HoldsR w.heap.size w B (ls.getD i []) → ∀ W, Below w.heap.size w W → (Calls Tryd.prog 12 #[.slice B (ls.getD i []).length c, .slice Ax nx cx, .int .u64 (num : Int)] W fun e w' => e = .returned (.bool (allM (ls.getD i []) xs num)) ∧ Below w.heap.size w w') ∧ (Calls Tryd.prog 30 #[.slice B (ls.getD i []).length c, .slice Ax nx cx, .int .u64 (num : Int)] W fun e w' => e = .returned (.bool (allM (ls.getD i []) xs num)) ∧ Below w.heap.size w w')) := Lib.hid fun i hi B c hB W hW => by
    obtain ⟨h1, h2⟩ := hok.2 i (by omega)
    exact ⟨(all_any B (ls.getD i []) _ c Ax xs nx cx num W rfl h1 h2 (hB.later hW) hfx (hxh.later hW)).mono fun e w' ⟨he, hb⟩ => ⟨he, hW.trans (hb.mono hW.size)⟩, (refAll_any B (ls.getD i []) _ c Ax xs nx cx num W rfl h1 h2 (hB.later hW) hfx (hxh.later hW)).mono fun e w' ⟨he, hb⟩ => ⟨he, hW.trans (hb.mono hW.size)⟩⟩
  have HHO : Hid (∀ i, i < nl → ∀ j, j < (ls.getD i []).length → ∀ W, Below w.heap.size w W → (Calls Tryd.prog 14 #[.agg (ruCells ((ls.getD i []).getD j ru0)), .slice Ax nx cx, .int .u64 (num : Int)] W fun e w' => e = .returned (.bool (holdsM ((ls.getD i []).getD j ru0) xs num)) ∧ Below w.heap.size w w') ∧ (Calls Tryd.prog 29 #[.agg (ruCells ((ls.getD i []).getD j ru0)), .slice Ax nx cx, .int .u64 (num : Int)] W fun e w' => e = .returned (.bool (holdsM ((ls.getD i []).getD j ru0) xs num)) ∧ Below w.heap.size w w')) := Lib.hid fun i hi j hj W hW => by
    obtain ⟨h1, h2⟩ := hok.2 i (by omega)
    exact ⟨(holds_any ((ls.getD i []).getD j ru0) Ax xs nx cx num W hfx (h2 j hj) (hxh.later hW)).mono fun e w' ⟨he, hb⟩ => ⟨he, hW.trans (hb.mono hW.size)⟩, (refHolds_any ((ls.getD i []).getD j ru0) Ax xs nx cx num W hfx (h2 j hj) (hxh.later hW)).mono fun e w' ⟨he, hb⟩ => ⟨he, hW.trans (hb.mono hW.size)⟩⟩
  have HRL : Hid (∀ i, i < nl → (ls.getD i []).length ≤ 9223372036854775807) := Lib.hid fun i hi => (hok.2 i (by omega)).1
  have HB0 : Hid (Below w.heap.size w w) := Lib.hid (Below.refl _ _)
  have hkk : (k == k) = true := by simp
  have hll : (lx == lx) = true := by simp
  clear hlh hxh hfx hok hln hk hlx hn0 hlh'
  go_enter Tryd.func17, Tryd.ntmps17
  go_wp2_with fail
  go_loopw [7] (fun iv wr => ∃ i : Nat, iv = .int .i64 (i : Int) ∧ i ≤ nl ∧ Hid (Below w.heap.size w wr)) (fun iv _ => nl - (intOf iv).toNat)
  case atStart => exact ⟨0, rfl, by omega, HB0⟩
  case round =>
    obtain ⟨i, rfl, hi, HB⟩ := hrel
    by_cases hlt : i < nl
    · have ti : decide ((i : Int) < (nl : Int)) = true := by simp; omega
      obtain ⟨b, off, B, c, rfl, hc, hB⟩ := HROW.out i hlt
      have hho := HHO.out i hlt
      have hall := HALL.out i hlt B c hB
      have hnrb := HRL.out i hlt
      obtain ⟨row, hrow⟩ : ∃ row, ls.getD i [] = row := ⟨_, rfl⟩
      obtain ⟨nr, hnr⟩ : ∃ x, row.length = x := ⟨_, rfl⟩
      rw [hrow, hnr] at hc hnrb
      rw [hrow] at hB hho hall
      rw [hnr] at hho hall
      have HC := Lib.hid hc
      have HO := Lib.hid hho
      have HA := Lib.hid hall
      have HBR := Lib.hid hB
      have HNR := Lib.hid hnr
      clear HB0 hrow hnr hc hho hall hB
      go_wp2_with fail
      go_loopw [8] (fun jv wr => ∃ j : Nat, jv = .int .i64 (j : Int) ∧ j ≤ nr ∧ Hid (Below w.heap.size w wr)) (fun jv _ => nr - (intOf jv).toNat)
      case atStart => exact ⟨0, rfl, by omega, HB⟩
      case round =>
        obtain ⟨j, rfl, hj, HQ⟩ := hrel
        clear HB
        have u0 := HC.out wr HQ.out
        by_cases hjl : j < nr
        · have tj : decide ((j : Int) < (nr : Int)) = true := by simp; omega
          obtain ⟨v, hv⟩ : ∃ v, holdsM (row.getD j ru0) xs num = v := ⟨_, rfl⟩
          have hcall := HO.out j hjl
          rw [hv] at hcall
          obtain ⟨g, o, rfl, hg, hca⟩ := HBR.out (by rw [HNR.out]; omega)
          have hca2 := hca j (by rw [HNR.out]; exact hjl)
          obtain ⟨⟨y0, y1, y2, y3⟩, hy⟩ : ∃ y, row.getD j ru0 = y := ⟨_, rfl⟩
          rw [hy] at hca2 hcall
          unfold ruCells at hcall
          dsimp only at hca2 hcall
          have HCA : Hid (∀ W, Below w.heap.size w W → W.cell? ⟨g, o + j * 4, none⟩ = some (.int .u8 (y0 : Int)) ∧ W.cell? ⟨g, o + j * 4 + 1, none⟩ = some (.int .i64 y1) ∧ W.cell? ⟨g, o + j * 4 + 2, none⟩ = some (.string y2) ∧ W.cell? ⟨g, o + j * 4 + 3, none⟩ = some (.string y3)) := Lib.hid fun W hW =>
            ⟨(hW.cell (p := ⟨g, o + j * 4, none⟩) hg).trans hca2.1, (hW.cell (p := ⟨g, o + j * 4 + 1, none⟩) hg).trans hca2.2.1, (hW.cell (p := ⟨g, o + j * 4 + 2, none⟩) hg).trans hca2.2.2.1, (hW.cell (p := ⟨g, o + j * 4 + 3, none⟩) hg).trans hca2.2.2.2⟩
          have HCALL := Lib.hid hcall
          clear hca hca2 hy hcall hv hg
          go_wp2_with fail
          go_cut [44] (fun s44 wx => s44 = .bool false ∧ Hid (Below w.heap.size w wx))
          case first =>
            clear u0
            have hBd := HQ.out.drew
            refine wp_region_held_drew (S := fun W => Below w.heap.size w W) (by kernel_rfl) ?_ (fun hHeld => ?_)
            · exact hBd
            refine wpAnyH_take (i := 0) (v := ?_) rfl (by kernel_rfl) (by kernel_rfl) (by kernel_rfl) (fun _ _ _ h => h) (Or.inl ⟨by rfl, ?_⟩) (by assumption) ?_
            rotate_left
            · intro wq hSw; (try dsimp only at hSw); go_simp; (try with_reducible rfl)
            simp only [Act.put, List.getElem_toArray, List.getElem_cons_succ, List.getElem_cons_zero, List.setIfInBounds_toArray, List.set_cons_zero, List.set_cons_succ]
            refine wpAnyH_take (i := 1) (v := ?_) rfl (by kernel_rfl) (by kernel_rfl) (by kernel_rfl) (fun _ _ _ h => h) (Or.inl ⟨by rfl, ?_⟩) (by assumption) ?_
            rotate_left
            · intro wq hSw; (try dsimp only at hSw); go_simp; (try with_reducible rfl)
            simp only [Act.put, List.getElem_toArray, List.getElem_cons_succ, List.getElem_cons_zero, List.setIfInBounds_toArray, List.set_cons_zero, List.set_cons_succ]
            refine wpAnyH_take (i := 2) (v := ?_) rfl (by kernel_rfl) (by kernel_rfl) (by kernel_rfl) (fun _ _ _ h => h) (Or.inl ⟨by rfl, ?_⟩) (by assumption) ?_
            rotate_left
            · intro wq hSw; (try dsimp only at hSw); go_simp; (try with_reducible rfl)
            simp only [Act.put, List.getElem_toArray, List.getElem_cons_succ, List.getElem_cons_zero, List.setIfInBounds_toArray, List.set_cons_zero, List.set_cons_succ]
            refine wpAnyH_take (i := 3) (v := ?_) rfl (by kernel_rfl) (by kernel_rfl) (by kernel_rfl) (fun _ _ _ h => h) (Or.inl ⟨by rfl, ?_⟩) (by assumption) ?_
            rotate_left
            · intro wq hSw; (try dsimp only at hSw); have u0 := HC.out _ hSw; go_simp; (try with_reducible rfl)
            simp only [Act.put, List.getElem_toArray, List.getElem_cons_succ, List.getElem_cons_zero, List.setIfInBounds_toArray, List.set_cons_zero, List.set_cons_succ]
            refine wpAnyH_take (i := 4) (v := ?_) rfl (by kernel_rfl) (by kernel_rfl) (by kernel_rfl) (fun _ _ _ h => h) (Or.inl ⟨by rfl, ?_⟩) (by assumption) ?_
            rotate_left
            · intro wq hSw; (try dsimp only at hSw); go_simp; (try with_reducible rfl)
            simp only [Act.put, List.getElem_toArray, List.getElem_cons_succ, List.getElem_cons_zero, List.setIfInBounds_toArray, List.set_cons_zero, List.set_cons_succ]
            refine wpAnyH_take (i := 5) (v := ?_) rfl (by kernel_rfl) (by kernel_rfl) (by kernel_rfl) (fun _ _ _ h => h) (Or.inl ⟨by rfl, ?_⟩) (by assumption) ?_
            rotate_left
            · intro wq hSw; (try dsimp only at hSw); go_simp; (try with_reducible rfl)
            simp only [Act.put, List.getElem_toArray, List.getElem_cons_succ, List.getElem_cons_zero, List.setIfInBounds_toArray, List.set_cons_zero, List.set_cons_succ]
            refine wpAnyH_take (i := 6) (v := ?_) rfl (by kernel_rfl) (by kernel_rfl) (by kernel_rfl) (fun _ _ _ h => h) (Or.inl ⟨by rfl, ?_⟩) (by assumption) ?_
            rotate_left
            · intro wq hSw; (try dsimp only at hSw); obtain ⟨a0, a1, a2, a3⟩ := HCA.out _ hSw; go_simp; (try with_reducible rfl)
            simp only [Act.put, List.getElem_toArray, List.getElem_cons_succ, List.getElem_cons_zero, List.setIfInBounds_toArray, List.set_cons_zero, List.set_cons_succ]
            refine wpAnyH_take (i := 7) (v := ?_) rfl (by kernel_rfl) (by kernel_rfl) (by kernel_rfl) (fun _ _ _ h => h) (Or.inl ⟨by rfl, ?_⟩) (by assumption) ?_
            rotate_left
            · intro wq hSw; (try dsimp only at hSw); go_simp; (try with_reducible rfl)
            simp only [Act.put, List.getElem_toArray, List.getElem_cons_succ, List.getElem_cons_zero, List.setIfInBounds_toArray, List.set_cons_zero, List.set_cons_succ]
            refine wpAnyH_take (i := 8) (v := ?_) rfl (by kernel_rfl) (by kernel_rfl) (by kernel_rfl) (fun _ _ _ h => h) (Or.inl ⟨by rfl, ?_⟩) (by assumption) ?_
            rotate_left
            · intro wq hSw; (try dsimp only at hSw); go_simp; (try with_reducible rfl)
            simp only [Act.put, List.getElem_toArray, List.getElem_cons_succ, List.getElem_cons_zero, List.setIfInBounds_toArray, List.set_cons_zero, List.set_cons_succ]
            refine wpAnyH_take (i := 10) (v := ?_) rfl (by kernel_rfl) (by kernel_rfl) (by kernel_rfl) (fun _ _ _ h => h) (Or.inl ⟨by rfl, ?_⟩) (by assumption) ?_
            rotate_left
            · intro wq hSw; (try dsimp only at hSw); go_simp; (try with_reducible rfl)
            simp only [Act.put, List.getElem_toArray, List.getElem_cons_succ, List.getElem_cons_zero, List.setIfInBounds_toArray, List.set_cons_zero, List.set_cons_succ]
            refine wpAnyH_take (i := 11) (v := ?_) rfl (by kernel_rfl) (by kernel_rfl) (by kernel_rfl) (fun _ _ _ h => h) (Or.inl ⟨by rfl, ?_⟩) (by assumption) ?_
            rotate_left
            · intro wq hSw; (try dsimp only at hSw); go_simp; (try with_reducible rfl)
            simp only [Act.put, List.getElem_toArray, List.getElem_cons_succ, List.getElem_cons_zero, List.setIfInBounds_toArray, List.set_cons_zero, List.set_cons_succ]
            refine wpAnyH_take (i := 12) (v := ?_) rfl (by kernel_rfl) (by kernel_rfl) (by kernel_rfl) (fun _ _ _ h => h) (Or.inl ⟨by rfl, ?_⟩) (by assumption) ?_
            rotate_left
            · intro wq hSw; (try dsimp only at hSw); go_simp; (try with_reducible rfl)
            simp only [Act.put, List.getElem_toArray, List.getElem_cons_succ, List.getElem_cons_zero, List.setIfInBounds_toArray, List.set_cons_zero, List.set_cons_succ]
            refine wpAnyH_take (i := 13) (v := ?_) rfl (by kernel_rfl) (by kernel_rfl) (by kernel_rfl) (fun _ _ _ h => h) (Or.inl ⟨by rfl, ?_⟩) (by assumption) ?_
            rotate_left
            · intro wq hSw; (try dsimp only at hSw); have u0 := HC.out _ hSw; go_simp; (try with_reducible rfl)
            simp only [Act.put, List.getElem_toArray, List.getElem_cons_succ, List.getElem_cons_zero, List.setIfInBounds_toArray, List.set_cons_zero, List.set_cons_succ]
            refine wpAnyH_take (i := 14) (v := ?_) rfl (by kernel_rfl) (by kernel_rfl) (by kernel_rfl) (fun _ _ _ h => h) (Or.inl ⟨by rfl, ?_⟩) (by assumption) ?_
            rotate_left
            · intro wq hSw; (try dsimp only at hSw); go_simp; (try with_reducible rfl)
            simp only [Act.put, List.getElem_toArray, List.getElem_cons_succ, List.getElem_cons_zero, List.setIfInBounds_toArray, List.set_cons_zero, List.set_cons_succ]
            refine wpAnyH_take (i := 15) (v := ?_) rfl (by kernel_rfl) (by kernel_rfl) (by kernel_rfl) (fun _ _ _ h => h) (Or.inl ⟨by rfl, ?_⟩) (by assumption) ?_
            rotate_left
            · intro wq hSw; (try dsimp only at hSw); go_simp; (try with_reducible rfl)
            simp only [Act.put, List.getElem_toArray, List.getElem_cons_succ, List.getElem_cons_zero, List.setIfInBounds_toArray, List.set_cons_zero, List.set_cons_succ]
            refine wpAnyH_take (i := 16) (v := ?_) rfl (by kernel_rfl) (by kernel_rfl) (by kernel_rfl) (fun _ _ _ h => h) (Or.inl ⟨by rfl, ?_⟩) (by assumption) ?_
            rotate_left
            · intro wq hSw; (try dsimp only at hSw); obtain ⟨a0, a1, a2, a3⟩ := HCA.out _ hSw; go_simp; (try with_reducible rfl)
            simp only [Act.put, List.getElem_toArray, List.getElem_cons_succ, List.getElem_cons_zero, List.setIfInBounds_toArray, List.set_cons_zero, List.set_cons_succ]
            refine wpAnyH_take (i := 17) (v := ?_) rfl (by kernel_rfl) (by kernel_rfl) (by kernel_rfl) (fun _ _ _ h => h) (Or.inl ⟨by rfl, ?_⟩) (by assumption) ?_
            rotate_left
            · intro wq hSw; (try dsimp only at hSw); go_simp; (try with_reducible rfl)
            simp only [Act.put, List.getElem_toArray, List.getElem_cons_succ, List.getElem_cons_zero, List.setIfInBounds_toArray, List.set_cons_zero, List.set_cons_succ]
            refine wpAnyH_take (i := 18) (v := ?_) rfl (by kernel_rfl) (by kernel_rfl) (by kernel_rfl) (fun _ _ _ h => h) (Or.inl ⟨by rfl, ?_⟩) (by assumption) ?_
            rotate_left
            · intro wq hSw; (try dsimp only at hSw); go_simp; (try with_reducible rfl)
            simp only [Act.put, List.getElem_toArray, List.getElem_cons_succ, List.getElem_cons_zero, List.setIfInBounds_toArray, List.set_cons_zero, List.set_cons_succ]
            refine wpAnyH_ready (rs := [9]) (by kernel_rfl) (by simp) ?_
            refine AllReadyH.cons rfl (fun K hK => ?_) AllReadyH.nil
            go_simp
            refine (HCALL.out _ hHeld).1.mono ?_
            rintro e w5 ⟨rfl, hb5⟩
            (try go_wp2_with fail)
            refine hK.out _ _ ?_ (fun hHeld => ?_)
            · exact hb5
            clear hK K
            try simp only [Act.put, List.getElem_toArray, List.getElem_cons_succ, List.getElem_cons_zero, List.setIfInBounds_toArray, List.set_cons_zero, List.set_cons_succ]
            refine wpAnyH_ready (rs := [19]) (by kernel_rfl) (by simp) ?_
            refine AllReadyH.cons rfl (fun K hK => ?_) AllReadyH.nil
            go_simp
            refine (HCALL.out _ hHeld).2.mono ?_
            rintro e w6 ⟨rfl, hb6⟩
            (try go_wp2_with fail)
            refine hK.out _ _ ?_ (fun hHeld => ?_)
            · exact hb6
            clear hK K
            try simp only [Act.put, List.getElem_toArray, List.getElem_cons_succ, List.getElem_cons_zero, List.setIfInBounds_toArray, List.set_cons_zero, List.set_cons_succ]
            refine wpAnyH_take (i := 20) (v := ?_) rfl (by kernel_rfl) (by kernel_rfl) (by kernel_rfl) (fun _ _ _ h => h) (Or.inl ⟨by rfl, ?_⟩) (by assumption) ?_
            rotate_left
            · intro wq hSw; (try dsimp only at hSw); go_simp; (try with_reducible rfl)
            simp only [Act.put, List.getElem_toArray, List.getElem_cons_succ, List.getElem_cons_zero, List.setIfInBounds_toArray, List.set_cons_zero, List.set_cons_succ]
            refine wpAnyH_done (by kernel_rfl) ?_ _
            clear hHeld
            go_wp2_with fail
            go_meet
            exact ⟨by cases v <;> rfl, Lib.hid hb6⟩
          case rest =>
            obtain ⟨rfl, HB9⟩ := hcut
            clear u0
            go_wp2_with fail
            go_roundw
            case rel => exact ⟨j + 1, by simp, by omega, HB9⟩
            case measure => simp [intOf]; omega
        · have hje : j = nr := by omega
          subst hje
          have tj : decide ((j : Int) < (j : Int)) = false := by simp
          obtain ⟨v, hv⟩ : ∃ v, allM row xs num = v := ⟨_, rfl⟩
          have hcall := HA.out
          rw [hv] at hcall
          have HCALL := Lib.hid hcall
          clear hv hcall hjl
          go_wp2_with fail
          go_cut [59] (fun s59 wx => s59 = .bool false ∧ Hid (Below w.heap.size w wx))
          case first =>
            clear u0
            have hBd := HQ.out.drew
            refine wp_region_held_drew (S := fun W => Below w.heap.size w W) (by kernel_rfl) ?_ (fun hHeld => ?_)
            · exact hBd
            refine wpAnyH_take (i := 0) (v := ?_) rfl (by kernel_rfl) (by kernel_rfl) (by kernel_rfl) (fun _ _ _ h => h) (Or.inl ⟨by rfl, ?_⟩) (by assumption) ?_
            rotate_left
            · intro wq hSw; (try dsimp only at hSw); go_simp; (try with_reducible rfl)
            simp only [Act.put, List.getElem_toArray, List.getElem_cons_succ, List.getElem_cons_zero, List.setIfInBounds_toArray, List.set_cons_zero, List.set_cons_succ]
            refine wpAnyH_take (i := 1) (v := ?_) rfl (by kernel_rfl) (by kernel_rfl) (by kernel_rfl) (fun _ _ _ h => h) (Or.inl ⟨by rfl, ?_⟩) (by assumption) ?_
            rotate_left
            · intro wq hSw; (try dsimp only at hSw); go_simp; (try with_reducible rfl)
            simp only [Act.put, List.getElem_toArray, List.getElem_cons_succ, List.getElem_cons_zero, List.setIfInBounds_toArray, List.set_cons_zero, List.set_cons_succ]
            refine wpAnyH_take (i := 2) (v := ?_) rfl (by kernel_rfl) (by kernel_rfl) (by kernel_rfl) (fun _ _ _ h => h) (Or.inl ⟨by rfl, ?_⟩) (by assumption) ?_
            rotate_left
            · intro wq hSw; (try dsimp only at hSw); go_simp; (try with_reducible rfl)
            simp only [Act.put, List.getElem_toArray, List.getElem_cons_succ, List.getElem_cons_zero, List.setIfInBounds_toArray, List.set_cons_zero, List.set_cons_succ]
            refine wpAnyH_take (i := 3) (v := ?_) rfl (by kernel_rfl) (by kernel_rfl) (by kernel_rfl) (fun _ _ _ h => h) (Or.inl ⟨by rfl, ?_⟩) (by assumption) ?_
            rotate_left
            · intro wq hSw; (try dsimp only at hSw); have u0 := HC.out _ hSw; go_simp; (try with_reducible rfl)
            simp only [Act.put, List.getElem_toArray, List.getElem_cons_succ, List.getElem_cons_zero, List.setIfInBounds_toArray, List.set_cons_zero, List.set_cons_succ]
            refine wpAnyH_take (i := 4) (v := ?_) rfl (by kernel_rfl) (by kernel_rfl) (by kernel_rfl) (fun _ _ _ h => h) (Or.inl ⟨by rfl, ?_⟩) (by assumption) ?_
            rotate_left
            · intro wq hSw; (try dsimp only at hSw); go_simp; (try with_reducible rfl)
            simp only [Act.put, List.getElem_toArray, List.getElem_cons_succ, List.getElem_cons_zero, List.setIfInBounds_toArray, List.set_cons_zero, List.set_cons_succ]
            refine wpAnyH_take (i := 5) (v := ?_) rfl (by kernel_rfl) (by kernel_rfl) (by kernel_rfl) (fun _ _ _ h => h) (Or.inl ⟨by rfl, ?_⟩) (by assumption) ?_
            rotate_left
            · intro wq hSw; (try dsimp only at hSw); go_simp; (try with_reducible rfl)
            simp only [Act.put, List.getElem_toArray, List.getElem_cons_succ, List.getElem_cons_zero, List.setIfInBounds_toArray, List.set_cons_zero, List.set_cons_succ]
            refine wpAnyH_take (i := 7) (v := ?_) rfl (by kernel_rfl) (by kernel_rfl) (by kernel_rfl) (fun _ _ _ h => h) (Or.inl ⟨by rfl, ?_⟩) (by assumption) ?_
            rotate_left
            · intro wq hSw; (try dsimp only at hSw); go_simp; (try with_reducible rfl)
            simp only [Act.put, List.getElem_toArray, List.getElem_cons_succ, List.getElem_cons_zero, List.setIfInBounds_toArray, List.set_cons_zero, List.set_cons_succ]
            refine wpAnyH_take (i := 8) (v := ?_) rfl (by kernel_rfl) (by kernel_rfl) (by kernel_rfl) (fun _ _ _ h => h) (Or.inl ⟨by rfl, ?_⟩) (by assumption) ?_
            rotate_left
            · intro wq hSw; (try dsimp only at hSw); go_simp; (try with_reducible rfl)
            simp only [Act.put, List.getElem_toArray, List.getElem_cons_succ, List.getElem_cons_zero, List.setIfInBounds_toArray, List.set_cons_zero, List.set_cons_succ]
            refine wpAnyH_take (i := 9) (v := ?_) rfl (by kernel_rfl) (by kernel_rfl) (by kernel_rfl) (fun _ _ _ h => h) (Or.inl ⟨by rfl, ?_⟩) (by assumption) ?_
            rotate_left
            · intro wq hSw; (try dsimp only at hSw); go_simp; (try with_reducible rfl)
            simp only [Act.put, List.getElem_toArray, List.getElem_cons_succ, List.getElem_cons_zero, List.setIfInBounds_toArray, List.set_cons_zero, List.set_cons_succ]
            refine wpAnyH_take (i := 10) (v := ?_) rfl (by kernel_rfl) (by kernel_rfl) (by kernel_rfl) (fun _ _ _ h => h) (Or.inl ⟨by rfl, ?_⟩) (by assumption) ?_
            rotate_left
            · intro wq hSw; (try dsimp only at hSw); have u0 := HC.out _ hSw; go_simp; (try with_reducible rfl)
            simp only [Act.put, List.getElem_toArray, List.getElem_cons_succ, List.getElem_cons_zero, List.setIfInBounds_toArray, List.set_cons_zero, List.set_cons_succ]
            refine wpAnyH_take (i := 11) (v := ?_) rfl (by kernel_rfl) (by kernel_rfl) (by kernel_rfl) (fun _ _ _ h => h) (Or.inl ⟨by rfl, ?_⟩) (by assumption) ?_
            rotate_left
            · intro wq hSw; (try dsimp only at hSw); go_simp; (try with_reducible rfl)
            simp only [Act.put, List.getElem_toArray, List.getElem_cons_succ, List.getElem_cons_zero, List.setIfInBounds_toArray, List.set_cons_zero, List.set_cons_succ]
            refine wpAnyH_take (i := 12) (v := ?_) rfl (by kernel_rfl) (by kernel_rfl) (by kernel_rfl) (fun _ _ _ h => h) (Or.inl ⟨by rfl, ?_⟩) (by assumption) ?_
            rotate_left
            · intro wq hSw; (try dsimp only at hSw); go_simp; (try with_reducible rfl)
            simp only [Act.put, List.getElem_toArray, List.getElem_cons_succ, List.getElem_cons_zero, List.setIfInBounds_toArray, List.set_cons_zero, List.set_cons_succ]
            refine wpAnyH_ready (rs := [6]) (by kernel_rfl) (by simp) ?_
            refine AllReadyH.cons rfl (fun K hK => ?_) AllReadyH.nil
            go_simp
            refine (HCALL.out _ hHeld).1.mono ?_
            rintro e w5 ⟨rfl, hb5⟩
            (try go_wp2_with fail)
            refine hK.out _ _ ?_ (fun hHeld => ?_)
            · exact hb5
            clear hK K
            try simp only [Act.put, List.getElem_toArray, List.getElem_cons_succ, List.getElem_cons_zero, List.setIfInBounds_toArray, List.set_cons_zero, List.set_cons_succ]
            refine wpAnyH_ready (rs := [13]) (by kernel_rfl) (by simp) ?_
            refine AllReadyH.cons rfl (fun K hK => ?_) AllReadyH.nil
            go_simp
            refine (HCALL.out _ hHeld).2.mono ?_
            rintro e w6 ⟨rfl, hb6⟩
            (try go_wp2_with fail)
            refine hK.out _ _ ?_ (fun hHeld => ?_)
            · exact hb6
            clear hK K
            try simp only [Act.put, List.getElem_toArray, List.getElem_cons_succ, List.getElem_cons_zero, List.setIfInBounds_toArray, List.set_cons_zero, List.set_cons_succ]
            refine wpAnyH_take (i := 14) (v := ?_) rfl (by kernel_rfl) (by kernel_rfl) (by kernel_rfl) (fun _ _ _ h => h) (Or.inl ⟨by rfl, ?_⟩) (by assumption) ?_
            rotate_left
            · intro wq hSw; (try dsimp only at hSw); go_simp; (try with_reducible rfl)
            simp only [Act.put, List.getElem_toArray, List.getElem_cons_succ, List.getElem_cons_zero, List.setIfInBounds_toArray, List.set_cons_zero, List.set_cons_succ]
            refine wpAnyH_done (by kernel_rfl) ?_ _
            clear hHeld
            go_wp2_with fail
            go_meet
            exact ⟨by cases v <;> rfl, Lib.hid hb6⟩
          case rest =>
            obtain ⟨rfl, HB9⟩ := hcut
            clear u0
            go_wp2_with fail
            go_roundw
            case rel => exact ⟨i + 1, by simp, by omega, HB9⟩
            case measure => simp [intOf]; omega
    · have hie : i = nl := by omega
      subst hie
      have ti : decide ((i : Int) < (i : Int)) = false := by simp
      clear hlt HB0
      go_wp2_with fail
      refine (HWH.out _ HB.out).mono ?_
      rintro e w5 ⟨rfl, hb5⟩
      go_wp2_with fail
      refine (HWR.out _ hb5).mono ?_
      rintro e w6 ⟨rfl, hb6⟩
      clear hb5
      go_wp2_with fail
      refine (HXL.out _ hb6).mono ?_
      rintro e w7 ⟨rfl, hb7⟩
      clear hb6
      go_wp2_with fail
      refine (HXR.out _ hb7).mono ?_
      rintro e w8 ⟨rfl, hb8⟩
      clear hb7
      go_wp2_with fail
      go_ret
      exact ⟨rfl, hb8⟩
end Go.Proofs.YtmjbdjcpjaeemaaDoor
