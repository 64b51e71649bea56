/-
  DiskTwice: a crash behind a crash changes nothing, nor does one when all is sure: whatever was written, and whatever the draws; no condition.
-/
import Derived.Test.YtbfcjfeckonklaaDkArgs
namespace Go.Proofs.Ytbfcjfeckonklaa
open Go.ChangeShapes Go.WideShapes Go.ChangeAt Go.RowKit Go.Maps Go.Proofs.DiskMath

theorem bd_grow {i m : Nat} {s : List Fi} (h : Bd (9 * i) s) (no : Nat) (ys : List UInt8) (hm : ys.length = m) (h8 : m ≤ 8) : Bd (9 * (i + 1)) (write s no ys) := h.write no ys (by omega) (by omega)
/-- Each file of a disk that has crashed: all of it is sure. -/
theorem crash_all {s : List Fi} (h : Iv s) (x : Nat) : ∀ f ∈ crash x s, f.sure = f.bs.length := fun g hg => by
  obtain ⟨f, _, _, _, _, _, e2, _⟩ := crash_mem (fun y hy => (h.ok y hy).2) hg
  exact e2

set_option linter.unusedSimpArgs false in
set_option maxRecDepth 100000 in
set_option maxHeartbeats 4000000 in
theorem diskTwice_walk (A0 : Option Addr) (ls : List De) (cap : Nat) (x y : Nat) (w : World) (hH : Dds w.heap.size w A0 ls) (hx : x < 18446744073709551616) (hy : y < 18446744073709551616) :
    Calls Try.prog 6 #[.slice A0 ls.length cap, .int .u64 (x : Int), .int .u64 (y : Int)] w fun e w' => e = .returned (.bool true) ∧ Below w.heap.size w w' := by
  obtain ⟨N, hN⟩ : ∃ N, ls.length = N := ⟨_, rfl⟩
  rw [hN]
  have HN := Lib.hid (Db.new (Below.refl w.heap.size w))
  have HK := Lib.hid known_any
  have HH := Lib.hid hH
  have HL := Lib.hid hN
  clear hH hN
  by_cases hlong : 60 < N
  · have t1 : decide ((60 : Int) < (N : Int)) = true := by simp; omega
    have t1n : decide (60 < N) = true := by simp; omega
    clear hlong
    go_enter Try.func6, Try.ntmps6
    go_wp2_with fail
    refine HN.out.mono ?_
    rintro e w1 ⟨S, bs1, rfl, HD1, _⟩
    go_wp2_with fail
    refine (HK.out w1).mono ?_
    rintro e w2 ⟨rfl, HB2⟩
    have HE := Lib.hid ((HD1.out.later HB2.out).2.1)
    clear HN HK HD1 HB2
    go_wp2_with fail
    go_ret
    exact ⟨rfl, HE.out⟩
  · have t1 : decide ((60 : Int) < (N : Int)) = false := by simp; omega
    have t1n : decide (60 < N) = false := by simp; omega
    have hN60 : N ≤ 60 := by omega
    clear hlong
    go_enter Try.func6, Try.ntmps6
    go_wp2_with fail
    refine HN.out.mono ?_
    rintro e w1 ⟨S, bs1, rfl, HD1, _⟩
    go_wp2_with fail
    refine (HK.out w1).mono ?_
    rintro e wk ⟨rfl, HBk⟩
    have HDk := Lib.hid (HD1.out.later HBk.out)
    clear HN HK HD1 HBk
    go_wp2_with fail
    go_loopw [8] (fun iv wr => ∃ (i : Nat) (s : List Fi) (bs : List Nat), iv = .int .i64 (i : Int) ∧ i ≤ N ∧ Hid (Db w wr S s bs) ∧ Hid (Bd (9 * i) s)) (fun iv _ => N - (intOf iv).toNat)
    case atStart => exact ⟨0, [], bs1, rfl, by omega, HDk, Lib.hid (Bd.nil _)⟩
    case round =>
      obtain ⟨i, s, bs, rfl, hi, HD, HBD⟩ := hrel
      by_cases hin : i < N
      · have t2 : decide ((i : Int) < (N : Int)) = true := by simp; omega
        obtain ⟨g, off, wh, no, b, n, rfl, hg, -, o1, o2, o3, o4, k0, k1, k2, k3⟩ := HH.out.at_ HD.out.2.1 (i := i) (by rw [HL.out]; exact hin)
        obtain ⟨z, hz1, hz3⟩ : ∃ z : Nat, (no : Int) % 4 = (z : Int) ∧ z ≤ 3 := ⟨no % 4, by omega, by omega⟩
        have hz2 : (no : Int).tmod 4 = (z : Int) := by rw [Int.tmod_eq_emod_of_nonneg (by omega)]; exact hz1
        have hw1 : IntKind.i64.wrap (z : Int) = (z : Int) := by rw [IntKind.wrap_i64]; omega
        obtain ⟨u, hu1, hu3⟩ : ∃ u : Nat, (wh : Int) % 3 = (u : Int) ∧ u ≤ 2 := ⟨wh % 3, by omega, by omega⟩
        have hu2 : (wh : Int).tmod 3 = (u : Int) := by rw [Int.tmod_eq_emod_of_nonneg (by omega)]; exact hu1
        obtain ⟨ys, hys, hby⟩ := bytes_nat b n o3 o4
        obtain ⟨m, hm⟩ : ∃ m, n % 9 = m := ⟨_, rfl⟩
        rw [hm] at hys hby
        have hm8 : m ≤ 8 := by omega
        have HBY := Lib.hid (hby wr.drew)
        have z1 : wr.drew.cell? ⟨g, off + i * 4 + 1, none⟩ = some (.int .u8 (no : Int)) := k1
        have z2 : wr.drew.cell? ⟨g, off + i * 4 + 2, none⟩ = some (.int .u8 (b : Int)) := k2
        have z3 : wr.drew.cell? ⟨g, off + i * 4 + 3, none⟩ = some (.int .u8 (n : Int)) := k3
        have HC := Lib.hid (show ∀ W, Below w.heap.size w W → W.cell? ⟨g, off + i * 4, none⟩ = some (.int .u8 (wh : Int)) ∧ W.cell? ⟨g, off + i * 4 + 1, none⟩ = some (.int .u8 (no : Int)) ∧ W.cell? ⟨g, off + i * 4 + 2, none⟩ = some (.int .u8 (b : Int)) ∧ W.cell? ⟨g, off + i * 4 + 3, none⟩ = some (.int .u8 (n : Int)) from fun W hW => by
          have hb0 := HD.out.2.1
          exact ⟨(hW.cell (p := ⟨g, off + i * 4, none⟩) hg).trans ((hb0.cell (p := ⟨g, off + i * 4, none⟩) hg).symm.trans k0), (hW.cell (p := ⟨g, off + i * 4 + 1, none⟩) hg).trans ((hb0.cell (p := ⟨g, off + i * 4 + 1, none⟩) hg).symm.trans k1), (hW.cell (p := ⟨g, off + i * 4 + 2, none⟩) hg).trans ((hb0.cell (p := ⟨g, off + i * 4 + 2, none⟩) hg).symm.trans k2), (hW.cell (p := ⟨g, off + i * 4 + 3, none⟩) hg).trans ((hb0.cell (p := ⟨g, off + i * 4 + 3, none⟩) hg).symm.trans k3)⟩)
        obtain ⟨t, ht⟩ : ∃ t, write s z ys = t := ⟨_, rfl⟩
        have HT := Lib.hid ht
        have HYS := Lib.hid hys
        have HBT := Lib.hid (show Bd (9 * (i + 1)) t from by rw [← ht]; exact bd_grow HBD.out z ys hys hm8)
        clear k0 k1 k2 k3 hby hys o1 o2 o3 o4 hm ht
        go_wp2_with fail
        refine wp_region_held_drew (S := fun W => W.cell? ⟨g, off + i * 4 + 1, none⟩ = some (.int .u8 (no : Int)) ∧ W.cell? ⟨g, off + i * 4 + 2, none⟩ = some (.int .u8 (b : Int)) ∧ W.cell? ⟨g, off + i * 4 + 3, none⟩ = some (.int .u8 (n : Int))) (by kernel_rfl) ?_ (fun hHeld => ?_)
        · exact ⟨z1, z2, z3⟩
        refine wpAnyH_take (i := 0) (v := ?_) rfl (by kernel_rfl) (by kernel_rfl) (by kernel_rfl) (fun _ _ _ h => h) (Or.inl ⟨by rfl, ?_⟩) (by assumption) ?_
        rotate_left
        · intro wq hSw; (try dsimp only at hSw); go_simp; (try with_reducible rfl)
        simp only [Act.put, List.getElem_toArray, List.getElem_cons_succ, List.getElem_cons_zero, List.setIfInBounds_toArray, List.set_cons_zero, List.set_cons_succ]
        refine wpAnyH_take (i := 1) (v := ?_) rfl (by kernel_rfl) (by kernel_rfl) (by kernel_rfl) (fun _ _ _ h => h) (Or.inl ⟨by rfl, ?_⟩) (by assumption) ?_
        rotate_left
        · intro wq hSw; (try dsimp only at hSw); go_simp; (try with_reducible rfl)
        simp only [Act.put, List.getElem_toArray, List.getElem_cons_succ, List.getElem_cons_zero, List.setIfInBounds_toArray, List.set_cons_zero, List.set_cons_succ]
        refine wpAnyH_take (i := 2) (v := ?_) rfl (by kernel_rfl) (by kernel_rfl) (by kernel_rfl) (fun _ _ _ h => h) (Or.inl ⟨by rfl, ?_⟩) (by assumption) ?_
        rotate_left
        · intro wq hSw; (try dsimp only at hSw); go_simp; (try with_reducible rfl)
        simp only [Act.put, List.getElem_toArray, List.getElem_cons_succ, List.getElem_cons_zero, List.setIfInBounds_toArray, List.set_cons_zero, List.set_cons_succ]
        refine wpAnyH_take (i := 3) (v := ?_) rfl (by kernel_rfl) (by kernel_rfl) (by kernel_rfl) (fun _ _ _ h => h) (Or.inl ⟨by rfl, ?_⟩) (by assumption) ?_
        rotate_left
        · intro wq hSw; (try dsimp only at hSw); go_simp; (try with_reducible rfl)
        simp only [Act.put, List.getElem_toArray, List.getElem_cons_succ, List.getElem_cons_zero, List.setIfInBounds_toArray, List.set_cons_zero, List.set_cons_succ]
        refine wpAnyH_take (i := 4) (v := ?_) rfl (by kernel_rfl) (by kernel_rfl) (by kernel_rfl) (fun _ _ _ h => h) (Or.inl ⟨by rfl, ?_⟩) (by assumption) ?_
        rotate_left
        · intro wq hSw; (try dsimp only at hSw); go_simp; (try with_reducible rfl)
        simp only [Act.put, List.getElem_toArray, List.getElem_cons_succ, List.getElem_cons_zero, List.setIfInBounds_toArray, List.set_cons_zero, List.set_cons_succ]
        refine wpAnyH_take (i := 5) (v := ?_) rfl (by kernel_rfl) (by kernel_rfl) (by kernel_rfl) (fun _ _ _ h => h) (Or.inl ⟨by rfl, ?_⟩) (by assumption) ?_
        rotate_left
        · intro wq hSw; (try dsimp only at hSw); have hq := hSw.1; go_simp; (try with_reducible rfl)
        simp only [Act.put, List.getElem_toArray, List.getElem_cons_succ, List.getElem_cons_zero, List.setIfInBounds_toArray, List.set_cons_zero, List.set_cons_succ]
        refine wpAnyH_take (i := 6) (v := ?_) rfl (by kernel_rfl) (by kernel_rfl) (by kernel_rfl) (fun _ _ _ h => h) (Or.inl ⟨by rfl, ?_⟩) (by assumption) ?_
        rotate_left
        · intro wq hSw; (try dsimp only at hSw); go_simp; (try with_reducible rfl)
        simp only [Act.put, List.getElem_toArray, List.getElem_cons_succ, List.getElem_cons_zero, List.setIfInBounds_toArray, List.set_cons_zero, List.set_cons_succ]
        refine wpAnyH_take (i := 7) (v := ?_) rfl (by kernel_rfl) (by kernel_rfl) (by kernel_rfl) (fun _ _ _ h => h) (Or.inl ⟨by rfl, ?_⟩) (by assumption) ?_
        rotate_left
        · intro wq hSw; (try dsimp only at hSw); go_simp; (try with_reducible rfl)
        simp only [Act.put, List.getElem_toArray, List.getElem_cons_succ, List.getElem_cons_zero, List.setIfInBounds_toArray, List.set_cons_zero, List.set_cons_succ]
        refine wpAnyH_take (i := 8) (v := ?_) rfl (by kernel_rfl) (by kernel_rfl) (by kernel_rfl) (fun _ _ _ h => h) (Or.inl ⟨by rfl, ?_⟩) (by assumption) ?_
        rotate_left
        · intro wq hSw; (try dsimp only at hSw); go_simp; (try with_reducible rfl)
        simp only [Act.put, List.getElem_toArray, List.getElem_cons_succ, List.getElem_cons_zero, List.setIfInBounds_toArray, List.set_cons_zero, List.set_cons_succ]
        refine wpAnyH_take (i := 9) (v := ?_) rfl (by kernel_rfl) (by kernel_rfl) (by kernel_rfl) (fun _ _ _ h => h) (Or.inl ⟨by rfl, ?_⟩) (by assumption) ?_
        rotate_left
        · intro wq hSw; (try dsimp only at hSw); go_simp; (try with_reducible rfl)
        simp only [Act.put, List.getElem_toArray, List.getElem_cons_succ, List.getElem_cons_zero, List.setIfInBounds_toArray, List.set_cons_zero, List.set_cons_succ]
        refine wpAnyH_take (i := 10) (v := ?_) rfl (by kernel_rfl) (by kernel_rfl) (by kernel_rfl) (fun _ _ _ h => h) (Or.inl ⟨by rfl, ?_⟩) (by assumption) ?_
        rotate_left
        · intro wq hSw; (try dsimp only at hSw); go_simp; (try with_reducible rfl)
        simp only [Act.put, List.getElem_toArray, List.getElem_cons_succ, List.getElem_cons_zero, List.setIfInBounds_toArray, List.set_cons_zero, List.set_cons_succ]
        refine wpAnyH_take (i := 11) (v := ?_) rfl (by kernel_rfl) (by kernel_rfl) (by kernel_rfl) (fun _ _ _ h => h) (Or.inl ⟨by rfl, ?_⟩) (by assumption) ?_
        rotate_left
        · intro wq hSw; (try dsimp only at hSw); go_simp; (try with_reducible rfl)
        simp only [Act.put, List.getElem_toArray, List.getElem_cons_succ, List.getElem_cons_zero, List.setIfInBounds_toArray, List.set_cons_zero, List.set_cons_succ]
        refine wpAnyH_take (i := 12) (v := ?_) rfl (by kernel_rfl) (by kernel_rfl) (by kernel_rfl) (fun _ _ _ h => h) (Or.inl ⟨by rfl, ?_⟩) (by assumption) ?_
        rotate_left
        · intro wq hSw; (try dsimp only at hSw); have hq := hSw.2.1; go_simp; (try with_reducible rfl)
        simp only [Act.put, List.getElem_toArray, List.getElem_cons_succ, List.getElem_cons_zero, List.setIfInBounds_toArray, List.set_cons_zero, List.set_cons_succ]
        refine wpAnyH_take (i := 13) (v := ?_) rfl (by kernel_rfl) (by kernel_rfl) (by kernel_rfl) (fun _ _ _ h => h) (Or.inl ⟨by rfl, ?_⟩) (by assumption) ?_
        rotate_left
        · intro wq hSw; (try dsimp only at hSw); go_simp; (try with_reducible rfl)
        simp only [Act.put, List.getElem_toArray, List.getElem_cons_succ, List.getElem_cons_zero, List.setIfInBounds_toArray, List.set_cons_zero, List.set_cons_succ]
        refine wpAnyH_take (i := 14) (v := ?_) rfl (by kernel_rfl) (by kernel_rfl) (by kernel_rfl) (fun _ _ _ h => h) (Or.inl ⟨by rfl, ?_⟩) (by assumption) ?_
        rotate_left
        · intro wq hSw; (try dsimp only at hSw); go_simp; (try with_reducible rfl)
        simp only [Act.put, List.getElem_toArray, List.getElem_cons_succ, List.getElem_cons_zero, List.setIfInBounds_toArray, List.set_cons_zero, List.set_cons_succ]
        refine wpAnyH_take (i := 15) (v := ?_) rfl (by kernel_rfl) (by kernel_rfl) (by kernel_rfl) (fun _ _ _ h => h) (Or.inl ⟨by rfl, ?_⟩) (by assumption) ?_
        rotate_left
        · intro wq hSw; (try dsimp only at hSw); go_simp; (try with_reducible rfl)
        simp only [Act.put, List.getElem_toArray, List.getElem_cons_succ, List.getElem_cons_zero, List.setIfInBounds_toArray, List.set_cons_zero, List.set_cons_succ]
        refine wpAnyH_take (i := 16) (v := ?_) rfl (by kernel_rfl) (by kernel_rfl) (by kernel_rfl) (fun _ _ _ h => h) (Or.inl ⟨by rfl, ?_⟩) (by assumption) ?_
        rotate_left
        · intro wq hSw; (try dsimp only at hSw); go_simp; (try with_reducible rfl)
        simp only [Act.put, List.getElem_toArray, List.getElem_cons_succ, List.getElem_cons_zero, List.setIfInBounds_toArray, List.set_cons_zero, List.set_cons_succ]
        refine wpAnyH_take (i := 17) (v := ?_) rfl (by kernel_rfl) (by kernel_rfl) (by kernel_rfl) (fun _ _ _ h => h) (Or.inl ⟨by rfl, ?_⟩) (by assumption) ?_
        rotate_left
        · intro wq hSw; (try dsimp only at hSw); have hq := hSw.2.2; go_simp; (try with_reducible rfl)
        simp only [Act.put, List.getElem_toArray, List.getElem_cons_succ, List.getElem_cons_zero, List.setIfInBounds_toArray, List.set_cons_zero, List.set_cons_succ]
        refine wpAnyH_ready (rs := [18]) (by kernel_rfl) (by simp) ?_
        refine AllReadyH.cons rfl (fun K hK => ?_) AllReadyH.nil
        go_simp
        refine HBY.out.mono ?_
        rintro e W2 ⟨rfl, HB2⟩
        have hd2 : Db w W2 S s bs := HD.out.drew.later HB2.out.1
        obtain ⟨-, y1⟩ := HC.out W2 hd2.2.1
        have hsrc : Src W2 bs (some ⟨wr.drew.heap.size, 0, none⟩) m ys := ⟨HB2.out.2, fun e => absurd e (by simp), fun _ g' hg' hm' => by simp at hg'; have := HD.out.drew.1.lt g' hm'; have e5 : wr.drew.heap.size = wr.heap.size := rfl; omega⟩
        have HW := Lib.hid (hd2.write z (some ⟨wr.drew.heap.size, 0, none⟩) m m ys hsrc HYS.out (by omega) (9 * i) HBD.out (by omega) t HT.out)
        clear hsrc hd2 HB2 HBY
        (try go_wp2_with fail)
        refine hK.out _ _ ?_ (fun hHeld => ?_)
        · exact y1
        clear hK K
        try simp only [Act.put, List.getElem_toArray, List.getElem_cons_succ, List.getElem_cons_zero, List.setIfInBounds_toArray, List.set_cons_zero, List.set_cons_succ]
        refine wpAnyH_ready (rs := [19]) (by kernel_rfl) (by simp) ?_
        refine AllReadyH.cons rfl (fun K hK => ?_) AllReadyH.nil
        go_simp
        refine HW.out.mono ?_
        rintro e W3 ⟨rfl, bs3, HD3, _⟩
        obtain ⟨y0, y2⟩ := HC.out W3 HD3.out.2.1
        clear HW
        refine hK.out _ _ ?_ (fun hHeld => ?_)
        · exact y2
        clear hK K
        try simp only [Act.put, List.getElem_toArray, List.getElem_cons_succ, List.getElem_cons_zero, List.setIfInBounds_toArray, List.set_cons_zero, List.set_cons_succ]
        refine wpAnyH_done (by kernel_rfl) ?_ _
        clear hHeld
        clear HBD HD hHeld z1 z2 z3 HC y1
        obtain ⟨y3, -, -⟩ := y2
        by_cases hu0 : u = 0
        · have t3 : ((u : Int) == 0) = true := by rw [hu0]; rfl
          have t3n : (u == 0) = true := by rw [hu0]; rfl
          have HS := Lib.hid (HD3.out.sync z (by omega) (by omega) _ rfl _ rfl)
          have HBS := Lib.hid (HBT.out.sync HD3.out.iv z)
          clear hu0
          go_wp2_with fail
          refine HS.out.mono ?_
          rintro e W4 ⟨rfl, bs4, HD4, _⟩
          clear HS y0 y3
          go_wp2_with fail
          go_roundw
          case rel => exact ⟨i + 1, _, bs4, by simp, by omega, HD4, HBS⟩
          case measure => simp [intOf]; omega
        · have t3 : ((u : Int) == 0) = false := beq_eq_false_iff_ne.2 (by omega)
          have t3n : (u == 0) = false := beq_eq_false_iff_ne.2 hu0
          have hu0' : ¬ (u : Int) = 0 := by omega
          clear hu0
          go_wp2_with fail
          go_roundw
          case rel => exact ⟨i + 1, _, bs3, by simp, by omega, HD3, HBT⟩
          case measure => simp [intOf]; omega
      · obtain rfl : N = i := by omega
        have t2 : decide ((N : Int) < (N : Int)) = false := by simp
        have hB6 : Bd 600 s := HBD.out.mono (by omega)
        obtain ⟨s1, hs1⟩ : ∃ s1, crash x s = s1 := ⟨_, rfl⟩
        have HC1 := Lib.hid (HD.out.crash x hx 600 hB6 (by omega) s1 hs1)
        have HS1 := Lib.hid (show Bd 600 s1 ∧ crash y s1 = s1 ∧ (∀ f ∈ s1, f.sure = f.bs.length) ∧ Iv s1 from by
          rw [← hs1]
          exact ⟨hB6.crash HD.out.iv x, crash_twice HD.out.iv x y, crash_all HD.out.iv x, HD.out.iv.crash x⟩)
        clear hB6 hs1 HBD HD hi hin
        go_wp2_with fail
        refine HC1.out.mono ?_
        rintro e w2 ⟨rfl, bs2, HD2, _⟩
        have HC2 := Lib.hid (HD2.out.two 600 HS1.out.1 (by omega))
        clear HC1
        go_wp2_with fail
        refine HC2.out.mono ?_
        rintro e w3 ⟨S2, rfl, HT3⟩
        have HC3 := Lib.hid (HT3.out.swap.crash y hy 600 HS1.out.1 (by omega) s1 HS1.out.2.1)
        clear HC2 HD2
        go_wp2_with fail
        refine HC3.out.mono ?_
        rintro e w4 ⟨rfl, HT4⟩
        obtain ⟨n, hn⟩ : ∃ n, s1.length = n := ⟨_, rfl⟩
        have hn6 : n ≤ 600 := by have := HS1.out.1.1; omega
        have HNN := Lib.hid hn
        have HC4 := Lib.hid (HT4.out.swap.files n hn (by omega))
        clear HC3 HT3 hn
        go_wp2_with fail
        refine HC4.out.mono ?_
        rintro e w5 ⟨A5, rfl, HN5, HB5, HT5⟩
        have HC5 := Lib.hid (HT5.out.swap.files n HNN.out (by omega))
        clear HC4 HT4
        go_wp2_with fail
        refine HC5.out.mono ?_
        rintro e w6 ⟨A6, rfl, HN6, HB6, HT6⟩
        have HR := Lib.hid (show Two w w6 S s1 S2 s1 ∧ Nos w6 0 A5 (s1.map (·.no)) ∧ Nos w6 0 A6 (s1.map (·.no)) from ⟨HT6.out.swap, fun h0 => by
          obtain ⟨g, e, _, h2, h3⟩ := (HN5.out.later HB6.out) h0
          exact ⟨g, e, Nat.zero_le _, h2, h3⟩, fun h0 => by
          obtain ⟨g, e, _, h2, h3⟩ := HN6.out h0
          exact ⟨g, e, Nat.zero_le _, h2, h3⟩⟩)
        clear HC5 HT5 HT6 HN5 HN6 HB5 HB6
        go_wp2_with fail
        go_loopw [12] (fun iv wq => ∃ i : Nat, iv = .int .i64 (i : Int) ∧ i ≤ n ∧ Hid (Two w wq S s1 S2 s1 ∧ Nos wq 0 A5 (s1.map (·.no)) ∧ Nos wq 0 A6 (s1.map (·.no)))) (fun iv _ => n - (intOf iv).toNat)
        case atStart => exact ⟨0, rfl, by omega, HR⟩
        case round =>
          obtain ⟨i, rfl, hi, HR⟩ := hrel
          by_cases hin : i < n
          · have t4 : decide ((i : Int) < (n : Int)) = true := by simp; omega
            have hil : i < s1.length := by rw [HNN.out]; exact hin
            obtain ⟨f, hfe⟩ : ∃ f, s1[i] = f := ⟨_, rfl⟩
            have hfm : f ∈ s1 := hfe ▸ List.getElem_mem hil
            obtain ⟨g5, rfl, -, hg5, hc5⟩ := HR.out.2.1 (by rw [List.length_map]; omega)
            obtain ⟨g6, rfl, -, hg6, hc6⟩ := HR.out.2.2 (by rw [List.length_map]; omega)
            have k5 : wr.cell? ⟨g5, i, none⟩ = some (.int .i64 (f.no : Int)) := by
              rw [hc5 i (by rw [List.length_map]; exact hil)]
              simp [hil, hfe]
            have k6 : wr.cell? ⟨g6, i, none⟩ = some (.int .i64 (f.no : Int)) := by
              rw [hc6 i (by rw [List.length_map]; exact hil)]
              simp [hil, hfe]
            have hfs := HS1.out.2.2.1 f hfm
            have hfl := HS1.out.1.2 f hfm
            have hfo := (HS1.out.2.2.2.ok f hfm).1
            have hsk := seek_mem HS1.out.2.2.2 hfm
            obtain ⟨m, hm⟩ : ∃ m, f.bs.length = m := ⟨_, rfl⟩
            rw [hm] at hfs hfl
            have HF := Lib.hid (show seek (f.no : Int) s1 = some f ∧ f.bs.length = m ∧ ((seek (f.no : Int) s1).map (·.sure)).getD 0 = m from ⟨hsk, hm, by rw [hsk]; exact hfs⟩)
            obtain ⟨no, hno⟩ : ∃ no, f.no = no := ⟨_, rfl⟩
            rw [hno] at k5 k6 hfo HF
            have HC6 := Lib.hid (HR.out.1.read (no : Int) (by omega) (by omega) f HF.out.1 m HF.out.2.1 (by omega) f.bs rfl)
            clear hc5 hc6 hsk hm hfs hno hfm hfe
            go_wp2_with fail
            refine HC6.out.mono ?_
            rintro e w7 ⟨ga, rfl, HGA, HB7, HT7⟩
            have k6' : w7.cell? ⟨g6, i, none⟩ = some (.int .i64 (no : Int)) := (HB7.out.cell (p := ⟨g6, i, none⟩) hg6).trans k6
            have k5' : w7.cell? ⟨g5, i, none⟩ = some (.int .i64 (no : Int)) := (HB7.out.cell (p := ⟨g5, i, none⟩) hg5).trans k5
            have HC7 := Lib.hid (HT7.out.swap.read (no : Int) (by omega) (by omega) f HF.out.1 m HF.out.2.1 (by omega) f.bs rfl)
            have hg7 : g5 < w7.heap.size ∧ g6 < w7.heap.size := by have := HB7.out.size; omega
            clear HC6 k5 k6
            go_wp2_with fail
            refine HC7.out.mono ?_
            rintro e w8 ⟨gb, rfl, HGB, HB8, HT8⟩
            have k5'' : w8.cell? ⟨g5, i, none⟩ = some (.int .i64 (no : Int)) := (HB8.out.cell (p := ⟨g5, i, none⟩) hg7.1).trans k5'
            have k6'' : w8.cell? ⟨g6, i, none⟩ = some (.int .i64 (no : Int)) := (HB8.out.cell (p := ⟨g6, i, none⟩) hg7.2).trans k6'
            obtain ⟨X, hX⟩ : ∃ X : ByteArray, (⟨f.bs.toArray⟩ : ByteArray) = X := ⟨_, rfl⟩
            have x1 : ∀ q, (convert 22 9 (.slice (some ⟨ga, 0, none⟩) m m)).run Try.prog (w8.drewN q) = .ok (.string X) (w8.drewN q) := fun q => by
              rw [← hX]
              exact HGA.out.text (w8.drewN q) (Below.drewN' HB8.out q)
            have x2 : ∀ q, (convert 22 9 (.slice (some ⟨gb, 0, none⟩) m m)).run Try.prog (w8.drewN q) = .ok (.string X) (w8.drewN q) := fun q => by
              rw [← hX]
              exact HGB.out.text (w8.drewN q) (Below.drewN' (Below.refl _ _) q)
            have HSU := Lib.hid (show ∀ q, Calls Try.prog 13 #[.pointer (some ⟨S, 0, none⟩), .int .i64 (no : Int)] (w8.drewN q) fun e w' => e = .returned (.int .i64 (m : Int)) ∧ w8.drewN q = w' from fun q => (HT8.out.swap.later (⟨rfl, rfl, rfl, Nat.le_refl _, fun _ _ => rfl⟩ : Below w8.heap.size w8 (w8.drewN q))).sure (no : Int) (by omega) (by omega) m HF.out.2.2)
            have HNX := Lib.hid (show ∀ q, Two w (w8.drewN q) S s1 S2 s1 ∧ Nos (w8.drewN q) 0 (some ⟨g5, 0, none⟩) (s1.map (·.no)) ∧ Nos (w8.drewN q) 0 (some ⟨g6, 0, none⟩) (s1.map (·.no)) from fun q => by
              have hb8 : Below wr.heap.size wr (w8.drewN q) := Below.drewN' (HB7.out.trans (HB8.out.mono HB7.out.size)) q
              exact ⟨HT8.out.swap.later ⟨rfl, rfl, rfl, Nat.le_refl _, fun _ _ => rfl⟩, HR.out.2.1.later hb8, HR.out.2.2.later hb8⟩)
            clear HC7 k5' k6' HGA HGB HB7 HB8 HT7 HT8 HR hX hg7
            go_wp2_with fail
            go_quiet ((go_at_call 13; exact quiet_left (HSU.out _)))
            have HR2 := Lib.hid (HNX.out nq)
            clear HNX HSU x1 x2 k5'' k6''
            go_wp2_with fail
            go_roundw
            case rel => exact ⟨i + 1, by simp, by omega, HR2⟩
            case measure => simp [intOf]; omega
          · obtain rfl : n = i := by omega
            have t4 : decide ((n : Int) < (n : Int)) = false := by simp
            have HE := Lib.hid HR.out.1.below
            clear HR
            go_wp2_with fail
            go_ret
            exact ⟨rfl, HE.out⟩
namespace DiskTwice
set_option linter.unusedSimpArgs false in
set_option maxRecDepth 100000 in
theorem lifted (os : Os) (started : os.Started) (H : Type) (enc : TypeId × Value → H) :
    ReturnsInHanded {} Try.checked os 6 .any (Rows.diskTwiceSpec.pre6 enc Try.prog Try.f6 Rows.diskTwiceRow.domain false) (Rows.diskTwiceSpec.post enc Try.prog Try.f6 false true false false) := by
  refine returnsInHanded_of_change (C := Try.checked) own started (by kernel_rfl) Try.func6
    (ChangeSpec.witness6 (enc := enc) (C := Try.checked) false ⟨#[], #[.slice none 0 0, .int .u64 0, .int .u64 0], []⟩ 8 (by kernel_rfl) (by kernel_rfl) (by kernel_rfl) (by kernel_rfl)) ?_
  intro W base args ds gs before hval0 hW _ _
  have hval : ∀ (j : Nat) t v, Try.f6.params[j]? = some t → args[j]? = some v → Value.okWide Try.prog W .any base t v := hval0
  have hW' := hW
  obtain ⟨p, q, hA0, hV, rfl, _, _⟩ := hW
  have hA : DataW.TrodAll enc Try.prog W 0 (fun _ => true) true Try.f6.params.toList args.toList ds p := hA0
  rw [Try.params6] at hA hval
  obtain ⟨v0, vs0, d0, ds0, p0, q0, hargs, rfl, rfl, h0, r0⟩ := trodAll_cons hA
  obtain ⟨v1, vs1, d1, ds1, p1, q1, rfl, rfl, rfl, h1, r1⟩ := trodAll_cons r0
  obtain ⟨v2, vs2, d2, ds2, p2, q2, rfl, rfl, rfl, h2, r2⟩ := trodAll_cons r1
  obtain ⟨rfl, rfl, rfl⟩ := trodAll_nil r2
  obtain rfl : args = #[v0, v1, v2] := by cases args; simp_all
  obtain ⟨rfl, rfl⟩ := trodVars_none hV
  obtain ⟨A0, cs0, cap0, rfl, l0, m0, b0⟩ := arg_deeds (hval 0 36 v0 rfl rfl) h0
  obtain ⟨a1, rfl, rfl, rfl, w1⟩ := open_int Try.underlying32 (hval 1 32 v1 rfl rfl) h1
  have k1 := wf_u64 w1
  obtain ⟨n1, rfl⟩ : ∃ n : Nat, a1 = n := ⟨a1.toNat, by omega⟩
  obtain ⟨a2, rfl, rfl, rfl, w2⟩ := open_int Try.underlying32 (hval 2 32 v2 rfl rfl) h2
  have k2 := wf_u64 w2
  obtain ⟨n2, rfl⟩ : ∃ n : Nat, a2 = n := ⟨a2.toNat, by omega⟩
  clear hA0 hval0
  simp only [List.append_nil] at hW'
  refine (diskTwice_walk A0 cs0 cap0 n1 n2 W b0 (by omega) (by omega)).mono fun e W' ⟨he, hg⟩ => ?_
  subst he
  exact ⟨_, rfl, true_last hW' rfl (by kernel_rfl) Try.underlying4 rfl rfl rfl (of_decide_eq_true (by kernel_rfl)) hg⟩

/-- **DiskTwice, at every input.** -/
theorem proved : Rows.DiskTwiceSaid :=
  OpenClaim.holds_of_wide 6 Try.f6 rfl rfl rfl rfl rfl rfl rfl ⟨rfl, rfl, rfl, rfl, rfl⟩ rfl rfl rfl rfl rfl (by kernel_rfl) Try.func6 (by kernel_rfl)
    (of_decide_eq_true (by kernel_rfl)) (by unfold Func.isWrapper; first | (rw [if_pos (by decide +kernel)]; kernel_rfl) | (rw [if_neg (by decide +kernel)]; exact ⟨rfl, rfl⟩))
    (fun os started H enc _ => lifted os started H enc)
end DiskTwice

end Go.Proofs.Ytbfcjfeckonklaa
