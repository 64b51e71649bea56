/-
  Proved: FrameStops returns true for every three slices of bytes and every byte: what stands ahead of a frame that is wrong is told; nothing behind it is. No condition but the form's own reach.
-/
import Derived.Deep.RegionWith
import Derived.Test.YtdjejkjkcahdgaaBytesLift
import Derived.Test.YtdjejkjkcahdgaaFrameBent
import Derived.Test.YtdjejkjkcahdgaaFrameScan
namespace Go.Proofs.Ytdjejkjkcahdgaa
open Go.ChangeShapes Go.WideShapes Go.ChangeAt Go.RowKit Go.Proofs.NumMath Go.Proofs.FrameMath

theorem stops_math (a b c : List UInt8) (y : UInt8) (hb : 0 < b.length) (hbl : b.length ≤ 4096) (ha : a.length ≤ 4096) (hy : y ≠ (frame b).getD ((frame b).length - 1) 0) :
    scanF (frame a ++ ((frame b).set ((frame b).length - 1) y ++ frame c)) = ([a], (frame a).length, 30) := by
  have hfl := frame_length b
  have e0 : (frame b).length - 1 = (put b.length).length + (4 + (b.length - 1)) := by omega
  rw [e0] at hy ⊢
  have hf : frame b = put b.length ++ (four (sum b) ++ b) := rfl
  have e1 : (frame b).set ((put b.length).length + (4 + (b.length - 1))) y = put b.length ++ (four (sum b) ++ b.set (b.length - 1) y) := by
    rw [hf, List.set_append_right _ _ (by omega), Nat.add_sub_cancel_left, List.set_append_right _ _ (by rw [four_length]; omega), four_length, Nat.add_sub_cancel_left]
  have e2 : (frame b).getD ((put b.length).length + (4 + (b.length - 1))) 0 = b.getD (b.length - 1) 0 := by
    rw [hf]
    simp only [List.getD_eq_getElem?_getD]
    rw [List.getElem?_append_right (by omega), Nat.add_sub_cancel_left, List.getElem?_append_right (by rw [four_length]; omega), four_length, Nat.add_sub_cancel_left]
  rw [e2] at hy
  rw [e1]
  have hT := take_at (frame a) (four (sum b)) (b.set (b.length - 1) y) (frame c) (four_length _) (by simpa using hbl)
  rw [if_neg (fun he => sum_set (by omega) hy (four_inj (sum_lt _) (sum_lt _) he).symm)] at hT
  have h := scanF_wrong [a] (put b.length ++ (four (sum b) ++ (b.set (b.length - 1) y ++ frame c))) 30 (by simpa using ha) (by have := put_pos b.length; simp; omega) (by omega) (by simpa using hT)
  simpa using h

set_option maxRecDepth 100000 in
set_option maxHeartbeats 4000000 in
theorem stops_walk (A B C : Option Addr) (a b c : List UInt8) (ca cb cc : Nat) (v : UInt8) (w : World) (hza : a.length ≤ 140737488351232) (hzb : b.length ≤ 140737488351232) (hzc : c.length ≤ 140737488351232)
    (hra : Holds8 w.heap.size w A a) (hrb : Holds8 w.heap.size w B b) (hrc : Holds8 w.heap.size w C c) (hA : A = none → ca = 0) (hB : B = none → cb = 0) (hC : C = none → cc = 0) :
    Calls Try.prog 3 #[.slice A a.length ca, .slice B b.length cb, .slice C c.length cc, .int .u8 (v.toNat : Int)] w fun e w' => e = .returned (.bool true) ∧ Below w.heap.size w w' := by
  obtain ⟨la, hla⟩ : ∃ n, a.length = n := ⟨_, rfl⟩
  obtain ⟨lb, hlb⟩ : ∃ n, b.length = n := ⟨_, rfl⟩
  obtain ⟨lc, hlc⟩ : ∃ n, c.length = n := ⟨_, rfl⟩
  rw [hla] at hza ⊢
  rw [hlb] at hzb ⊢
  rw [hlc] at hzc ⊢
  have HLA := Lib.hid hla
  have HLB := Lib.hid hlb
  have HLC := Lib.hid hlc
  have HRA := Lib.hid hra
  have HRB := Lib.hid hrb
  have HRC := Lib.hid hrc
  have HA := Lib.hid hA
  have HB := Lib.hid hB
  have HC := Lib.hid hC
  have hvl := v.toNat_lt
  clear hla hlb hlc hra hrb hrc hA hB hC
  by_cases hbad : 200 < la + lb + lc ∨ lb = 0 ∨ 60 < lb ∨ v.toNat = 0
  · by_cases h1 : 200 < la + lb + lc
    · have d1 : decide ((200 : Int) < (la : Int) + (lb : Int) + (lc : Int)) = true := by simp; omega
      go_enter Try.func3, Try.ntmps3
      go_wp2_with fail
      refine (known_any _).mono ?_
      rintro e w1 ⟨rfl, hb1⟩
      go_wp2_with fail
      go_ret
      exact ⟨rfl, hb1⟩
    have d1 : decide ((200 : Int) < (la : Int) + (lb : Int) + (lc : Int)) = false := by simp; omega
    by_cases h2 : lb = 0
    · have d2 : ((lb : Int) == 0) = true := by simp; exact h2
      go_enter Try.func3, Try.ntmps3
      go_wp2_with fail
      refine (known_any _).mono ?_
      rintro e w1 ⟨rfl, hb1⟩
      go_wp2_with fail
      go_ret
      exact ⟨rfl, hb1⟩
    have d2 : ((lb : Int) == 0) = false := by simp; exact h2
    by_cases h3 : 60 < lb
    · have d3 : decide ((60 : Int) < (lb : Int)) = true := by simp; omega
      go_enter Try.func3, Try.ntmps3
      go_wp2_with fail
      refine (known_any _).mono ?_
      rintro e w1 ⟨rfl, hb1⟩
      go_wp2_with fail
      go_ret
      exact ⟨rfl, hb1⟩
    have d3 : decide ((60 : Int) < (lb : Int)) = false := by simp; omega
    have d4 : ((v.toNat : Int) == 0) = true := by simp; omega
    go_enter Try.func3, Try.ntmps3
    go_wp2_with fail
    refine (known_any _).mono ?_
    rintro e w1 ⟨rfl, hb1⟩
    go_wp2_with fail
    go_ret
    exact ⟨rfl, hb1⟩
  have d1 : decide ((200 : Int) < (la : Int) + (lb : Int) + (lc : Int)) = false := by simp; omega
  have d2 : ((lb : Int) == 0) = false := by simp; omega
  have d3 : decide ((60 : Int) < (lb : Int)) = false := by simp; omega
  have d4 : ((v.toNat : Int) == 0) = false := by simp; omega
  have hv0 : v.toNat ≠ 0 := by omega
  have hs1 : la + lb + lc ≤ 200 := by omega
  have hs2 : lb ≤ 60 := by omega
  have hs3 : 1 ≤ lb := by omega
  clear hbad
  obtain ⟨fa, hfa⟩ : ∃ n, (frame a).length = n := ⟨_, rfl⟩
  obtain ⟨fc, hfc⟩ : ∃ n, (frame c).length = n := ⟨_, rfl⟩
  have hfb : (frame b).length = lb + 5 := by rw [frame_length, HLB.out, put_one (by omega)]; omega
  have hfa2 : fa ≤ la + 6 := by have := put_le2 (n := la) (by omega); rw [← hfa, frame_length, HLA.out]; omega
  have hfc2 : fc ≤ lc + 6 := by have := put_le2 (n := lc) (by omega); rw [← hfc, frame_length, HLC.out]; omega
  have HFA := Lib.hid hfa
  have HFB := Lib.hid hfb
  have HFC := Lib.hid hfc
  obtain ⟨x, hx⟩ : ∃ x, (frame b).getD (lb + 4) 0 = x := ⟨_, rfl⟩
  obtain ⟨y, hy, hyx⟩ := bend x v hv0
  have HSC : Hid (scanF (frame a ++ ((frame b).set (lb + 4) y ++ frame c)) = ([a], fa, 30)) := Lib.hid (by
    have h := stops_math a b c y (by rw [HLB.out]; omega) (by rw [HLB.out]; omega) (by rw [HLA.out]; omega) (by rw [HFB.out]; show y ≠ (frame b).getD (lb + 4) 0; rw [hx]; exact hyx)
    rw [HFB.out, HFA.out] at h
    exact h)
  have HX := Lib.hid hx
  have hxl := x.toNat_lt
  clear hfa hfb hfc hx hyx hv0
  go_enter Try.func3, Try.ntmps3
  go_wp2_with fail
  refine (frame_fits A a la ca fa w HLA.out HFA.out (by omega) HRA.out HA.out).mono ?_
  rintro e w1 ⟨A1, c1, rfl, hown1, hB1⟩
  have HR1 := Lib.hid (own_facts hown1).2.2
  have HN1 : Hid (A1 = none → c1 = 0) := Lib.hid (fun h => by
    obtain ⟨g, e, _⟩ := own_parts hown1 (by have := frame_pos a; omega)
    rw [h] at e; cases e)
  clear hown1
  go_wp2_with fail
  refine (frame_fits B b lb cb (lb + 5) w1 HLB.out HFB.out (by omega) (HRB.out.later hB1) HB.out).mono ?_
  rintro e w2 ⟨A2, c2, rfl, hown2, hb2⟩
  have HR12 := Lib.hid (HR1.out.later hb2)
  have hB2 := hB1.trans (hb2.mono hB1.size)
  have HO2 := Lib.hid hown2
  have hS1 := hB1.size
  clear hown2
  go_wp2_with fail
  refine (frame_fits C c lc cc fc w2 HLC.out HFC.out (by omega) (HRC.out.later hB2) HC.out).mono ?_
  rintro e w3 ⟨A3, c3, rfl, hown3, hb3⟩
  have HR3 := Lib.hid (own_facts hown3).2.2
  have HN3 : Hid (A3 = none → c3 = 0) := Lib.hid (fun h => by
    obtain ⟨g, e, _⟩ := own_parts hown3 (by have := frame_pos c; omega)
    rw [h] at e; cases e)
  have hB3 := hB2.trans (hb3.mono hB2.size)
  have hb13 := hb2.trans (hb3.mono hb2.size)
  have HO23 := Lib.hid (own_later HO2.out hb3)
  obtain ⟨g2, hA2, hg2, hcell, hfroz⟩ := own_parts HO23.out (by rw [HFB.out]; omega)
  have hg2l : g2 < w2.heap.size := by
    obtain ⟨b', off', e', hlt, _⟩ := (own_facts HO2.out).2.2 (by rw [HFB.out]; omega)
    rw [hA2] at e'
    injection e' with e'
    injection e' with e1
    omega
  subst hA2
  have hck := hcell (lb + 4) (by rw [HFB.out]; omega)
  have hfk := hfroz (lb + 4) (by rw [HFB.out]; omega)
  rw [HX.out] at hck
  unfold b8 at hck
  have hc2 := (own_facts HO23.out).1
  rw [HFB.out] at hc2
  have hidx : (lb : Int) + 5 - 1 = (lb : Int) + 4 := by omega
  have HG := Lib.hid (own_set HO23.out HFB.out.symm hg2 hb13 (lb + 4) y)
  have HZ := Lib.hid (own_facts (ownsRow_setCell_below hown3 (a := ⟨g2, lb + 4, none⟩) hg2l (.int .u8 (y.toNat : Int)))).2.2
  have HX1 := Lib.hid (HR1.out.later HG.out.2)
  have HY := Lib.hid (own_facts HG.out.1).2.2
  have hBW := hB1.trans (HG.out.2.mono hS1)
  have hSW := hBW.size
  have HLy : Hid (((frame b).set (lb + 4) y).length = lb + 5) := Lib.hid (by rw [List.length_set, HFB.out])
  have HL2 : Hid ((frame a ++ (frame b).set (lb + 4) y).length = fa + (lb + 5)) := Lib.hid (by rw [List.length_append, HFA.out, HLy.out])
  have HL3 : Hid ((frame a ++ (frame b).set (lb + 4) y ++ frame c).length = fa + (lb + 5) + fc) := Lib.hid (by rw [List.length_append, HL2.out, HFC.out])
  clear hown3 hcell hfroz hb2 hb3 hb13 HO2 HR12 HR3
  go_wp2_with (first
    | (at_builtin; refine app_bytes rfl (.tmp 73) (.tmp 74) rfl (w3.setCell ⟨g2, lb + 4, none⟩ (.int .u8 (y.toNat : Int))).heap.size (w3.setCell ⟨g2, lb + 4, none⟩ (.int .u8 (y.toNat : Int))).heap.size (.slice none 0 0) [] (frame a) (frame a) fa rfl HFA.out rfl own_none A1 fa c1 rfl HFA.out HX1.out HN1.out (by omega) (Nat.le_refl _) ?_; intro A5 c5 w5 hown5 hg5; have hb5 := below_grown (Below.refl _ _) (Nat.le_refl _) own_none hg5; have hS5 := hb5.size; have HO5 := Lib.hid hown5; clear hown5 hg5)
    | (at_builtin; refine app_bytes rfl (.tmp 76) (.tmp 77) rfl (w3.setCell ⟨g2, lb + 4, none⟩ (.int .u8 (y.toNat : Int))).heap.size (w3.setCell ⟨g2, lb + 4, none⟩ (.int .u8 (y.toNat : Int))).heap.size (.slice A5 fa c5) (frame a) ((frame b).set (lb + 4) y) (frame a ++ (frame b).set (lb + 4) y) (fa + (lb + 5)) rfl HL2.out rfl HO5.out (some ⟨g2, 0, none⟩) (lb + 5) c2 rfl HLy.out (HY.out.below hb5) (fun h => by cases h) (by omega) hS5 ?_; intro A6 c6 w6 hown6 hg6; have hb6 := below_grown hb5 hS5 HO5.out hg6; have hS6 := hb6.size; have HO6 := Lib.hid hown6; clear hown6 hg6)
    | (at_builtin; refine app_bytes rfl (.tmp 79) (.tmp 80) rfl (w3.setCell ⟨g2, lb + 4, none⟩ (.int .u8 (y.toNat : Int))).heap.size (w3.setCell ⟨g2, lb + 4, none⟩ (.int .u8 (y.toNat : Int))).heap.size (.slice A6 (fa + (lb + 5)) c6) (frame a ++ (frame b).set (lb + 4) y) (frame c) (frame a ++ (frame b).set (lb + 4) y ++ frame c) (fa + (lb + 5) + fc) rfl HL3.out rfl HO6.out A3 fc c3 rfl HFC.out (HZ.out.below hb6) HN3.out (by omega) hS6 ?_; intro A7 c7 w7 hown7 hg7; have hb7 := below_grown hb6 hS6 HO6.out hg7; have HO7 := Lib.hid hown7; clear hown7 hg7))
  obtain ⟨hc7, hm7, hr7⟩ := own_facts HO7.out
  rw [HL3.out] at hc7
  have hB7 := hBW.trans (hb7.mono hSW)
  have HS3 : Hid (scanF (frame a ++ (frame b).set (lb + 4) y ++ frame c) = ([a], fa, 30)) := Lib.hid (by rw [List.append_assoc]; exact HSC.out)
  have hscan := scan_any A7 (frame a ++ (frame b).set (lb + 4) y ++ frame c) (fa + (lb + 5) + fc) c7 w7 HL3.out (by omega) hc7 hm7 hr7
  rw [HS3.out] at hscan
  have HSN := Lib.hid hscan
  clear hscan hr7 hb5 hb6 hb7 HO5 HO6 HO7 HG HZ HX1 HY hck hfk
  refine HSN.out.mono ?_
  rintro e w8 ⟨v8, vs, rfl, hown8, hrows, hb8⟩
  have hB8 := hB7.trans (hb8.mono hB7.size)
  obtain ⟨u, hu, hru⟩ := hrows.2 0 (by simp)
  have hvl1 : vs = [u] := by
    have h1 := hrows.1
    match vs, h1, hu with
    | [z], _, hu => simp at hu; rw [hu]
  subst hvl1
  obtain ⟨Au, cu, hue, _, _, hholds⟩ := holds_of_own hru
  have hga : ([a] : List (List UInt8)).getD 0 [] = a := rfl
  rw [hga, HLA.out] at hue
  rw [hga] at hholds
  subst hue
  rcases hown8.2 with ⟨_, h0⟩ | ⟨g8, cap8, cur8, hv8, _, hg8, _, hcm8, _, ht8⟩
  · simp at h0
  have hcell8 : w8.cell? ⟨g8, 0, none⟩ = some (.slice Au la cu) := by
    subst hv8
    have h := hown8.cellAt 0 (by simp)
    simpa using h
  have hlt8 : g8 < w8.heap.size := (Array.getElem?_eq_some_iff.1 hg8).1
  simp only [List.length_cons, List.length_nil, Nat.zero_add] at hv8
  subst hv8
  have HH := Lib.hid hholds
  clear hown8 hrows hb8 hru hu hholds hg8 ht8
  have hmx : Try.prog.follows .mixedOrders = true := by kernel_rfl
  obtain ⟨sa, hsa⟩ : ∃ sa : ByteArray, (⟨a.toArray⟩ : ByteArray) = sa := ⟨_, rfl⟩
  have HSA := Lib.hid hsa
  clear hsa
  go_wp2_with fail
  have SB : ∀ W : World, Below w8.heap.size w8 W → W.cell? ⟨g8, 0, none⟩ = some (.slice Au la cu) ∧ (convert 22 9 (.slice Au la cu)).run Try.prog W = .ok (.string sa) W ∧ (convert 22 9 (.slice A la ca)).run Try.prog W = .ok (.string sa) W := fun W hb => by
    refine ⟨(hb.cell (p := ⟨g8, 0, none⟩) hlt8).trans hcell8, ?_, ?_⟩
    · rw [← HSA.out]; exact text_run Au a la cu W _ HLA.out (HH.out.later hb)
    · rw [← HSA.out]; exact text_run A a la ca W _ HLA.out (HRA.out.later (hB8.trans (hb.mono hB8.size)))
  have hBd : Below w8.heap.size w8 w8.drew := (Below.refl _ _).drew
  refine wp_region_held_drew (S := fun W => Below w8.heap.size w8 W) (by kernel_rfl) ?_ (fun hHeld => ?_)
  · exact hBd
  refine wpAnyH_ready (rs := [0]) (by kernel_rfl) (by simp) ?_
  refine AllReadyH.cons rfl (fun K hK => ?_) AllReadyH.nil
  go_simp
  refine (known_any _).mono ?_
  rintro e w9 ⟨rfl, hb9⟩
  have hb9' : Below w8.heap.size w8 w9 := undrewn hb9
  clear hb9
  clear hHeld
  (try go_wp2_with fail)
  refine hK.out _ _ ?_ (fun hHeld => ?_)
  · exact hb9'
  clear hK K
  try simp only [Act.put, List.getElem_toArray, List.getElem_cons_succ, List.getElem_cons_zero, List.setIfInBounds_toArray, List.set_cons_zero, List.set_cons_succ]
  refine wpAnyH_take (i := 1) (v := ?_) rfl (by kernel_rfl) (by kernel_rfl) (by kernel_rfl) (fun _ _ _ h => h) (Or.inl ⟨by rfl, ?_⟩) (by assumption) ?_
  rotate_left
  · intro wq hSw; (try dsimp only at hSw); obtain ⟨hsw1, hsw2, hsw3⟩ := SB _ hSw; go_simp; (try with_reducible rfl)
  simp only [Act.put, List.getElem_toArray, List.getElem_cons_succ, List.getElem_cons_zero, List.setIfInBounds_toArray, List.set_cons_zero, List.set_cons_succ]
  refine wpAnyH_take (i := 2) (v := ?_) rfl (by kernel_rfl) (by kernel_rfl) (by kernel_rfl) (fun _ _ _ h => h) (Or.inl ⟨by rfl, ?_⟩) (by assumption) ?_
  rotate_left
  · intro wq hSw; (try dsimp only at hSw); obtain ⟨hsw1, hsw2, hsw3⟩ := SB _ hSw; go_simp; (try with_reducible rfl)
  simp only [Act.put, List.getElem_toArray, List.getElem_cons_succ, List.getElem_cons_zero, List.setIfInBounds_toArray, List.set_cons_zero, List.set_cons_succ]
  refine wpAnyH_take (i := 3) (v := ?_) rfl (by kernel_rfl) (by kernel_rfl) (by kernel_rfl) (fun _ _ _ h => h) (Or.inl ⟨by rfl, ?_⟩) (by assumption) ?_
  rotate_left
  · intro wq hSw; (try dsimp only at hSw); obtain ⟨hsw1, hsw2, hsw3⟩ := SB _ hSw; go_simp; (try with_reducible rfl)
  simp only [Act.put, List.getElem_toArray, List.getElem_cons_succ, List.getElem_cons_zero, List.setIfInBounds_toArray, List.set_cons_zero, List.set_cons_succ]
  refine wpAnyH_take (i := 4) (v := ?_) rfl (by kernel_rfl) (by kernel_rfl) (by kernel_rfl) (fun _ _ _ h => h) (Or.inl ⟨by rfl, ?_⟩) (by assumption) ?_
  rotate_left
  · intro wq hSw; (try dsimp only at hSw); obtain ⟨hsw1, hsw2, hsw3⟩ := SB _ hSw; go_simp; (try with_reducible rfl)
  simp only [Act.put, List.getElem_toArray, List.getElem_cons_succ, List.getElem_cons_zero, List.setIfInBounds_toArray, List.set_cons_zero, List.set_cons_succ]
  refine wpAnyH_take (i := 5) (v := ?_) rfl (by kernel_rfl) (by kernel_rfl) (by kernel_rfl) (fun _ _ _ h => h) (Or.inl ⟨by rfl, ?_⟩) (by assumption) ?_
  rotate_left
  · intro wq hSw; (try dsimp only at hSw); obtain ⟨hsw1, hsw2, hsw3⟩ := SB _ hSw; go_simp; (try with_reducible rfl)
  simp only [Act.put, List.getElem_toArray, List.getElem_cons_succ, List.getElem_cons_zero, List.setIfInBounds_toArray, List.set_cons_zero, List.set_cons_succ]
  refine wpAnyH_take (i := 6) (v := ?_) rfl (by kernel_rfl) (by kernel_rfl) (by kernel_rfl) (fun _ _ _ h => h) (Or.inl ⟨by rfl, ?_⟩) (by assumption) ?_
  rotate_left
  · intro wq hSw; (try dsimp only at hSw); obtain ⟨hsw1, hsw2, hsw3⟩ := SB _ hSw; go_simp; (try with_reducible rfl)
  simp only [Act.put, List.getElem_toArray, List.getElem_cons_succ, List.getElem_cons_zero, List.setIfInBounds_toArray, List.set_cons_zero, List.set_cons_succ]
  refine wpAnyH_take (i := 7) (v := ?_) rfl (by kernel_rfl) (by kernel_rfl) (by kernel_rfl) (fun _ _ _ h => h) (Or.inl ⟨by rfl, ?_⟩) (by assumption) ?_
  rotate_left
  · intro wq hSw; (try dsimp only at hSw); obtain ⟨hsw1, hsw2, hsw3⟩ := SB _ hSw; go_simp; (try with_reducible rfl)
  simp only [Act.put, List.getElem_toArray, List.getElem_cons_succ, List.getElem_cons_zero, List.setIfInBounds_toArray, List.set_cons_zero, List.set_cons_succ]
  refine wpAnyH_take (i := 8) (v := ?_) rfl (by kernel_rfl) (by kernel_rfl) (by kernel_rfl) (fun _ _ _ h => h) (Or.inl ⟨by rfl, ?_⟩) (by assumption) ?_
  rotate_left
  · intro wq hSw; (try dsimp only at hSw); obtain ⟨hsw1, hsw2, hsw3⟩ := SB _ hSw; go_simp; (try with_reducible rfl)
  simp only [Act.put, List.getElem_toArray, List.getElem_cons_succ, List.getElem_cons_zero, List.setIfInBounds_toArray, List.set_cons_zero, List.set_cons_succ]
  refine wpAnyH_take (i := 9) (v := ?_) rfl (by kernel_rfl) (by kernel_rfl) (by kernel_rfl) (fun _ _ _ h => h) (Or.inl ⟨by rfl, ?_⟩) (by assumption) ?_
  rotate_left
  · intro wq hSw; (try dsimp only at hSw); obtain ⟨hsw1, hsw2, hsw3⟩ := SB _ hSw; go_simp; (try with_reducible rfl)
  simp only [Act.put, List.getElem_toArray, List.getElem_cons_succ, List.getElem_cons_zero, List.setIfInBounds_toArray, List.set_cons_zero, List.set_cons_succ]
  refine wpAnyH_take (i := 10) (v := ?_) rfl (by kernel_rfl) (by kernel_rfl) (by kernel_rfl) (fun _ _ _ h => h) (Or.inl ⟨by rfl, ?_⟩) (by assumption) ?_
  rotate_left
  · intro wq hSw; (try dsimp only at hSw); obtain ⟨hsw1, hsw2, hsw3⟩ := SB _ hSw; go_simp; (try with_reducible rfl)
  simp only [Act.put, List.getElem_toArray, List.getElem_cons_succ, List.getElem_cons_zero, List.setIfInBounds_toArray, List.set_cons_zero, List.set_cons_succ]
  refine wpAnyH_take (i := 11) (v := ?_) rfl (by kernel_rfl) (by kernel_rfl) (by kernel_rfl) (fun _ _ _ h => h) (Or.inl ⟨by rfl, ?_⟩) (by assumption) ?_
  rotate_left
  · intro wq hSw; (try dsimp only at hSw); obtain ⟨hsw1, hsw2, hsw3⟩ := SB _ hSw; go_simp; (try with_reducible rfl)
  simp only [Act.put, List.getElem_toArray, List.getElem_cons_succ, List.getElem_cons_zero, List.setIfInBounds_toArray, List.set_cons_zero, List.set_cons_succ]
  refine wpAnyH_take (i := 12) (v := ?_) rfl (by kernel_rfl) (by kernel_rfl) (by kernel_rfl) (fun _ _ _ h => h) (Or.inl ⟨by rfl, ?_⟩) (by assumption) ?_
  rotate_left
  · intro wq hSw; (try dsimp only at hSw); obtain ⟨hsw1, hsw2, hsw3⟩ := SB _ hSw; go_simp; (try with_reducible rfl)
  simp only [Act.put, List.getElem_toArray, List.getElem_cons_succ, List.getElem_cons_zero, List.setIfInBounds_toArray, List.set_cons_zero, List.set_cons_succ]
  refine wpAnyH_take (i := 13) (v := ?_) rfl (by kernel_rfl) (by kernel_rfl) (by kernel_rfl) (fun _ _ _ h => h) (Or.inl ⟨by rfl, ?_⟩) (by assumption) ?_
  rotate_left
  · intro wq hSw; (try dsimp only at hSw); obtain ⟨hsw1, hsw2, hsw3⟩ := SB _ hSw; go_simp; (try with_reducible rfl)
  simp only [Act.put, List.getElem_toArray, List.getElem_cons_succ, List.getElem_cons_zero, List.setIfInBounds_toArray, List.set_cons_zero, List.set_cons_succ]
  refine wpAnyH_take (i := 14) (v := ?_) rfl (by kernel_rfl) (by kernel_rfl) (by kernel_rfl) (fun _ _ _ h => h) (Or.inl ⟨by rfl, ?_⟩) (by assumption) ?_
  rotate_left
  · intro wq hSw; (try dsimp only at hSw); obtain ⟨hsw1, hsw2, hsw3⟩ := SB _ hSw; go_simp; (try with_reducible rfl)
  simp only [Act.put, List.getElem_toArray, List.getElem_cons_succ, List.getElem_cons_zero, List.setIfInBounds_toArray, List.set_cons_zero, List.set_cons_succ]
  refine wpAnyH_take (i := 15) (v := ?_) rfl (by kernel_rfl) (by kernel_rfl) (by kernel_rfl) (fun _ _ _ h => h) (Or.inl ⟨by rfl, ?_⟩) (by assumption) ?_
  rotate_left
  · intro wq hSw; (try dsimp only at hSw); obtain ⟨hsw1, hsw2, hsw3⟩ := SB _ hSw; go_simp; (try with_reducible rfl)
  simp only [Act.put, List.getElem_toArray, List.getElem_cons_succ, List.getElem_cons_zero, List.setIfInBounds_toArray, List.set_cons_zero, List.set_cons_succ]
  refine wpAnyH_take (i := 16) (v := ?_) rfl (by kernel_rfl) (by kernel_rfl) (by kernel_rfl) (fun _ _ _ h => h) (Or.inl ⟨by rfl, ?_⟩) (by assumption) ?_
  rotate_left
  · intro wq hSw; (try dsimp only at hSw); obtain ⟨hsw1, hsw2, hsw3⟩ := SB _ hSw; go_simp; (try with_reducible rfl)
  simp only [Act.put, List.getElem_toArray, List.getElem_cons_succ, List.getElem_cons_zero, List.setIfInBounds_toArray, List.set_cons_zero, List.set_cons_succ]
  refine wpAnyH_take (i := 17) (v := ?_) rfl (by kernel_rfl) (by kernel_rfl) (by kernel_rfl) (fun _ _ _ h => h) (Or.inl ⟨by rfl, ?_⟩) (by assumption) ?_
  rotate_left
  · intro wq hSw; (try dsimp only at hSw); obtain ⟨hsw1, hsw2, hsw3⟩ := SB _ hSw; go_simp; (try with_reducible rfl)
  simp only [Act.put, List.getElem_toArray, List.getElem_cons_succ, List.getElem_cons_zero, List.setIfInBounds_toArray, List.set_cons_zero, List.set_cons_succ]
  refine wpAnyH_take (i := 18) (v := ?_) rfl (by kernel_rfl) (by kernel_rfl) (by kernel_rfl) (fun _ _ _ h => h) (Or.inl ⟨by rfl, ?_⟩) (by assumption) ?_
  rotate_left
  · intro wq hSw; (try dsimp only at hSw); obtain ⟨hsw1, hsw2, hsw3⟩ := SB _ hSw; go_simp; (try with_reducible rfl)
  simp only [Act.put, List.getElem_toArray, List.getElem_cons_succ, List.getElem_cons_zero, List.setIfInBounds_toArray, List.set_cons_zero, List.set_cons_succ]
  refine wpAnyH_take (i := 19) (v := ?_) rfl (by kernel_rfl) (by kernel_rfl) (by kernel_rfl) (fun _ _ _ h => h) (Or.inl ⟨by rfl, ?_⟩) (by assumption) ?_
  rotate_left
  · intro wq hSw; (try dsimp only at hSw); obtain ⟨hsw1, hsw2, hsw3⟩ := SB _ hSw; go_simp; (try with_reducible rfl)
  simp only [Act.put, List.getElem_toArray, List.getElem_cons_succ, List.getElem_cons_zero, List.setIfInBounds_toArray, List.set_cons_zero, List.set_cons_succ]
  refine wpAnyH_take (i := 20) (v := ?_) rfl (by kernel_rfl) (by kernel_rfl) (by kernel_rfl) (fun _ _ _ h => h) (Or.inl ⟨by rfl, ?_⟩) (by assumption) ?_
  rotate_left
  · intro wq hSw; (try dsimp only at hSw); obtain ⟨hsw1, hsw2, hsw3⟩ := SB _ hSw; go_simp; (try with_reducible rfl)
  simp only [Act.put, List.getElem_toArray, List.getElem_cons_succ, List.getElem_cons_zero, List.setIfInBounds_toArray, List.set_cons_zero, List.set_cons_succ]
  refine wpAnyH_take (i := 21) (v := ?_) rfl (by kernel_rfl) (by kernel_rfl) (by kernel_rfl) (fun _ _ _ h => h) (Or.inl ⟨by rfl, ?_⟩) (by assumption) ?_
  rotate_left
  · intro wq hSw; (try dsimp only at hSw); obtain ⟨hsw1, hsw2, hsw3⟩ := SB _ hSw; go_simp; (try with_reducible rfl)
  simp only [Act.put, List.getElem_toArray, List.getElem_cons_succ, List.getElem_cons_zero, List.setIfInBounds_toArray, List.set_cons_zero, List.set_cons_succ]
  refine wpAnyH_take (i := 22) (v := ?_) rfl (by kernel_rfl) (by kernel_rfl) (by kernel_rfl) (fun _ _ _ h => h) (Or.inl ⟨by rfl, ?_⟩) (by assumption) ?_
  rotate_left
  · intro wq hSw; (try dsimp only at hSw); obtain ⟨hsw1, hsw2, hsw3⟩ := SB _ hSw; go_simp; (try with_reducible rfl)
  simp only [Act.put, List.getElem_toArray, List.getElem_cons_succ, List.getElem_cons_zero, List.setIfInBounds_toArray, List.set_cons_zero, List.set_cons_succ]
  refine wpAnyH_take (i := 23) (v := ?_) rfl (by kernel_rfl) (by kernel_rfl) (by kernel_rfl) (fun _ _ _ h => h) (Or.inl ⟨by rfl, ?_⟩) (by assumption) ?_
  rotate_left
  · intro wq hSw; (try dsimp only at hSw); obtain ⟨hsw1, hsw2, hsw3⟩ := SB _ hSw; go_simp; (try with_reducible rfl)
  simp only [Act.put, List.getElem_toArray, List.getElem_cons_succ, List.getElem_cons_zero, List.setIfInBounds_toArray, List.set_cons_zero, List.set_cons_succ]
  refine wpAnyH_take (i := 24) (v := ?_) rfl (by kernel_rfl) (by kernel_rfl) (by kernel_rfl) (fun _ _ _ h => h) (Or.inl ⟨by rfl, ?_⟩) (by assumption) ?_
  rotate_left
  · intro wq hSw; (try dsimp only at hSw); obtain ⟨hsw1, hsw2, hsw3⟩ := SB _ hSw; go_simp; (try with_reducible rfl)
  simp only [Act.put, List.getElem_toArray, List.getElem_cons_succ, List.getElem_cons_zero, List.setIfInBounds_toArray, List.set_cons_zero, List.set_cons_succ]
  refine wpAnyH_take (i := 25) (v := ?_) rfl (by kernel_rfl) (by kernel_rfl) (by kernel_rfl) (fun _ _ _ h => h) (Or.inl ⟨by rfl, ?_⟩) (by assumption) ?_
  rotate_left
  · intro wq hSw; (try dsimp only at hSw); obtain ⟨hsw1, hsw2, hsw3⟩ := SB _ hSw; go_simp; (try with_reducible rfl)
  simp only [Act.put, List.getElem_toArray, List.getElem_cons_succ, List.getElem_cons_zero, List.setIfInBounds_toArray, List.set_cons_zero, List.set_cons_succ]
  refine wpAnyH_done (by kernel_rfl) ?_ _
  clear hHeld
  have hB9 := hB8.trans (hb9'.mono hB8.size)
  go_wp2
  go_ret
  exact ⟨by simp, hB9⟩

namespace FrameStops
set_option linter.unusedSimpArgs false in
set_option maxRecDepth 100000 in
theorem lifted (os : Os) (started : os.Started) (H : Type) (enc : TypeId × Value → H) :
    ReturnsInHanded {} Try.checked os 3 .any (Rows.frameStopsSpec.pre6 enc Try.prog Try.f3 Rows.frameStopsRow.domain false) (Rows.frameStopsSpec.post enc Try.prog Try.f3 false true false false) := by
  refine returnsInHanded_of_change_sized (C := Try.checked) own started (by kernel_rfl) Try.func3
    (ChangeSpec.witness6 (enc := enc) (C := Try.checked) false ⟨#[], #[.slice none 0 0, .slice none 0 0, .slice none 0 0, .int .u8 0], []⟩ 8 (by kernel_rfl) (by kernel_rfl) (by kernel_rfl) (by kernel_rfl)) ?_
  intro W base args ds gs before hval0 hW _ hsz _
  have hval : ∀ (j : Nat) t v, Try.f3.params[j]? = some t → args[j]? = some v → Value.okWide Try.prog W .any base t v := hval0
  have hW' := hW
  obtain ⟨p, q, hA0, hV, rfl, _, _⟩ := hW
  have hA : DataW.TrodAll enc Try.prog W 0 (fun _ => true) true Try.f3.params.toList args.toList ds p := hA0
  rw [Try.params3] at hA hval
  obtain ⟨v0, vs0, d0, ds0, p0, q0, hargs, rfl, rfl, h0, r0⟩ := trodAll_cons hA
  obtain ⟨v1, vs1, d1, ds1, p1, q1, rfl, rfl, rfl, h1, r1⟩ := trodAll_cons r0
  obtain ⟨v2, vs2, d2, ds2, p2, q2, rfl, rfl, rfl, h2, r2⟩ := trodAll_cons r1
  obtain ⟨v3, vs3, d3, ds3, p3, q3, rfl, rfl, rfl, h3, r3⟩ := trodAll_cons r2
  obtain ⟨rfl, rfl, rfl⟩ := trodAll_nil r3
  obtain rfl : args = #[v0, v1, v2, v3] := by cases args; simp_all
  obtain ⟨rfl, rfl⟩ := trodVars_none hV
  obtain ⟨A0, cs0, cap0, rfl, l0, m0, b0, again0⟩ := arg_bytes (hval 0 22 v0 rfl rfl) h0
  have x0 := arg_extra h0
  have z0 := arg_reach hsz x0.2 (j := 0) rfl rfl
  obtain ⟨A1, cs1, cap1, rfl, l1, m1, b1, again1⟩ := arg_bytes (hval 1 22 v1 rfl rfl) h1
  have x1 := arg_extra h1
  have z1 := arg_reach hsz x1.2 (j := 1) rfl rfl
  obtain ⟨A2, cs2, cap2, rfl, l2, m2, b2, again2⟩ := arg_bytes (hval 2 22 v2 rfl rfl) h2
  have x2 := arg_extra h2
  have z2 := arg_reach hsz x2.2 (j := 2) rfl rfl
  obtain ⟨a3, rfl, rfl, rfl, w3⟩ := open_int Try.underlying5 (hval 3 5 v3 rfl rfl) h3
  have k3 := wf_u8 w3
  obtain ⟨n3, rfl⟩ : ∃ u : UInt8, a3 = (u.toNat : Int) := ⟨UInt8.ofNat a3.toNat, by simp; omega⟩
  clear hA0 hval0
  simp only [List.append_nil] at hW'
  refine (stops_walk A0 A1 A2 cs0 cs1 cs2 cap0 cap1 cap2 n3 W z0 z1 z2 b0 b1 b2 x0.1 x1.1 x2.1).mono fun e W' ⟨he, hg⟩ => ?_
  subst he
  exact ⟨_, rfl, true_post hW' rfl (by kernel_rfl) Try.underlying4 rfl rfl (fun sp hsp => by have h := (trodAll_cons_mk (again0 W' sp hg (fun x hx => hsp x (by simp [hx]))) (trodAll_cons_mk (again1 W' sp hg (fun x hx => hsp x (by simp [hx]))) (trodAll_cons_mk (again2 W' sp hg (fun x hx => hsp x (by simp [hx]))) (trodAll_cons_mk (shut_int Try.underlying5 w3) trodAll_mk0)))); simp only [List.append_nil, List.nil_append] at h; exact h) hg⟩

/-- **FrameStops, at every input.** -/
theorem proved : Rows.FrameStopsSaid :=
  OpenClaim.holds_of_wide 3 Try.f3 rfl rfl rfl rfl rfl rfl rfl ⟨rfl, rfl, rfl, rfl, rfl⟩ rfl rfl rfl rfl rfl (by kernel_rfl) Try.func3 (by kernel_rfl)
    (of_decide_eq_true (by kernel_rfl)) (by unfold Func.isWrapper; first | (rw [if_pos (by decide +kernel)]; kernel_rfl) | (rw [if_neg (by decide +kernel)]; exact ⟨rfl, rfl⟩))
    (fun os started H enc _ => lifted os started H enc)
end FrameStops

end Go.Proofs.Ytdjejkjkcahdgaa
