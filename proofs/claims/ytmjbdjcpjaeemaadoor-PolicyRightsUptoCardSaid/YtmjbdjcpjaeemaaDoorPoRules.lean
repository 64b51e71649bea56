/-
  What telemeterlaw12.Rules does, at every choice: rows of rules in memory of its own.
-/
import Derived.Test.YtmjbdjcpjaeemaaDoorPoRule
namespace Go.Proofs.YtmjbdjcpjaeemaaDoor
open Go.RowKit

def addLast (ls : List (List Ru)) (r : Ru) : List (List Ru) := ls.dropLast ++ [ls.getLastD [] ++ [r]]
/-- The rows that t choices of three make. -/
def rulesN (cs : List UInt8) : Nat → List (List Ru)
  | 0 => []
  | t + 1 => if at8 cs (3 * t + 2) % 3 = 0 ∧ 0 < (rulesN cs t).length then addLast (rulesN cs t) (ruleOf (at8 cs (3 * t)) (at8 cs (3 * t + 1))) else rulesN cs t ++ [[ruleOf (at8 cs (3 * t)) (at8 cs (3 * t + 1))]]
def rulesOf (cs : List UInt8) : List (List Ru) := rulesN cs (min 6 (cs.length / 3))
theorem addLast_concat (i : List (List Ru)) (row : List Ru) (r : Ru) : addLast (i ++ [row]) r = i ++ [row ++ [r]] := by
  unfold addLast
  rw [List.dropLast_concat]
  simp
theorem one_at (W : World) (n : Nat) (hn : W.heap.size = n) (C : Array Value) (T : TypeId) : ∀ j u, C.toList[j]? = some u → (W.alloc (.cells C T)).cell? ((⟨n, 0, none⟩ : Addr).add j) = some u := fun j u hu => by
  subst hn
  have e : (⟨W.heap.size, 0, none⟩ : Addr).add j = ⟨W.heap.size, j, none⟩ := by unfold Addr.add; split <;> simp_all
  rw [e, World.cell?_alloc_mark]
  simpa using hu
theorem last_at (init : List Rz) (z : Rz) : ((init ++ [z]).map rowV)[init.length]? = some (rowV z) := by simp
/-- All rows that were made: rules that may be, no row empty. -/
theorem rulesN_ok (cs : List UInt8) (t : Nat) : (rulesN cs t).length ≤ t ∧ sumM (rulesN cs t) = t ∧ ∀ row ∈ rulesN cs t, 0 < row.length ∧ ∀ r ∈ row, ∃ a b, r = ruleOf (at8 cs a) (at8 cs b) := by
  induction t with
  | zero => exact ⟨Nat.le_refl _, rfl, fun row h => by simp [rulesN] at h⟩
  | succ t ih =>
    obtain ⟨h1, h2, h3⟩ := ih
    rw [rulesN]
    split
    · rename_i hc
      have hne : rulesN cs t ≠ [] := by intro e; rw [e] at hc; simp at hc
      obtain ⟨i, row, he⟩ : ∃ i row, rulesN cs t = i ++ [row] := ⟨_, _, (List.dropLast_concat_getLast hne).symm⟩
      rw [he] at h1 h2 h3 ⊢
      rw [addLast_concat]
      refine ⟨by simp at h1 ⊢; omega, by unfold sumM at *; simp at h2 ⊢; omega, fun q hq => ?_⟩
      rcases List.mem_append.1 hq with hq | hq
      · exact h3 q (by simp [hq])
      · rw [List.mem_singleton.1 hq]
        obtain ⟨_, h5⟩ := h3 row (by simp)
        refine ⟨by simp, fun r hr => ?_⟩
        rcases List.mem_append.1 hr with hr | hr
        · exact h5 r hr
        · exact ⟨_, _, List.mem_singleton.1 hr⟩
    · refine ⟨by simp; omega, by unfold sumM at *; simp; omega, fun q hq => ?_⟩
      rcases List.mem_append.1 hq with hq | hq
      · exact h3 q hq
      · rw [List.mem_singleton.1 hq]
        exact ⟨by simp, fun r hr => ⟨_, _, List.mem_singleton.1 hr⟩⟩
set_option linter.unusedSimpArgs false in
set_option linter.unusedVariables false in
set_option maxRecDepth 100000 in
set_option maxHeartbeats 4000000 in
theorem rules_any (A0 : Option Addr) (cs : List UInt8) (len cap0 : Nat) (w : World) (hlen : cs.length = len) (hl2 : len ≤ 9223372036854775807) (hr : Holds8 w.heap.size w A0 cs) :
    Calls Tryd.prog 9 #[.slice A0 len cap0] w fun e w' => ∃ A n cap zs, e = .returned (.slice A n cap) ∧ n ≤ 6 ∧ Hid (zs.length = n ∧ zs.map (fun z => z.1) = rulesOf cs ∧ RoW w' w.heap.size (.slice A n cap) zs ∧ Below w.heap.size w w') := by
  obtain ⟨n0, hn0⟩ : ∃ n0, w.heap.size = n0 := ⟨_, rfl⟩
  rw [hn0] at hr ⊢
  have HR := Lib.hid hr
  have HL := Lib.hid hlen
  have HN0 := Lib.hid hn0
  obtain ⟨i1, ha0, ha1, ha2, ha3⟩ := info_parts info_rules
  obtain ⟨i2, hb0, hb1, hb2, hb3⟩ := info_parts info_rule
  have HST : Hid (∃ zs : List Rz, zs.length = 0 ∧ zs.map (fun z => z.1) = rulesN cs 0 ∧ RoW w n0 (.slice none 0 0) zs ∧ Below n0 w w) := Lib.hid ⟨[], rfl, rfl, RoW.nil _ _, Below.refl _ _⟩
  clear hr hlen hn0
  go_enter Tryd.func9, Tryd.ntmps9
  go_wp2_with fail
  go_loopw [3, 4] (fun ov iv wr => ∃ (A : Option Addr) (n cap i t : Nat), ov = .slice A n cap ∧ iv = .int .i64 (i : Int) ∧ n ≤ t ∧ t ≤ 6 ∧ Hid (i = 3 * t ∧ (t = 0 ∨ i ≤ len)) ∧ i ≤ 18 ∧ Hid (∃ zs : List Rz, zs.length = n ∧ zs.map (fun z => z.1) = rulesN cs t ∧ RoW wr n0 (.slice A n cap) zs ∧ Below n0 w wr)) (fun _ iv _ => 18 - (intOf iv).toNat)
  case atStart => exact ⟨none, 0, 0, 0, 0, rfl, rfl, by omega, by omega, Lib.hid ⟨rfl, .inl rfl⟩, by omega, HST⟩
  case round =>
    obtain ⟨A, n, cap, i, t, rfl, rfl, hnt, ht, HI, hi, HZ⟩ := hrel
    clear HST
    obtain ⟨p2, hp2, hp2n⟩ : ∃ p2 : Nat, (i : Int) + 2 = (p2 : Int) ∧ p2 = i + 2 := ⟨i + 2, by omega, rfl⟩
    by_cases hend : p2 < len ∧ i < 18
    · obtain ⟨hlt1, hlt2⟩ := hend
      have t1 : decide ((p2 : Int) < (len : Int)) = true := by simp; omega
      have t1n : decide (p2 < len) = true := by simp; omega
      have t2 : decide ((i : Int) < 18) = true := by simp; omega
      have t2n : decide (i < 18) = true := by simp; omega
      obtain ⟨p1, hp1, hp1n⟩ : ∃ p1 : Nat, (i : Int) + 1 = (p1 : Int) ∧ p1 = i + 1 := ⟨i + 1, by omega, rfl⟩
      obtain ⟨b, off, rfl, hb, hc⟩ := HR.out (by rw [HL.out]; omega)
      have c0 := hc i (by rw [HL.out]; omega)
      have c1 := hc p1 (by rw [HL.out]; omega)
      have c2 := hc p2 (by rw [HL.out]; omega)
      unfold b8 at c0 c1 c2
      obtain ⟨x, hx⟩ : ∃ x, (cs.getD i 0).toNat = x := ⟨_, rfl⟩
      obtain ⟨y, hy⟩ : ∃ x, (cs.getD p1 0).toNat = x := ⟨_, rfl⟩
      obtain ⟨z, hz⟩ : ∃ x, (cs.getD p2 0).toNat = x := ⟨_, rfl⟩
      have hxl : x < 256 := by rw [← hx]; exact (cs.getD i 0).toNat_lt
      have hyl : y < 256 := by rw [← hy]; exact (cs.getD p1 0).toNat_lt
      have hzl : z < 256 := by rw [← hz]; exact (cs.getD p2 0).toNat_lt
      rw [hx] at c0
      rw [hy] at c1
      rw [hz] at c2
      have HC : Hid (∀ W, Below n0 w W → W.cell? ⟨b, off + i, none⟩ = some (.int .u8 (x : Int)) ∧ W.cell? ⟨b, off + p1, none⟩ = some (.int .u8 (y : Int)) ∧ W.cell? ⟨b, off + p2, none⟩ = some (.int .u8 (z : Int))) := Lib.hid fun W hW => ⟨(hW.cell (p := ⟨b, off + i, none⟩) hb).trans c0, (hW.cell (p := ⟨b, off + p1, none⟩) hb).trans c1, (hW.cell (p := ⟨b, off + p2, none⟩) hb).trans c2⟩
      have HRU : Hid (∀ W, Calls Tryd.prog 18 #[.int .u8 (x : Int), .int .u8 (y : Int)] W fun e w' => e = .returned (.agg (ruCells (ruleOf x y))) ∧ Below W.heap.size W w') := Lib.hid fun W => rule_made x y hxl hyl W
      have HNX : Hid (rulesN cs (t + 1) = if z % 3 = 0 ∧ 0 < (rulesN cs t).length then addLast (rulesN cs t) (ruleOf x y) else rulesN cs t ++ [[ruleOf x y]]) := Lib.hid (by
        have e := HI.out.1
        rw [rulesN]
        unfold at8
        rw [← e, show i + 1 = p1 by omega, show i + 2 = p2 by omega, hx, hy, hz])
      obtain ⟨z3, hz3, hz3l⟩ : ∃ z3, z % 3 = z3 ∧ z3 < 3 := ⟨_, rfl, by omega⟩
      have tz : (z : Int).tmod 3 = (z3 : Int) := by rw [Int.tmod_eq_emod_of_nonneg (by omega)]; omega
      rw [hz3] at HNX
      obtain ⟨⟨ka, kb, kc, kd⟩, hru⟩ : ∃ r, ruleOf x y = r := ⟨_, rfl⟩
      rw [hru] at HRU HNX
      unfold ruCells at HRU
      dsimp only at HRU
      obtain ⟨nr, hnr⟩ : ∃ nr, wr.heap.size = nr := ⟨_, rfl⟩
      have HB0 : Hid (Below n0 w wr) := by obtain ⟨zs, _, _, _, h⟩ := HZ.out; exact Lib.hid h
      have HNR : Hid (n0 ≤ nr) := Lib.hid (by have := HB0.out.size; have := HN0.out; omega)
      have hBd : Below nr wr wr.drew := (Below.refl _ _).drew
      have HP1 := Lib.hid hp1n
      have HP2 := Lib.hid hp2n
      have hp1b : p1 ≤ 19 := by omega
      have wp1 : IntKind.i64.wrap (p1 : Int) = (p1 : Int) := IntWalk.i64_in _ (by omega)
      have wp2 : IntKind.i64.wrap (p2 : Int) = (p2 : Int) := IntWalk.i64_in _ (by omega)
      have hp2b : p2 ≤ 20 := by omega
      have hp1l : p1 < len := by omega
      have hil : i < len := by omega
      clear hc c0 c1 c2 hx hy hz hz3 hru hp1n hp2n
      go_upto_region 5 with fail
      go_cut [5] (fun s5 wx => ∃ g5, s5 = .pointer (some ⟨g5, 0, none⟩) ∧ Hid (Blk wx g5 #[.int .u8 (ka : Int), .int .i64 kb, .string kc, .string kd] 39 ∧ Below nr wr wx ∧ nr ≤ wx.heap.size ∧ nr ≤ g5))
      case first =>
        have HBW : Hid (∀ W, Below nr wr W → Below n0 w W ∧ nr ≤ W.heap.size) := Lib.hid fun W hW => ⟨HB0.out.trans (hW.mono HNR.out), by have := hW.size; omega⟩
        refine wp_region_held_drew (S := fun W => Below nr wr W) (by kernel_rfl) ?_ (fun hHeld => ?_)
        · exact hBd
        refine wpAnyH_take (i := 0) (v := ?_) rfl (by kernel_rfl) (by kernel_rfl) (by kernel_rfl) (fun _ _ _ h => h) (Or.inl ⟨by rfl, ?_⟩) (by assumption) ?_
        rotate_left
        · intro wq hSw; (try dsimp only at hSw); go_simp; (try with_reducible rfl)
        simp only [Act.put, List.getElem_toArray, List.getElem_cons_succ, List.getElem_cons_zero, List.setIfInBounds_toArray, List.set_cons_zero, List.set_cons_succ]
        refine wpAnyH_take (i := 1) (v := ?_) rfl (by kernel_rfl) (by kernel_rfl) (by kernel_rfl) (fun _ _ _ h => h) (Or.inl ⟨by rfl, ?_⟩) (by assumption) ?_
        rotate_left
        · intro wq hSw; (try dsimp only at hSw); go_simp; (try with_reducible rfl)
        simp only [Act.put, List.getElem_toArray, List.getElem_cons_succ, List.getElem_cons_zero, List.setIfInBounds_toArray, List.set_cons_zero, List.set_cons_succ]
        refine wpAnyH_take (i := 2) (v := ?_) rfl (by kernel_rfl) (by kernel_rfl) (by kernel_rfl) (fun _ _ _ h => h) (Or.inl ⟨by rfl, ?_⟩) (by assumption) ?_
        rotate_left
        · intro wq hSw; (try dsimp only at hSw); go_simp; (try with_reducible rfl)
        simp only [Act.put, List.getElem_toArray, List.getElem_cons_succ, List.getElem_cons_zero, List.setIfInBounds_toArray, List.set_cons_zero, List.set_cons_succ]
        refine wpAnyH_take (i := 3) (v := ?_) rfl (by kernel_rfl) (by kernel_rfl) (by kernel_rfl) (fun _ _ _ h => h) (Or.inl ⟨by rfl, ?_⟩) (by assumption) ?_
        rotate_left
        · intro wq hSw; (try dsimp only at hSw); obtain ⟨u0, u1, u2⟩ := HC.out _ (HBW.out _ hSw).1; go_simp; (try with_reducible rfl)
        simp only [Act.put, List.getElem_toArray, List.getElem_cons_succ, List.getElem_cons_zero, List.setIfInBounds_toArray, List.set_cons_zero, List.set_cons_succ]
        refine wpAnyH_take (i := 4) (v := ?_) rfl (by kernel_rfl) (by kernel_rfl) (by kernel_rfl) (fun _ _ _ h => h) (Or.inl ⟨by rfl, ?_⟩) (by assumption) ?_
        rotate_left
        · intro wq hSw; (try dsimp only at hSw); go_simp; (try with_reducible rfl)
        simp only [Act.put, List.getElem_toArray, List.getElem_cons_succ, List.getElem_cons_zero, List.setIfInBounds_toArray, List.set_cons_zero, List.set_cons_succ]
        refine wpAnyH_take (i := 5) (v := ?_) rfl (by kernel_rfl) (by kernel_rfl) (by kernel_rfl) (fun _ _ _ h => h) (Or.inl ⟨by rfl, ?_⟩) (by assumption) ?_
        rotate_left
        · intro wq hSw; (try dsimp only at hSw); go_simp; (try with_reducible rfl)
        simp only [Act.put, List.getElem_toArray, List.getElem_cons_succ, List.getElem_cons_zero, List.setIfInBounds_toArray, List.set_cons_zero, List.set_cons_succ]
        refine wpAnyH_take (i := 6) (v := ?_) rfl (by kernel_rfl) (by kernel_rfl) (by kernel_rfl) (fun _ _ _ h => h) (Or.inl ⟨by rfl, ?_⟩) (by assumption) ?_
        rotate_left
        · intro wq hSw; (try dsimp only at hSw); go_simp; (try with_reducible rfl)
        simp only [Act.put, List.getElem_toArray, List.getElem_cons_succ, List.getElem_cons_zero, List.setIfInBounds_toArray, List.set_cons_zero, List.set_cons_succ]
        refine wpAnyH_take (i := 7) (v := ?_) rfl (by kernel_rfl) (by kernel_rfl) (by kernel_rfl) (fun _ _ _ h => h) (Or.inl ⟨by rfl, ?_⟩) (by assumption) ?_
        rotate_left
        · intro wq hSw; (try dsimp only at hSw); go_simp; (try with_reducible rfl)
        simp only [Act.put, List.getElem_toArray, List.getElem_cons_succ, List.getElem_cons_zero, List.setIfInBounds_toArray, List.set_cons_zero, List.set_cons_succ]
        refine wpAnyH_take (i := 8) (v := ?_) rfl (by kernel_rfl) (by kernel_rfl) (by kernel_rfl) (fun _ _ _ h => h) (Or.inl ⟨by rfl, ?_⟩) (by assumption) ?_
        rotate_left
        · intro wq hSw; (try dsimp only at hSw); obtain ⟨u0, u1, u2⟩ := HC.out _ (HBW.out _ hSw).1; go_simp; (try with_reducible rfl)
        simp only [Act.put, List.getElem_toArray, List.getElem_cons_succ, List.getElem_cons_zero, List.setIfInBounds_toArray, List.set_cons_zero, List.set_cons_succ]
        refine wpAnyH_ready (rs := [9, 10]) (by kernel_rfl) (by simp) ?_
        refine AllReadyH.cons rfl (fun K hK => ?_) (AllReadyH.cons rfl (fun K hK => ?_) (AllReadyH.nil))
        · go_simp
          refine (HRU.out _).mono ?_
          rintro e w2 ⟨rfl, hb2'⟩
          have hb2 : Below nr wr w2 := hHeld.trans (hb2'.mono (HBW.out _ hHeld).2)
          (try go_wp2_with fail)
          refine hK.out _ _ ?_ (fun hHeld => ?_)
          · exact hb2
          clear hK K
          try simp only [Act.put, List.getElem_toArray, List.getElem_cons_succ, List.getElem_cons_zero, List.setIfInBounds_toArray, List.set_cons_zero, List.set_cons_succ]
          refine wpAnyH_ready (rs := [10]) (by kernel_rfl) (by simp) ?_
          refine AllReadyH.cons rfl (fun K hK => ?_) AllReadyH.nil
          go_simp
          (try go_wp2_with fail)
          refine hK.out _ _ ?_ (fun hHeld => ?_)
          · exact (hHeld.alloc (HBW.out _ hHeld).2 _)
          clear hK K
          try simp only [Act.put, List.getElem_toArray, List.getElem_cons_succ, List.getElem_cons_zero, List.setIfInBounds_toArray, List.set_cons_zero, List.set_cons_succ]
          refine wpAnyH_ready (rs := [11]) (by kernel_rfl) (by simp) ?_
          refine AllReadyH.cons rfl (fun K hK => ?_) AllReadyH.nil
          go_simp
          (try go_wp2_with fail)
          refine hK.out _ _ ?_ (fun hHeld => ?_)
          · exact (hb2.alloc (HBW.out _ hb2).2 _)
          clear hK K
          try simp only [Act.put, List.getElem_toArray, List.getElem_cons_succ, List.getElem_cons_zero, List.setIfInBounds_toArray, List.set_cons_zero, List.set_cons_succ]
          refine wpAnyH_done (by kernel_rfl) ?_ _
          clear hHeld
          go_wp2_with fail
          go_meet
          exact ⟨_, rfl, Lib.hid ⟨blk_new _ _ _, hb2.alloc (HBW.out _ hb2).2 _, by rw [World.size_alloc]; have := (HBW.out _ hb2).2; omega, (HBW.out _ hb2).2⟩⟩
        · go_simp
          (try go_wp2_with fail)
          refine hK.out _ _ ?_ (fun hHeld => ?_)
          · exact hHeld.alloc (HBW.out _ hHeld).2 _
          clear hK K
          try simp only [Act.put, List.getElem_toArray, List.getElem_cons_succ, List.getElem_cons_zero, List.setIfInBounds_toArray, List.set_cons_zero, List.set_cons_succ]
          refine wpAnyH_ready (rs := [9]) (by kernel_rfl) (by simp) ?_
          refine AllReadyH.cons rfl (fun K hK => ?_) AllReadyH.nil
          go_simp
          refine (HRU.out _).mono ?_
          rintro e w2 ⟨rfl, hb2'⟩
          have hb2 : Below nr wr w2 := hHeld.trans (hb2'.mono (HBW.out _ hHeld).2)
          have hk2 : Blk w2 nr #[.int .u8 0, .int .i64 0, .string ⟨#[]⟩, .string ⟨#[]⟩] 39 := by rw [← hnr]; exact (blk_new wr.drew #[.int .u8 0, .int .i64 0, .string ⟨#[]⟩, .string ⟨#[]⟩] 39).later hb2'
          have z0 := hk2.cell 0 rfl
          have z1 := hk2.cell 1 rfl
          have z2 := hk2.cell 2 rfl
          have z3' := hk2.cell 3 rfl
          have f0 := hk2.free 0
          have f1 := hk2.free 1
          have f2 := hk2.free 2
          have f3 := hk2.free 3
          (try go_wp2_with fail)
          refine hK.out _ _ ?_ (fun hHeld => ?_)
          · exact hb2
          clear hK K
          try simp only [Act.put, List.getElem_toArray, List.getElem_cons_succ, List.getElem_cons_zero, List.setIfInBounds_toArray, List.set_cons_zero, List.set_cons_succ]
          refine wpAnyH_ready (rs := [11]) (by kernel_rfl) (by simp) ?_
          refine AllReadyH.cons rfl (fun K hK => ?_) AllReadyH.nil
          go_simp
          (try go_wp2_with fail)
          refine hK.out _ _ ?_ (fun hHeld => ?_)
          · exact ((((hb2.setCell (p := ⟨nr, 0, none⟩) (Nat.le_refl _) _).setCell (p := ⟨nr, 1, none⟩) (Nat.le_refl _) _).setCell (p := ⟨nr, 2, none⟩) (Nat.le_refl _) _).setCell (p := ⟨nr, 3, none⟩) (Nat.le_refl _) _)
          clear hK K
          try simp only [Act.put, List.getElem_toArray, List.getElem_cons_succ, List.getElem_cons_zero, List.setIfInBounds_toArray, List.set_cons_zero, List.set_cons_succ]
          refine wpAnyH_done (by kernel_rfl) ?_ _
          clear hHeld
          have hk6 := (((hk2.set 0 (.int .u8 (ka : Int))).set 1 (.int .i64 kb)).set 2 (.string kc)).set 3 (.string kd)
          have hb6 := (((hb2.setCell (p := ⟨nr, 0, none⟩) (Nat.le_refl _) (.int .u8 (ka : Int))).setCell (p := ⟨nr, 1, none⟩) (Nat.le_refl _) (.int .i64 kb)).setCell (p := ⟨nr, 2, none⟩) (Nat.le_refl _) (.string kc)).setCell (p := ⟨nr, 3, none⟩) (Nat.le_refl _) (.string kd)
          have HK6 := Lib.hid hk6
          have HB6 := Lib.hid hb6
          clear hk6 hb6
          go_wp2_with fail
          go_meet
          exact ⟨_, rfl, Lib.hid ⟨HK6.out, HB6.out, by have := HB6.out.size; omega, Nat.le_refl _⟩⟩
      case rest =>
        obtain ⟨g5, rfl, HG⟩ := hcut
        obtain ⟨zs, hzl', hzm, hro0, hb0'⟩ := HZ.out
        have hro := hro0.later (hnr ▸ HG.out.2.1)
        have hbc : Below n0 w wc := hb0'.trans (HG.out.2.1.mono HNR.out)
        have k0 := HG.out.1.cell 0 rfl
        have k1 := HG.out.1.cell 1 rfl
        have k2 := HG.out.1.cell 2 rfl
        have k3 := HG.out.1.cell 3 rfl
        obtain ⟨-, -, c2⟩ := HC.out wc hbc
        obtain ⟨n5, hn5⟩ : ∃ x, wc.heap.size = x := ⟨_, rfl⟩
        have hsz5 : n0 ≤ n5 := by have h1 := HG.out.2.2.1; have h2 := HNR.out; omega
        have HT5 : Hid (t < 6) := Lib.hid (by have := HI.out.1; omega)
        obtain ⟨p3, hp3, hp3n⟩ : ∃ p3 : Nat, (i : Int) + 3 = (p3 : Int) ∧ p3 = i + 3 := ⟨i + 3, by omega, rfl⟩
        have HP3 := Lib.hid hp3n
        have HLT : Hid (∀ q ∈ zs, q.2.1 < nr) := Lib.hid fun q hq => by have := (hro0.lt q hq).2; omega
        clear hro0 hb0' hBd hnr hp3n
        by_cases hz0 : z3 = 0
        · by_cases hpos : 0 < n
          · have HNX1 : Hid (rulesN cs (t + 1) = addLast (rulesN cs t) ⟨ka, kb, kc, kd⟩) := Lib.hid (by rw [HNX.out, if_pos ⟨hz0, by rw [← hzm, List.length_map, hzl']; exact hpos⟩])
            have tz0 : ((z3 : Int) == 0) = true := by simp; omega
            have tn : decide ((0 : Int) < (n : Int)) = true := by simp; omega
            have tnn : decide (0 < n) = true := by simp; omega
            clear hz0
            obtain ⟨go, cap7, e7, hgo1, hgo2⟩ := (show wc.ownsRow n0 30 1 (.slice A n cap) n (zs.map rowV) by have := hro.out; rwa [hzl'] at this).form hpos
            injection e7 with e71 _ e72
            subst e71 e72
            have hzne : zs ≠ [] := by intro e; rw [e] at hzl'; simp at hzl'; omega
            obtain ⟨init, ⟨row, g, c⟩, hzz⟩ : ∃ init last, zs = init ++ [last] := ⟨_, _, (List.dropLast_concat_getLast hzne).symm⟩
            subst hzz
            obtain ⟨n1, hn1⟩ : ∃ x, init.length = x := ⟨_, rfl⟩
            have hnn : n = n1 + 1 := by rw [← hzl', ← hn1]; simp
            obtain ⟨m, hm⟩ : ∃ x, row.length = x := ⟨_, rfl⟩
            have hm6 : m ≤ 6 := by
              have h1 := (rulesN_ok cs t).2.1
              rw [← hzm] at h1
              unfold sumM at h1
              simp at h1
              omega
            have hcell := (hro.cellOf hzl' (j := n1) (by rw [← hn1]; simp)).1
            have hlast : (init ++ [(row, g, c)])[n1]'(by rw [← hn1]; simp) = (row, g, c) := by simp [← hn1]
            rw [hlast] at hcell
            unfold rowV at hcell
            dsimp only at hcell
            rw [hm] at hcell
            have hrow0 := hro.row (row, g, c) (by simp)
            have hroA := hro.later (box_below (.cells #[.int .u8 (ka : Int), .int .i64 kb, .string kc, .string kd] 39))
            have hrowA : ((wc.alloc (.cells #[.int .u8 (ka : Int), .int .i64 kb, .string kc, .string kd] 39)).drew).ownsRow n0 39 4 (.slice (some ⟨g, 0, none⟩) m c) m (rCells row) := by
              have := hrow0.alloc (.cells #[.int .u8 (ka : Int), .int .i64 kb, .string kc, .string kd] 39)
              unfold rowV at this
              dsimp only at this
              rw [hm] at this
              exact this
            have HROWA := Lib.hid hrowA
            have HROA : Hid (RoW (wc.alloc (.cells #[.int .u8 (ka : Int), .int .i64 kb, .string kc, .string kd] 39)).drew n0 (.slice (some ⟨go, 0, none⟩) n cap) (init ++ [(row, g, c)])) := Lib.hid (hroA.later ⟨rfl, rfl, rfl, Nat.le_refl _, fun _ _ => rfl⟩)
            have HNEW := Lib.hid (one_at wc n5 hn5 #[.int .u8 (ka : Int), .int .i64 kb, .string kc, .string kd] 39)
            have HSZ : Hid ((wc.alloc (.cells #[.int .u8 (ka : Int), .int .i64 kb, .string kc, .string kd] 39)).heap.size = n5 + 1) := Lib.hid (by rw [World.size_alloc, hn5])
            have HBX : Hid (Blk (wc.alloc (.cells #[.int .u8 (ka : Int), .int .i64 kb, .string kc, .string kd] 39)) g5 #[.int .u8 (ka : Int), .int .i64 kb, .string kc, .string kd] 39) := Lib.hid (HG.out.1.later (box_below _))
            have HCX : Hid ((wc.alloc (.cells #[.int .u8 (ka : Int), .int .i64 kb, .string kc, .string kd] 39)).cell? ⟨go, n1, none⟩ = some (.slice (some ⟨g, 0, none⟩) m c)) := Lib.hid (((box_below (W := wc) (.cells #[.int .u8 (ka : Int), .int .i64 kb, .string kc, .string kd] 39)).cell (p := ⟨go, n1, none⟩) hgo2).trans hcell)
            have HBA : Hid (Below n0 w (wc.alloc (.cells #[.int .u8 (ka : Int), .int .i64 kb, .string kc, .string kd] 39)).drew ∧ n0 ≤ n5) := Lib.hid ⟨(hbc.alloc (by omega) _).drew, by omega⟩
            have HZL := Lib.hid hzl'
            have HZM := Lib.hid hzm
            have HN1 := Lib.hid hn1
            have HMM := Lib.hid hm
            have hn1i : (n : Int) - 1 = (n1 : Int) := by omega
            have wn1 : IntKind.i64.wrap (n1 : Int) = (n1 : Int) := IntWalk.i64_in _ (by omega)
            have hn1l : n1 < n := by omega
            have HG5 : Hid (g5 ≠ g) := Lib.hid (by have h1 := HLT.out (row, g, c) (by simp); have h2 := HG.out.2.2.2; simp only at h1; omega)
            have HGN : Hid (g < n5 ∧ n0 ≤ g ∧ go ≠ g) := Lib.hid ⟨by have := (hro.lt (row, g, c) (by simp)).2; simp only at this; omega, (hro.lt (row, g, c) (by simp)).1, fun e => by
              rcases type_apart (by decide : (30 : TypeId) ≠ 39) hro.out hrow0 with h1 | h1
              · simp [rowV, Value.ownBlock] at h1
              · apply h1; simp [rowV, Value.ownBlock, e]⟩
            clear hrow0 hroA hrowA hro hbc hzl' hzm hsz5 hlast hn1 hm hnn hzne hgo1 hgo2
            go_wp2_with fail
            refine RegionBut.region_but 14 (S := fun W => (W.cell? ⟨g5, 0, none⟩ = some (.int .u8 (ka : Int)) ∧ W.cell? ⟨g5, 1, none⟩ = some (.int .i64 kb) ∧ W.cell? ⟨g5, 2, none⟩ = some (.string kc) ∧ W.cell? ⟨g5, 3, none⟩ = some (.string kd)) ∧ W.cell? ⟨go, n1, none⟩ = some (.slice (some ⟨g, 0, none⟩) m c)) (by kernel_rfl) ?_ (fun hHeld => ?_)
            · exact ⟨⟨k0, k1, k2, k3⟩, hcell⟩
            refine RegionBut.but_take (i := 0) (v := ?_) rfl (by kernel_rfl) (by kernel_rfl) (by kernel_rfl) (by kernel_rfl) (fun _ _ _ h => h) (Or.inl ⟨by rfl, ?_⟩) (by assumption) ?_
            rotate_left
            · intro wq hSw; (try dsimp only at hSw); go_simp; (try with_reducible rfl)
            simp only [Act.put, List.getElem_toArray, List.getElem_cons_succ, List.getElem_cons_zero, List.setIfInBounds_toArray, List.set_cons_zero, List.set_cons_succ]
            refine RegionBut.but_take (i := 1) (v := ?_) rfl (by kernel_rfl) (by kernel_rfl) (by kernel_rfl) (by kernel_rfl) (fun _ _ _ h => h) (Or.inl ⟨by rfl, ?_⟩) (by assumption) ?_
            rotate_left
            · intro wq hSw; (try dsimp only at hSw); go_simp; (try with_reducible rfl)
            simp only [Act.put, List.getElem_toArray, List.getElem_cons_succ, List.getElem_cons_zero, List.setIfInBounds_toArray, List.set_cons_zero, List.set_cons_succ]
            refine RegionBut.but_take (i := 2) (v := ?_) rfl (by kernel_rfl) (by kernel_rfl) (by kernel_rfl) (by kernel_rfl) (fun _ _ _ h => h) (Or.inl ⟨by rfl, ?_⟩) (by assumption) ?_
            rotate_left
            · intro wq hSw; (try dsimp only at hSw); go_simp; (try with_reducible rfl)
            simp only [Act.put, List.getElem_toArray, List.getElem_cons_succ, List.getElem_cons_zero, List.setIfInBounds_toArray, List.set_cons_zero, List.set_cons_succ]
            refine RegionBut.but_take (i := 3) (v := ?_) rfl (by kernel_rfl) (by kernel_rfl) (by kernel_rfl) (by kernel_rfl) (fun _ _ _ h => h) (Or.inl ⟨by rfl, ?_⟩) (by assumption) ?_
            rotate_left
            · intro wq hSw; (try dsimp only at hSw); go_simp; (try with_reducible rfl)
            simp only [Act.put, List.getElem_toArray, List.getElem_cons_succ, List.getElem_cons_zero, List.setIfInBounds_toArray, List.set_cons_zero, List.set_cons_succ]
            refine RegionBut.but_take (i := 4) (v := ?_) rfl (by kernel_rfl) (by kernel_rfl) (by kernel_rfl) (by kernel_rfl) (fun _ _ _ h => h) (Or.inl ⟨by rfl, ?_⟩) (by assumption) ?_
            rotate_left
            · intro wq hSw; (try dsimp only at hSw); go_simp; (try with_reducible rfl)
            simp only [Act.put, List.getElem_toArray, List.getElem_cons_succ, List.getElem_cons_zero, List.setIfInBounds_toArray, List.set_cons_zero, List.set_cons_succ]
            refine RegionBut.but_take (i := 5) (v := ?_) rfl (by kernel_rfl) (by kernel_rfl) (by kernel_rfl) (by kernel_rfl) (fun _ _ _ h => h) (Or.inl ⟨by rfl, ?_⟩) (by assumption) ?_
            rotate_left
            · intro wq hSw; (try dsimp only at hSw); go_simp; (try with_reducible rfl)
            simp only [Act.put, List.getElem_toArray, List.getElem_cons_succ, List.getElem_cons_zero, List.setIfInBounds_toArray, List.set_cons_zero, List.set_cons_succ]
            refine RegionBut.but_take (i := 6) (v := ?_) rfl (by kernel_rfl) (by kernel_rfl) (by kernel_rfl) (by kernel_rfl) (fun _ _ _ h => h) (Or.inl ⟨by rfl, ?_⟩) (by assumption) ?_
            rotate_left
            · intro wq hSw; (try dsimp only at hSw); go_simp; (try with_reducible rfl)
            simp only [Act.put, List.getElem_toArray, List.getElem_cons_succ, List.getElem_cons_zero, List.setIfInBounds_toArray, List.set_cons_zero, List.set_cons_succ]
            refine RegionBut.but_take (i := 7) (v := ?_) rfl (by kernel_rfl) (by kernel_rfl) (by kernel_rfl) (by kernel_rfl) (fun _ _ _ h => h) (Or.inl ⟨by rfl, ?_⟩) (by assumption) ?_
            rotate_left
            · intro wq hSw; (try dsimp only at hSw); go_simp; (try with_reducible rfl)
            simp only [Act.put, List.getElem_toArray, List.getElem_cons_succ, List.getElem_cons_zero, List.setIfInBounds_toArray, List.set_cons_zero, List.set_cons_succ]
            refine RegionBut.but_take (i := 8) (v := ?_) rfl (by kernel_rfl) (by kernel_rfl) (by kernel_rfl) (by kernel_rfl) (fun _ _ _ h => h) (Or.inl ⟨by rfl, ?_⟩) (by assumption) ?_
            rotate_left
            · intro wq hSw; (try dsimp only at hSw); go_simp; (try with_reducible rfl)
            simp only [Act.put, List.getElem_toArray, List.getElem_cons_succ, List.getElem_cons_zero, List.setIfInBounds_toArray, List.set_cons_zero, List.set_cons_succ]
            refine RegionBut.but_take (i := 9) (v := ?_) rfl (by kernel_rfl) (by kernel_rfl) (by kernel_rfl) (by kernel_rfl) (fun _ _ _ h => h) (Or.inl ⟨by rfl, ?_⟩) (by assumption) ?_
            rotate_left
            · intro wq hSw; (try dsimp only at hSw); have hq := hSw.2; go_simp; (try with_reducible rfl)
            simp only [Act.put, List.getElem_toArray, List.getElem_cons_succ, List.getElem_cons_zero, List.setIfInBounds_toArray, List.set_cons_zero, List.set_cons_succ]
            refine RegionBut.but_take (i := 10) (v := ?_) rfl (by kernel_rfl) (by kernel_rfl) (by kernel_rfl) (by kernel_rfl) (fun _ _ _ h => h) (Or.inl ⟨by rfl, ?_⟩) (by assumption) ?_
            rotate_left
            · intro wq hSw; (try dsimp only at hSw); obtain ⟨⟨v0, v1, v2, v3⟩, _⟩ := hSw; go_simp; (try with_reducible rfl)
            simp only [Act.put, List.getElem_toArray, List.getElem_cons_succ, List.getElem_cons_zero, List.setIfInBounds_toArray, List.set_cons_zero, List.set_cons_succ]
            refine RegionBut.but_ready (rs := [11]) (by kernel_rfl) (by simp) ?_
            refine RegionBut.Nexts.cons rfl (fun K hK => ?_) RegionBut.Nexts.nil
            go_simp
            (try go_wp2_with fail)
            refine hK.out _ _ ?_ (fun hHeld => ?_)
            · exact ⟨⟨HBX.out.cell 0 rfl, HBX.out.cell 1 rfl, HBX.out.cell 2 rfl, HBX.out.cell 3 rfl⟩, HCX.out⟩
            clear hK K
            try simp only [Act.put, List.getElem_toArray, List.getElem_cons_succ, List.getElem_cons_zero, List.setIfInBounds_toArray, List.set_cons_zero, List.set_cons_succ]
            refine RegionBut.but_ready (rs := [12]) (by kernel_rfl) (by simp) ?_
            refine RegionBut.Nexts.cons rfl (fun K hK => ?_) RegionBut.Nexts.nil
            refine step_append_lies _ rfl (.tmp 48) (.tmp 50) 30 rfl n0 39 i2 (.agg #[.int .u8 0, .int .i64 0, .string ⟨#[]⟩, .string ⟨#[]⟩]) 4 48 Tryd.underlying30 hb0 hb1 hb2 hb3 rfl (by decide) (.slice (some ⟨g, 0, none⟩) m c) m (rCells row) rfl HROWA.out ⟨n5, 0, none⟩ 1 1 [.int .u8 (ka : Int), .int .i64 kb, .string kc, .string kd] rfl rfl HNEW.out (by simp [Value.oneCell']) (by decide) (by unfold maxLen; omega) (by omega) ?_ (n5 + 1) ?_ ?_
            · have h1 := HSZ.out; have h2 := HBA.out.2; show n0 ≤ (wc.alloc _).heap.size; omega
            · exact HSZ.out
            intro g2 c2 w2 hown2 hgr2 hor2 hlt2
            have hg5 : g5 < n5 := by have := HG.out.1.lt; omega
            have hk2 : Blk w2 g5 #[.int .u8 (ka : Int), .int .i64 kb, .string kc, .string kd] 39 := HBX.out.same (hgr2.block g5 (by have := HSZ.out; show g5 < (wc.alloc _).heap.size; omega) (by simp [Value.ownBlock]; exact HG5.out))
            have hout2 := HROA.out.out.kept hgr2 (.inr (by simp [Value.ownBlock]; exact HGN.out.2.2))
            rw [HZL.out] at hout2
            have hc2 : w2.cell? ⟨go, n1, none⟩ = some (.slice (some ⟨g, 0, none⟩) m c) := (hout2.cellAt n1 (by omega)).trans (by rw [← HN1.out, last_at]; unfold rowV; dsimp only; rw [HMM.out])
            refine hK.out _ _ ?_ (fun hHeld => ?_)
            · exact ⟨⟨hk2.cell 0 rfl, hk2.cell 1 rfl, hk2.cell 2 rfl, hk2.cell 3 rfl⟩, hc2⟩
            clear hK K
            try simp only [Act.put, List.getElem_toArray, List.getElem_cons_succ, List.getElem_cons_zero, List.setIfInBounds_toArray, List.set_cons_zero, List.set_cons_succ]
            refine RegionBut.but_take (i := 13) (v := ?_) rfl (by kernel_rfl) (by kernel_rfl) (by kernel_rfl) (by kernel_rfl) (fun _ _ _ h => h) (Or.inl ⟨by rfl, ?_⟩) (by assumption) ?_
            rotate_left
            · intro wq hSw; (try dsimp only at hSw); go_simp; (try with_reducible rfl)
            simp only [Act.put, List.getElem_toArray, List.getElem_cons_succ, List.getElem_cons_zero, List.setIfInBounds_toArray, List.set_cons_zero, List.set_cons_succ]
            refine RegionBut.but_ready (rs := [14]) (by kernel_rfl) (by simp) ?_
            refine RegionBut.Nexts.last rfl (fun K hK => ?_)
            have y8 := hout2.frozenAt n1
            have z8 := hc2
            go_simp
            (try go_wp2_with fail)
            refine hK.out _ _ trivial (fun _ => ?_)
            clear hK K
            try simp only [Act.put, List.getElem_toArray, List.getElem_cons_succ, List.getElem_cons_zero, List.setIfInBounds_toArray, List.set_cons_zero, List.set_cons_succ]
            refine RegionBut.but_done (by kernel_rfl) ?_ _
            clear hHeld
            have hfin0 := RoW.last (row' := row ++ [⟨ka, kb, kc, kd⟩]) (g' := g2) (c' := c2) HROA.out hgr2 (by rw [rCells_append, rCells_one]; simpa [rowV, HMM.out] using hown2) (by rcases hor2 with h | h; (left; simpa [Value.ownBlock] using h.symm); (right; have := HSZ.out; show (wc.alloc _).heap.size ≤ g2; omega)) (by rw [← HZL.out]; simp)
            rw [HN1.out] at hfin0
            have hfin : RoW (w2.setCell ⟨go, n1, none⟩ (.slice (some ⟨g2, 0, none⟩) (m + 1) c2)) n0 (.slice (some ⟨go, 0, none⟩) n cap) (init ++ [(row ++ [⟨ka, kb, kc, kd⟩], g2, c2)]) := by simpa [rowV, HMM.out] using hfin0
            clear hfin0
            have HFIN := Lib.hid hfin
            have HBF := Lib.hid ((HBA.out.1.grown hgr2 (by have := HSZ.out; have := HBA.out.2; show n0 ≤ (wc.alloc _).heap.size; omega) (fun q hq => by obtain rfl : g = q := (by simpa [Value.ownBlock] using hq); exact HGN.out.2.1)).setCell (p := ⟨go, n1, none⟩) (HROA.out.out.lt go rfl).1 (.slice (some ⟨g2, 0, none⟩) (m + 1) c2))
            clear hfin hown2 hgr2 hor2 hlt2 hk2 hout2 hc2 hcell k0 k1 k2 k3
            go_wp2_with fail
            go_roundw
            case rel => exact ⟨some ⟨go, 0, none⟩, n, cap, p3, t + 1, rfl, rfl, by omega, by have := HT5.out; omega, Lib.hid ⟨by have := HI.out.1; have := HP3.out; omega, .inr (by have := HP3.out; have := HP2.out; omega)⟩, by have := HI.out.1; have := HP3.out; have := HT5.out; omega, Lib.hid ⟨init ++ [(row ++ [⟨ka, kb, kc, kd⟩], g2, c2)], by rw [← HZL.out]; simp, by rw [HNX1.out, ← HZM.out, List.map_append, List.map_append]; simp [addLast_concat], HFIN.out, HBF.out⟩⟩
            case measure => simp [intOf]; have := HP3.out; omega
          · have HNX1 : Hid (rulesN cs (t + 1) = rulesN cs t ++ [[⟨ka, kb, kc, kd⟩]]) := Lib.hid (by rw [HNX.out, if_neg (by rw [← hzm, List.length_map, hzl']; omega)])
            have tz0 : ((z3 : Int) == 0) = true := by simp; omega
            have tn : decide ((0 : Int) < (n : Int)) = false := by simp; omega
            have tnn : decide (0 < n) = false := by simp; omega
            clear hz0 hpos
            have hns : ∀ q ∈ zs, q.2.1 ≠ n5 := fun q hq e => by have := (hro.lt q hq).2; omega
            have hrow : ((wc.alloc (.cells #[.int .u8 (ka : Int), .int .i64 kb, .string kc, .string kd] 39)).alloc (.cells #[.slice (some ⟨n5, 0, none⟩) 1 1] 30)).ownsRow n0 39 4 (rowV ([⟨ka, kb, kc, kd⟩], n5, 1)) ([⟨ka, kb, kc, kd⟩] : List Ru).length (rCells [⟨ka, kb, kc, kd⟩]) := by
              have := (World.ownsRow_lit (base := n0) (e := 39) (size := 4) wc #[.int .u8 (ka : Int), .int .i64 kb, .string kc, .string kd] 1 (by omega) (by decide) rfl).alloc (.cells #[.slice (some ⟨n5, 0, none⟩) 1 1] 30)
              rw [hn5] at this
              exact this
            have hro2 := (hro.later (box_below (.cells #[.int .u8 (ka : Int), .int .i64 kb, .string kc, .string kd] 39))).later (box_below (.cells #[.slice (some ⟨n5, 0, none⟩) 1 1] 30))
            have hout := hro2.out
            rw [hzl'] at hout
            have HOUT := Lib.hid hout
            have HRO2 := Lib.hid hro2
            have HROW := Lib.hid hrow
            have HNS := Lib.hid hns
            have HNEWS := Lib.hid (one_at (wc.alloc (.cells #[.int .u8 (ka : Int), .int .i64 kb, .string kc, .string kd] 39)) (n5 + 1) (by rw [World.size_alloc, hn5]) #[.slice (some ⟨n5, 0, none⟩) 1 1] 30)
            have HSZ : Hid (((wc.alloc (.cells #[.int .u8 (ka : Int), .int .i64 kb, .string kc, .string kd] 39)).alloc (.cells #[.slice (some ⟨n5, 0, none⟩) 1 1] 30)).heap.size = n5 + 1 + 1) := Lib.hid (by rw [World.size_alloc, World.size_alloc, hn5])
            have HBASE : Hid (n0 ≤ n5 + 1 + 1) := Lib.hid (by omega)
            have HB2 : Hid (Below n0 w ((wc.alloc (.cells #[.int .u8 (ka : Int), .int .i64 kb, .string kc, .string kd] 39)).alloc (.cells #[.slice (some ⟨n5, 0, none⟩) 1 1] 30))) := Lib.hid ((hbc.alloc (by omega) _).alloc (by rw [World.size_alloc]; omega) _)
            have HZL := Lib.hid hzl'
            have HZM := Lib.hid hzm
            clear hns hrow hro2 hout hro hbc hzl' hzm hsz5
            go_wp2_with (at_builtin; go_loud (refine wpList_append_lies _ rfl (.tmp 53) (.tmp 56) 25 rfl n0 30 i1 (.slice none 0 0) 1 24 Tryd.underlying25 ha0 ha1 ha2 ha3 rfl (by decide) (.slice A n cap) n (zs.map rowV) rfl HOUT.out ⟨n5 + 1, 0, none⟩ 1 1 [.slice (some ⟨n5, 0, none⟩) 1 1] rfl rfl HNEWS.out (by simp [Value.oneCell']) (by decide) (by unfold maxLen; omega) (by omega) (by rw [HSZ.out]; exact HBASE.out) (n5 + 1 + 1) HSZ.out ?_; intro g2 c2 w3 hown3 hgr3 hor3 hlt3; have hro3 := HRO2.out.snoc HROW.out HNS.out hgr3 (by rw [HZL.out]; exact hown3); have HRO3 := Lib.hid hro3; have HB3 := Lib.hid (HB2.out.grown hgr3 (by rw [HSZ.out]; exact HBASE.out) (fun q hq => (HOUT.out.lt q hq).1)); clear hown3 hgr3 hor3 hlt3 hro3))
            go_roundw
            case rel => exact ⟨some ⟨g2, 0, none⟩, n + 1, c2, p3, t + 1, rfl, rfl, by omega, by have := HT5.out; omega, Lib.hid ⟨by have := HI.out.1; have := HP3.out; omega, .inr (by have := HP3.out; have := HP2.out; omega)⟩, by have := HI.out.1; have := HP3.out; have := HT5.out; omega, Lib.hid ⟨zs ++ [([⟨ka, kb, kc, kd⟩], n5, 1)], by simp [HZL.out], by rw [HNX1.out, List.map_append, HZM.out]; rfl, HRO3.out, HB3.out⟩⟩
            case measure => simp [intOf]; have := HP3.out; omega
        · have HNX1 : Hid (rulesN cs (t + 1) = rulesN cs t ++ [[⟨ka, kb, kc, kd⟩]]) := Lib.hid (by rw [HNX.out, if_neg (by omega)])
          have tz0 : ((z3 : Int) == 0) = false := by simp; omega
          clear hz0
          have hns : ∀ q ∈ zs, q.2.1 ≠ n5 := fun q hq e => by have := (hro.lt q hq).2; omega
          have hrow : ((wc.alloc (.cells #[.int .u8 (ka : Int), .int .i64 kb, .string kc, .string kd] 39)).alloc (.cells #[.slice (some ⟨n5, 0, none⟩) 1 1] 30)).ownsRow n0 39 4 (rowV ([⟨ka, kb, kc, kd⟩], n5, 1)) ([⟨ka, kb, kc, kd⟩] : List Ru).length (rCells [⟨ka, kb, kc, kd⟩]) := by
            have := (World.ownsRow_lit (base := n0) (e := 39) (size := 4) wc #[.int .u8 (ka : Int), .int .i64 kb, .string kc, .string kd] 1 (by omega) (by decide) rfl).alloc (.cells #[.slice (some ⟨n5, 0, none⟩) 1 1] 30)
            rw [hn5] at this
            exact this
          have hro2 := (hro.later (box_below (.cells #[.int .u8 (ka : Int), .int .i64 kb, .string kc, .string kd] 39))).later (box_below (.cells #[.slice (some ⟨n5, 0, none⟩) 1 1] 30))
          have hout := hro2.out
          rw [hzl'] at hout
          have HOUT := Lib.hid hout
          have HRO2 := Lib.hid hro2
          have HROW := Lib.hid hrow
          have HNS := Lib.hid hns
          have HNEWS := Lib.hid (one_at (wc.alloc (.cells #[.int .u8 (ka : Int), .int .i64 kb, .string kc, .string kd] 39)) (n5 + 1) (by rw [World.size_alloc, hn5]) #[.slice (some ⟨n5, 0, none⟩) 1 1] 30)
          have HSZ : Hid (((wc.alloc (.cells #[.int .u8 (ka : Int), .int .i64 kb, .string kc, .string kd] 39)).alloc (.cells #[.slice (some ⟨n5, 0, none⟩) 1 1] 30)).heap.size = n5 + 1 + 1) := Lib.hid (by rw [World.size_alloc, World.size_alloc, hn5])
          have HBASE : Hid (n0 ≤ n5 + 1 + 1) := Lib.hid (by omega)
          have HB2 : Hid (Below n0 w ((wc.alloc (.cells #[.int .u8 (ka : Int), .int .i64 kb, .string kc, .string kd] 39)).alloc (.cells #[.slice (some ⟨n5, 0, none⟩) 1 1] 30))) := Lib.hid ((hbc.alloc (by omega) _).alloc (by rw [World.size_alloc]; omega) _)
          have HZL := Lib.hid hzl'
          have HZM := Lib.hid hzm
          clear hns hrow hro2 hout hro hbc hzl' hzm hsz5
          go_wp2_with (at_builtin; go_loud (refine wpList_append_lies _ rfl (.tmp 53) (.tmp 56) 25 rfl n0 30 i1 (.slice none 0 0) 1 24 Tryd.underlying25 ha0 ha1 ha2 ha3 rfl (by decide) (.slice A n cap) n (zs.map rowV) rfl HOUT.out ⟨n5 + 1, 0, none⟩ 1 1 [.slice (some ⟨n5, 0, none⟩) 1 1] rfl rfl HNEWS.out (by simp [Value.oneCell']) (by decide) (by unfold maxLen; omega) (by omega) (by rw [HSZ.out]; exact HBASE.out) (n5 + 1 + 1) HSZ.out ?_; intro g2 c2 w3 hown3 hgr3 hor3 hlt3; have hro3 := HRO2.out.snoc HROW.out HNS.out hgr3 (by rw [HZL.out]; exact hown3); have HRO3 := Lib.hid hro3; have HB3 := Lib.hid (HB2.out.grown hgr3 (by rw [HSZ.out]; exact HBASE.out) (fun q hq => (HOUT.out.lt q hq).1)); clear hown3 hgr3 hor3 hlt3 hro3))
          go_roundw
          case rel => exact ⟨some ⟨g2, 0, none⟩, n + 1, c2, p3, t + 1, rfl, rfl, by omega, by have := HT5.out; omega, Lib.hid ⟨by have := HI.out.1; have := HP3.out; omega, .inr (by have := HP3.out; have := HP2.out; omega)⟩, by have := HI.out.1; have := HP3.out; have := HT5.out; omega, Lib.hid ⟨zs ++ [([⟨ka, kb, kc, kd⟩], n5, 1)], by simp [HZL.out], by rw [HNX1.out, List.map_append, HZM.out]; rfl, HRO3.out, HB3.out⟩⟩
          case measure => simp [intOf]; have := HP3.out; omega
    · obtain ⟨zs, hz1, hz2, hz3, hz4⟩ := HZ.out
      have hfin : rulesOf cs = rulesN cs t := by
        have h1 := HI.out
        unfold rulesOf
        rw [HL.out]
        congr 1
        omega
      have HF : Hid (∃ zs : List Rz, zs.length = n ∧ zs.map (fun z => z.1) = rulesOf cs ∧ RoW wr n0 (.slice A n cap) zs ∧ Below n0 w wr) := Lib.hid ⟨zs, hz1, by rw [hfin]; exact hz2, hz3, hz4⟩
      clear hz1 hz2 hz3 hz4 hfin
      by_cases h1 : p2 < len
      · have t1 : decide ((p2 : Int) < (len : Int)) = true := by simp; omega
        have t1n : decide (p2 < len) = true := by simp; omega
        have t2 : decide ((i : Int) < 18) = false := by simp; omega
        have t2n : decide (i < 18) = false := by simp; omega
        clear h1 hend hp2n
        go_wp2_with fail
        go_ret
        obtain ⟨zs, h⟩ := HF.out
        exact ⟨A, n, cap, zs, rfl, by omega, Lib.hid h⟩
      · have t1 : decide ((p2 : Int) < (len : Int)) = false := by simp; omega
        have t1n : decide (p2 < len) = false := by simp; omega
        clear h1 hend hp2n
        go_wp2_with fail
        go_ret
        obtain ⟨zs, h⟩ := HF.out
        exact ⟨A, n, cap, zs, rfl, by omega, Lib.hid h⟩
end Go.Proofs.YtmjbdjcpjaeemaaDoor
