/-
  Rows of bytes that lie somewhere; telemeterref02.Same says whether two lists of rows are alike.
-/
import Derived.Deep.Matrix
import Derived.Deep.QuietTactic
import Derived.BigQuiet
import Derived.Test.YtdjejkjkcahdgaaAgain
import Derived.Test.YtdjejkjkcahdgaaFrameScan
namespace Go.Proofs.Ytdjejkjkcahdgaa
open Go.ChangeShapes Go.WideShapes Go.ChangeAt Go.RowKit Go.Proofs.NumMath Go.Proofs.FrameMath

/-- A slice of rows of bytes, of which each holds these. -/
def HoldsRows (n₀ : Nat) (W : World) (A : Option Addr) (css : List (List UInt8)) : Prop :=
  0 < css.length → ∃ b off, A = some ⟨b, off, none⟩ ∧ b < n₀ ∧ ∀ j, j < css.length → ∃ Aj cj, W.cell? ⟨b, off + j, none⟩ = some (.slice Aj (css.getD j []).length cj) ∧ Holds8 n₀ W Aj (css.getD j []) ∧ (css.getD j []).length ≤ cj ∧ cj ≤ 9223372036854775807 ∧ (Aj = none → cj = 0)
theorem HoldsRows.below {n₀ : Nat} {W W' : World} {A : Option Addr} {css : List (List UInt8)} (h : HoldsRows n₀ W A css) (hb : Below n₀ W W') : HoldsRows n₀ W' A css := fun h0 => by
  obtain ⟨b, off, e, hlt, hj⟩ := h h0
  refine ⟨b, off, e, hlt, fun j hj' => ?_⟩
  obtain ⟨Aj, cj, h1, h2, h3⟩ := hj j hj'
  exact ⟨Aj, cj, (hb.cell (p := ⟨b, off + j, none⟩) hlt).trans h1, h2.below hb, h3⟩
theorem HoldsRows.mono {n₀ n₁ : Nat} {W : World} {A : Option Addr} {css : List (List UInt8)} (h : HoldsRows n₀ W A css) (hn : n₀ ≤ n₁) : HoldsRows n₁ W A css := fun h0 => by
  obtain ⟨b, off, e, hlt, hj⟩ := h h0
  refine ⟨b, off, e, by omega, fun j hj' => ?_⟩
  obtain ⟨Aj, cj, h1, h2, h3⟩ := hj j hj'
  exact ⟨Aj, cj, h1, h2.mono hn, h3⟩
theorem HoldsRows.later {W W' : World} {A : Option Addr} {css : List (List UInt8)} (h : HoldsRows W.heap.size W A css) (hb : Below W.heap.size W W') : HoldsRows W'.heap.size W' A css := (h.below hb).mono hb.size
/-- The first rows of them. -/
theorem HoldsRows.take {n₀ : Nat} {W : World} {A : Option Addr} {css : List (List UInt8)} (h : HoldsRows n₀ W A css) (k : Nat) : HoldsRows n₀ W A (css.take k) := fun h0 => by
  have hl : (css.take k).length ≤ css.length := by simp; omega
  obtain ⟨b, off, e, hlt, hj⟩ := h (by omega)
  refine ⟨b, off, e, hlt, fun j hj' => ?_⟩
  have e2 : (css.take k).getD j [] = css.getD j [] := by
    have h1 : j < k := by simp at hj'; omega
    simp [List.getD_eq_getElem?_getD, h1]
  rw [e2]
  exact hj j (by omega)
/-- Own rows are such. -/
theorem holds_rows {W : World} {base : Nat} {v : Value} {vs : List Value} {css : List (List UInt8)} (hO : W.ownsRow base 22 1 v vs.length vs) (hR : RowsOf W base vs css) :
    ∃ A c, v = .slice A css.length c ∧ css.length ≤ c ∧ c ≤ 9223372036854775807 ∧ (A = none → c = 0) ∧ HoldsRows W.heap.size W A css := by
  have hl := hR.1
  rcases hO.2 with ⟨rfl, h0⟩ | ⟨g, cap, cur, rfl, hle, hg, _, hcm, _, _⟩
  · rw [h0] at hl
    exact ⟨none, 0, by rw [← hl], by omega, by omega, fun _ => rfl, fun h => by omega⟩
  · refine ⟨_, cap, by rw [hl], by omega, by unfold maxLen at hcm; omega, fun h => (by cases h), fun _ => ⟨g, 0, rfl, (Array.getElem?_eq_some_iff.1 hg).1, fun j hj => ?_⟩⟩
    obtain ⟨u, h1, h2⟩ := hR.2 j hj
    obtain ⟨Au, cu, rfl, h3, h4, h5⟩ := holds_of_own h2
    have hc := hO.cellAt j (by omega)
    refine ⟨Au, cu, by rw [Nat.zero_add]; rw [hc]; exact h1, h5, h3, h4, ?_⟩
    rintro rfl
    rcases h2.2 with ⟨e, _⟩ | ⟨g', cap', cur', e, _⟩
    · simp at e; exact e.2
    · cases e

section
variable {H : Type} {enc : TypeId × Value → H}
theorem cells_row : Try.prog.cellsOf 22 = 1 := by kernel_rfl
set_option maxRecDepth 100000 in
/-- An argument that is a slice of rows of bytes: what it holds. -/
theorem arg_rows {W : World} {base : Nat} {v : Value} {d : DataW H} {p : List MemPlace} (hval : Value.okWide Try.prog W .any base 28 v) (h : DataW.Trod enc Try.prog W 0 (fun _ => true) true 28 v d p) :
    ∃ (A : Option Addr) (css : List (List UInt8)) (cap : Nat), v = .slice A css.length cap ∧ css.length ≤ cap ∧ cap ≤ 9223372036854775807 ∧ (A = none → cap = 0) ∧ HoldsRows W.heap.size W A css := by
  obtain ⟨a0, len, cap, rfl⟩ := okWide_slice Try.underlying28 hval
  obtain ⟨fuel, hf⟩ := h
  rcases Deep.open_int_rows Try.underlying28 Try.underlying22 Try.underlying5 cells_row cells_u8 hf with ⟨hcs, hx⟩ | ⟨a, len', cap', A, L, C, Z, hcs, _, hl, hm, hx, hall⟩
  · simp [Value.cells] at hcs
    obtain ⟨rfl, rfl, rfl⟩ := hcs
    exact ⟨none, [], 0, rfl, by simp, by omega, fun _ => rfl, fun h => absurd h (by simp)⟩
  · simp [Value.cells] at hcs
    obtain ⟨rfl, rfl, rfl⟩ := hcs
    unfold maxLen at hm
    have inW : ∀ {x : Addr} {i : Nat} {u : Value}, W.cell? (x.add i) = some u → x.block < W.heap.size := fun {x i u} h1 => by
      have h2 : (x.add i).block = x.block := by unfold Addr.add; split <;> rfl
      rcases Nat.lt_or_ge x.block W.heap.size with h3 | h3
      · exact h3
      · simp [World.cell?, h2, Array.getElem?_eq_none h3] at h1
    let css : List (List UInt8) := (List.range len).map fun r => ((Z r).take (L r)).map fun n => UInt8.ofNat n.toNat
    have hcl : css.length = len := by simp [css]
    refine ⟨some a, css, cap, by rw [hcl], by rw [hcl]; exact hl, hm, fun h => by (cases h), fun h0 => ?_⟩
    rw [hcl] at h0
    obtain ⟨b, off, spot⟩ := a
    have hspot : spot = none := by simpa [Addr.add] using World.cell?_spot (hall 0 (by omega)).1
    subst hspot
    refine ⟨b, off, rfl, inW (hall 0 (by omega)).1, fun j hj => ?_⟩
    rw [hcl] at hj
    obtain ⟨g1, g2, g3, g4, g5, g6, g7⟩ := hall j (by omega)
    have ej : css.getD j [] = ((Z j).take (L j)).map fun n => UInt8.ofNat n.toNat := by simp [css, hj]
    have elen : (css.getD j []).length = L j := by rw [ej]; simp; omega
    unfold maxLen at g3
    refine ⟨A j, C j, by rw [elen, ← add_plain]; exact g1, fun h0' => ?_, by rw [elen]; exact g2, g3, g6⟩
    rw [elen] at h0'
    cases hA : A j with
    | none => have := g6 hA; omega
    | some a' =>
      obtain ⟨_, hc⟩ := g7 a' hA
      obtain ⟨b', off', spot'⟩ := a'
      have hspot' : spot' = none := by simpa [Addr.add] using World.cell?_spot (hc 0 (by omega))
      subst hspot'
      refine ⟨b', off', rfl, inW (hc 0 (by omega)), fun i hi => ?_⟩
      rw [elen] at hi
      rw [← add_plain, hc i (by omega)]
      have hiz : i < (Z j).length := by omega
      have hw := wf_u8 (g5 ((Z j)[i]) (List.getElem_mem hiz))
      have e1 : (Z j).getD i 0 = (Z j)[i] := by simp [List.getD, hiz]
      have e2 : (css.getD j []).getD i 0 = UInt8.ofNat ((Z j)[i]).toNat := by
        rw [ej]; simp [List.getD, hi, hiz]
      rw [e1, e2, b8]
      have e3 : ((UInt8.ofNat ((Z j)[i]).toNat).toNat : Int) = (Z j)[i] := by simp; omega
      rw [e3]
end

theorem rows_eq {css dss : List (List UInt8)} (h : css.length = dss.length) (hall : ∀ j, j < css.length → css.getD j [] = dss.getD j []) : css = dss :=
  List.ext_getElem h fun j h1 h2 => by
    have := hall j h1
    simpa [List.getD_eq_getElem?_getD, h1, h2] using this
set_option maxRecDepth 100000 in
set_option maxHeartbeats 2000000 in
/-- **telemeterref02.Same.** -/
theorem same_any (A B : Option Addr) (css dss : List (List UInt8)) (la lb ca cb : Nat) (w : World) (hla : css.length = la) (hlb : dss.length = lb) (hma : la ≤ 100000) (hA : HoldsRows w.heap.size w A css) (hB : HoldsRows w.heap.size w B dss) :
    Calls Try.prog 18 #[.slice A la ca, .slice B lb cb] w fun e w' => e = .returned (.bool (decide (css = dss))) ∧ Below w.heap.size w w' := by
  by_cases hne : la = lb
  · subst hne
    have HLA := Lib.hid hla
    have HLB := Lib.hid hlb
    have HA := Lib.hid hA
    have HB := Lib.hid hB
    clear hla hlb hA hB
    by_cases h0 : la = 0
    · have HE : Hid (css = dss) := Lib.hid (by rw [List.length_eq_zero_iff.1 (HLA.out.trans h0), List.length_eq_zero_iff.1 (HLB.out.trans h0)])
      subst h0
      go_enter Try.func18, Try.ntmps18
      go_wp2
      refine wp_loop_rounds 1 ?_; rw [rounds_succ]
      go_wp2
      go_ret
      exact ⟨by simp [HE.out], Below.refl _ _⟩
    obtain ⟨b, off, rfl, hbl, hcA⟩ := HA.out (by rw [HLA.out]; omega)
    obtain ⟨b', off', rfl, hbl', hcB⟩ := HB.out (by rw [HLB.out]; omega)
    rw [HLA.out] at hcA
    rw [HLB.out] at hcB
    have HCA := Lib.hid hcA
    have HCB := Lib.hid hcB
    clear hcA hcB
    go_enter Try.func18, Try.ntmps18
    go_wp2
    go_loopw [5] (fun iv wr => ∃ i : Nat, iv = .int .i64 (i : Int) ∧ i ≤ la ∧ Hid (∀ j, j < i → css.getD j [] = dss.getD j []) ∧ Below w.heap.size w wr) (fun iv _ => la - (intOf iv).toNat)
    case atStart => exact ⟨0, rfl, by omega, fun j hj => by omega, Below.refl _ _⟩
    case round =>
      obtain ⟨i, rfl, hi, HE, hBw⟩ := hrel
      by_cases hlt : i < la
      · obtain ⟨A1, c1, h1, h2, h3, h4, _⟩ := HCA.out i hlt
        obtain ⟨B1, d1, g1, g2, g3, g4, _⟩ := HCB.out i hlt
        have h1w := (hBw.cell (p := ⟨b, off + i, none⟩) hbl).trans h1
        have g1w := (hBw.cell (p := ⟨b', off' + i, none⟩) hbl').trans g1
        obtain ⟨x, hx⟩ : ∃ x, css.getD i [] = x := ⟨_, rfl⟩
        obtain ⟨y, hy⟩ : ∃ y, dss.getD i [] = y := ⟨_, rfl⟩
        rw [hx] at h1w h2
        rw [hy] at g1w g2
        obtain ⟨lx, hlx⟩ : ∃ l, x.length = l := ⟨_, rfl⟩
        obtain ⟨ly, hly⟩ : ∃ l, y.length = l := ⟨_, rfl⟩
        have t1 := fun n => text_run A1 x lx c1 (wr.drewN n) _ hlx (h2.below (below_draws hBw n))
        have t2 := fun n => text_run B1 y ly d1 (wr.drewN n) _ hly (g2.below (below_draws hBw n))
        rw [hlx] at h1w
        rw [hly] at g1w
        have HX := Lib.hid hx
        have HY := Lib.hid hy
        clear h1 h2 h3 h4 g1 g2 g3 g4 hx hy hlx hly
        by_cases hxy : x = y
        · have d : (x == y) = true := by simp [hxy]
          have HN : Hid (∀ j, j < i + 1 → css.getD j [] = dss.getD j []) := Lib.hid fun j hj => by
            rcases Nat.lt_or_ge j i with h | h
            · exact HE.out j h
            · obtain rfl : j = i := by omega
              rw [HX.out, HY.out, hxy]
          clear hxy
          go_wp2
          go_quiet (fail)
          go_wp2
          go_roundw
          case rel => exact ⟨i + 1, by go_num, by omega, HN, below_draws hBw _⟩
          case measure => simp [intOf]; omega
        · have d : (x == y) = false := by simp [hxy]
          have HN : Hid (css ≠ dss) := Lib.hid fun e => by
            have := HX.out
            rw [e, HY.out] at this
            exact hxy this.symm
          clear hxy
          go_wp2
          go_quiet (fail)
          go_wp2
          go_ret
          exact ⟨by simp [HN.out], below_draws hBw _⟩
      · have HN : Hid (css = dss) := Lib.hid (rows_eq (HLA.out.trans HLB.out.symm) fun j hj => HE.out j (by rw [HLA.out] at hj; omega))
        go_wp2
        go_ret
        exact ⟨by simp [HN.out], hBw⟩
  · have d : ((la : Int) == (lb : Int)) = false := by simp; omega
    have hf : decide (css = dss) = false := by simp; intro e; rw [e] at hla; omega
    rw [hf]
    go_enter Try.func18, Try.ntmps18
    go_wp2
    go_ret
    exact ⟨rfl, Below.refl _ _⟩

end Go.Proofs.Ytdjejkjkcahdgaa
