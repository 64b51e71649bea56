/-
  What frame.Scan does, at every slice of bytes (of up to 100000): what the chapter says, in new memory; nothing that lay has turned.
-/
import Derived.Test.YtdjejkjkcahdgaaFrameKnown
import Derived.Test.YtdjejkjkcahdgaaScanMath
namespace Go.Proofs.Ytdjejkjkcahdgaa
open Go.RowKit Go.Proofs.NumMath Go.Proofs.FrameMath

/-- Values that are own rows of bytes. -/
def RowsOf (W : World) (base : Nat) (vs : List Value) (css : List (List UInt8)) : Prop :=
  vs.length = css.length ∧ ∀ j, j < css.length → ∃ v, vs[j]? = some v ∧ W.ownsRow base 5 1 v (css.getD j []).length ((css.getD j []).map b8)
theorem rows_nil (W : World) (base : Nat) : RowsOf W base [] [] := ⟨rfl, fun j hj => absurd hj (by simp)⟩
theorem rows_snoc {W : World} {base : Nat} {vs : List Value} {css : List (List UInt8)} (h : RowsOf W base vs css) {v : Value} {c : List UInt8} (hv : W.ownsRow base 5 1 v c.length (c.map b8)) : RowsOf W base (vs ++ [v]) (css ++ [c]) := by
  refine ⟨by simp [h.1], fun j hj => ?_⟩
  by_cases hlt : j < css.length
  · obtain ⟨u, h1, h2⟩ := h.2 j hlt
    refine ⟨u, by rw [List.getElem?_append_left (by rw [h.1]; exact hlt)]; exact h1, ?_⟩
    have e : (css ++ [c]).getD j [] = css.getD j [] := by simp [List.getElem?_append_left hlt]
    rw [e]; exact h2
  · simp at hj
    obtain rfl : j = css.length := by omega
    refine ⟨v, by rw [← h.1]; simp, ?_⟩
    have e : (css ++ [c]).getD css.length [] = c := by simp
    rw [e]; exact hv
theorem rows_later {W W' : World} {base : Nat} {vs : List Value} {css : List (List UInt8)} (h : RowsOf W base vs css) (hb : Below W.heap.size W W') : RowsOf W' base vs css :=
  ⟨h.1, fun j hj => by obtain ⟨v, h1, h2⟩ := h.2 j hj; exact ⟨v, h1, own_later h2 hb⟩⟩
/-- The row of rows is no row of bytes. -/
theorem apart_rows {W : World} {base base' : Nat} {v u : Value} {n m : Nat} {xs ys : List Value} (h : W.ownsRow base 22 1 v n xs) (h' : W.ownsRow base' 5 1 u m ys) : u.ownBlock = none ∨ u.ownBlock ≠ v.ownBlock := by
  rcases h'.2 with ⟨rfl, _⟩ | ⟨g', cap', cur', rfl, _, hg', _⟩
  · exact .inl rfl
  · right
    rcases h.2 with ⟨rfl, _⟩ | ⟨g, cap, cur, rfl, _, hg, _⟩
    · simp [Value.ownBlock]
    · intro e
      have e' : g' = g := by simpa [Value.ownBlock] using e
      subst e'
      rw [hg] at hg'
      simp at hg'
theorem rows_grown {W W' : World} {base : Nat} {v : Value} {n : Nat} {xs vs : List Value} {css : List (List UInt8)} (h : W.ownsRow base 22 1 v n xs) (hg : W.grownBy W' v.ownBlock) (hr : RowsOf W base vs css) : RowsOf W' base vs css :=
  ⟨hr.1, fun j hj => by obtain ⟨u, h1, h2⟩ := hr.2 j hj; exact ⟨u, h1, h2.kept hg (apart_rows h h2)⟩⟩
theorem rows_step {w1 w2 : World} {base : Nat} {v u : Value} {vs : List Value} {done : List (List UInt8)} {b : List UInt8} {o : Obj} (hO : w1.ownsRow base 22 1 v vs.length vs) (hW : RowsOf w1 base vs done) (hu : w1.ownsRow base 5 1 u b.length (b.map b8)) (hg : (w1.alloc o).grownBy w2 v.ownBlock) : RowsOf w2 base (vs ++ [u]) (done ++ [b]) :=
  rows_snoc (rows_grown (hO.alloc o) hg (rows_later hW ((Below.refl _ w1).alloc (Nat.le_refl _) o))) ((hu.alloc o).kept hg (apart_rows (hO.alloc o) (hu.alloc o)))
theorem own_row_later {base : Nat} {w w' : World} {e : TypeId} {v : Value} {n : Nat} {xs : List Value} (ho : w.ownsRow base e 1 v n xs) (hb : Below w.heap.size w w') : w'.ownsRow base e 1 v n xs := own_later ho hb
theorem info_row : (Try.prog.info? 22).map (fun i => (i.zero, i.size, i.bytes)) = some (some (.slice none 0 0), 1, 24) := by kernel_rfl

theorem take_held (A : Option Addr) (cs : List UInt8) (len cap : Nat) (i : Nat) (w : World) (T : List UInt8 × Nat × Nat) (hT : take cs (i : Int) = T) (hlen : cs.length = len) (hl : len ≤ cap) (hcap : cap ≤ 9223372036854775807) (hr : Holds8 w.heap.size w A cs) :
    Calls Try.prog 31 #[.slice A len cap, .int .i64 (i : Int)] w fun e w' => ∃ A' c', e = .returned (.tuple #[.slice A' T.1.length c', .int .i64 (T.2.1 : Int), .int .u16 (T.2.2 : Int)]) ∧
      w'.ownsRow w.heap.size 5 1 (.slice A' T.1.length c') T.1.length (T.1.map b8) ∧ Below w.heap.size w w' := by
  subst hlen hT
  exact take_any A cs cap i w hl hcap hr

set_option maxRecDepth 100000 in
set_option maxHeartbeats 2000000 in
/-- **frame.Scan.** -/
theorem scan_any (A : Option Addr) (cs : List UInt8) (len cap : Nat) (w : World) (hlen : cs.length = len) (hsm : len ≤ 100000) (hl : len ≤ cap) (hcap : cap ≤ 9223372036854775807) (hr : Holds8 w.heap.size w A cs) :
    Calls Try.prog 15 #[.slice A len cap] w fun e w' => ∃ v vs, e = .returned (.tuple #[v, .int .i64 ((scanF cs).2.1 : Int), .int .u16 ((scanF cs).2.2 : Int)]) ∧ w'.ownsRow w.heap.size 22 1 v vs.length vs ∧ RowsOf w' w.heap.size vs (scanF cs).1 ∧ Below w.heap.size w w' := by
  have HR := Lib.hid hr
  have HL := Lib.hid hlen
  have HS0 : Hid (scanF cs = scanN (len + 1) cs 0) := Lib.hid (by rw [scanF, hlen])
  generalize scanF cs = S at HS0
  obtain ⟨i0, hi, hz0, hz1, hz2⟩ := info_parts info_row
  clear hlen hr
  go_enter Try.func15, Try.ntmps15
  go_wp2
  refine wp_scope_straight ?_
  go_wp2
  refine wp_label ?_
  go_wp2
  go_loopw [5, 6, 7] (fun v iv yv wr => ∃ (at_ k : Nat) (vs : List Value) (done : List (List UInt8)), iv = .int .i64 (at_ : Int) ∧ yv = .int .u16 0 ∧ at_ ≤ len ∧ vs.length ≤ at_ ∧ Hid (wr.ownsRow w.heap.size 22 1 v vs.length vs) ∧ Hid (RowsOf wr w.heap.size vs done) ∧
      Hid (len < at_ + k ∧ S = (done ++ (scanN k cs at_).1, (scanN k cs at_).2)) ∧ Below w.heap.size w wr) (fun _ iv _ _ => len - (intOf iv).toNat)
  case atStart => exact ⟨0, len + 1, [], [], rfl, rfl, by omega, by simp, World.ownsRow_nil _ _ _ _, rows_nil _ _, ⟨by omega, by rw [HS0.out]; simp⟩, Below.refl _ _⟩
  case round =>
    obtain ⟨at_, k, vs, done, rfl, rfl, hat, hvl, HO, HW, HS, hB⟩ := hrel
    by_cases hlt : at_ < len
    · obtain ⟨T, hT⟩ : ∃ T, take cs (at_ : Int) = T := ⟨_, rfl⟩
      have hcall := take_held A cs len cap at_ wr T hT HL.out hl hcap (HR.out.later hB)
      obtain ⟨b, to, e0⟩ := T
      dsimp only at hcall
      have HC := Lib.hid hcall
      obtain ⟨k, rfl⟩ : ∃ j, k = j + 1 := ⟨k - 1, by have := HS.out.1; omega⟩
      obtain ⟨bl, hbl⟩ : ∃ bl, b.length = bl := ⟨_, rfl⟩
      rw [hbl] at HC
      have HBL := Lib.hid hbl
      clear hcall hbl
      by_cases he : e0 = 0
      · subst he
        obtain ⟨hgo, hto⟩ := take_go hT
        rw [HL.out] at hto
        have hstep := scanN_step (k := k) (by rw [HL.out]; exact hlt) hT
        have HN : Hid (len < to + k ∧ S = ((done ++ [b]) ++ (scanN k cs to).1, (scanN k cs to).2)) := Lib.hid (by
          obtain ⟨h1, h2⟩ := HS.out
          refine ⟨by omega, ?_⟩
          rw [h2, hstep]; simp)
        clear hstep hT
        go_wp2_with (first
          | (go_at_call 31; refine HC.out.mono ?_; rintro e w1 ⟨A1, c1, rfl, hown1, hb1⟩; have HO1 := Lib.hid hown1; have hB1 := hB.trans (hb1.mono hB.size); have hS1 := hB1.size; have HOv := Lib.hid (own_later HO.out hb1); have HWv := Lib.hid (rows_later HW.out hb1); have hmono := hB.size; clear hown1 hb1)
          | (at_builtin; refine wpList_append_own _ rfl (.tmp 26) (.tmp 28) 28 rfl w.heap.size 22 i0 (.slice none 0 0) 1 24 Try.underlying28 hi hz0 hz1 hz2 rfl (by decide) u5 _ _ rfl (HOv.out.alloc _) ⟨w1.heap.size, 0, none⟩ 1 1 [.slice A1 bl c1] rfl rfl (cell_one_new _ _ _) (by simp [Value.oneCell']) (by unfold maxLen; omega) (by omega) (by simp; omega) ?_; intro v' w2 hown2 hg2 _))
        have HO2 : Hid (w2.ownsRow w.heap.size 22 1 v' (vs ++ [Value.slice A1 bl c1]).length (vs ++ [Value.slice A1 bl c1])) := Lib.hid (by rw [List.length_append]; exact hown2)
        have HW2 := Lib.hid (rows_step HOv.out HWv.out (u := .slice A1 bl c1) (b := b) (by rw [HBL.out]; exact own_base HO1.out hmono) hg2)
        have hB2 := below_grown (hB1.alloc hS1 _) (by simp; omega) (HOv.out.alloc _) hg2
        clear hown2 hg2
        go_roundw
        case rel => exact ⟨to, k, vs ++ [.slice A1 bl c1], done ++ [b], rfl, rfl, hto, by simp; omega, HO2, HW2, HN, hB2⟩
        case measure => simp [intOf]; omega
      · have d0 : ((e0 : Int) == 0) = false := by simp; exact he
        have hstep := scanN_err (k := k) (by rw [HL.out]; exact hlt) hT he
        have HN : Hid (S = (done, at_, e0)) := Lib.hid (by rw [HS.out.2, hstep]; simp)
        clear hstep hT
        go_wp2_with (go_at_call 31; refine HC.out.mono ?_; rintro e w1 ⟨A1, c1, rfl, hown1, hb1⟩; have hB1 := hB.trans (hb1.mono hB.size); have HOv := Lib.hid (own_later HO.out hb1); have HWv := Lib.hid (rows_later HW.out hb1); clear hown1 hb1)
        rw [Exit.noGoto_ret]
        go_ret3
        rw [HN.out]
        exact ⟨u5, vs, rfl, HOv.out, HWv.out, hB1⟩
    · have HN : Hid (S = (done, at_, 0)) := Lib.hid (by rw [HS.out.2, scanN_end (by rw [HL.out]; exact hlt)]; simp)
      go_wp2
      try rw [Exit.noGoto_ret]
      go_ret3
      rw [HN.out]
      exact ⟨u5, vs, rfl, HO.out, HW.out, hB⟩

end Go.Proofs.Ytdjejkjkcahdgaa
