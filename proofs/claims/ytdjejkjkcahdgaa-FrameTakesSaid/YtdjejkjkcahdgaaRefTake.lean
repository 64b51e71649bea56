/-
  What the document's own Take and Scan (telemeterref02) do, at every slice of bytes and every place: just what the chapter's functions do, in new memory.
-/
import Derived.Test.YtdjejkjkcahdgaaFrameScan
import Derived.Test.YtdjejkjkcahdgaaRefGet
namespace Go.Proofs.Ytdjejkjkcahdgaa
open Go.RowKit Go.Proofs.NumMath Go.Proofs.FrameMath

/-- 'b[lo:hi]' of a slice of bytes: a window; nil only where no room is. -/
theorem cut_more (A : Option Addr) (cs : List UInt8) (cap lo n : Nat) (hn : lo + n ≤ cs.length) (hl : cs.length ≤ cap) (hA : A = none → cap = 0) :
    ∃ A' : Option Addr, (∀ w : World, (Instr.slice 22 (.slice A cs.length cap) (some (.int .i64 (lo : Int))) (some (.int .i64 ((lo : Int) + (n : Int)))) none).run Try.prog w = .ok (.slice A' n (cap - lo)) w) ∧
      (∀ (W : World) (n₀ : Nat), Holds8 n₀ W A cs → Holds8 n₀ W A' ((cs.drop lo).take n)) ∧ (A' = none → cap - lo = 0) := by
  obtain ⟨A', h1, h2⟩ := cut_all A cs cap lo n hn hl
  refine ⟨A', h1, h2, fun h0 => ?_⟩
  have h := h1 default
  rw [run_slice_lh default 22 A cs.length cap (by kernel_rfl) .i64 .i64 (lo : Int) ((lo : Int) + (n : Int)) (by omega) (by omega) (by omega)] at h
  have hz : ∀ w, (sizeOf (Try.prog.elem 22)).run Try.prog w = .ok 1 w := fun w => by kernel_rfl
  rw [hz] at h
  simp only [sliced, Result.andThen, Int.toNat_natCast] at h
  by_cases hc : cap = lo
  · omega
  · rw [if_neg hc] at h
    injection h with h _
    injection h with h _ _
    rw [h0] at h
    cases A with
    | none => have := hA rfl; omega
    | some a => simp at h

set_option linter.unusedSimpArgs false in
set_option maxRecDepth 100000 in
set_option maxHeartbeats 4000000 in
/-- **telemeterref02.Take at every slice of bytes and every place.** -/
theorem refTake_any (A : Option Addr) (cs : List UInt8) (cap : Nat) (i : Int) (w : World) (hl : cs.length ≤ cap) (hcap : cap ≤ 9223372036854775807) (hr : Holds8 w.heap.size w A cs) (hA : A = none → cap = 0) :
    Calls Try.prog 38 #[.slice A cs.length cap, .int .i64 i] w fun e w' => ∃ A' c', e = .returned (.tuple #[.slice A' (take cs i).1.length c', .int .i64 ((take cs i).2.1 : Int), .int .i64 ((take cs i).2.2 : Int)]) ∧
      w'.ownsRow w.heap.size 5 1 (.slice A' (take cs i).1.length c') (take cs i).1.length ((take cs i).1.map b8) ∧ Below w.heap.size w w' := by
  have hget := refGet_any A cs cap i w hl hcap hr
  generalize hT : take cs i = T
  unfold take at hT
  generalize hg : getAt cs i = g at hget hT
  obtain ⟨n, to, e0⟩ := g
  dsimp only at hT hget
  have HG := Lib.hid hget
  clear hget
  by_cases he : e0 = 0
  · subst he
    obtain ⟨hto, hn⟩ := getAt_le hg
    simp only [ne_eq, not_true_eq_false, if_false] at hT
    clear hg
    by_cases h1 : 4096 < n
    · rw [if_pos h1] at hT
      subst hT
      clear hr
      go_enter Try.func38, Try.ntmps38
      go_wp2_with (go_at_call 65; refine HG.out.mono ?_; rintro e w1 ⟨rfl, hb1⟩)
      go_ret3
      exact ⟨none, 0, rfl, own_none, hb1⟩
    rw [if_neg h1] at hT
    by_cases h2 : cs.length - to < 4 + n
    · rw [if_pos h2] at hT
      subst hT
      obtain ⟨len, hlen⟩ : ∃ len, cs.length = len := ⟨_, rfl⟩
      rw [hlen] at HG h2 hto hl ⊢
      have h3 : (len : Int) - (to : Int) < (n : Int) + 4 := by omega
      clear hr hlen
      go_enter Try.func38, Try.ntmps38
      go_wp2_with (go_at_call 65; refine HG.out.mono ?_; rintro e w1 ⟨rfl, hb1⟩)
      go_ret3
      exact ⟨none, 0, rfl, own_none, hb1⟩
    · rw [if_neg h2] at hT
      obtain ⟨A1, hs1, hw1⟩ := window_all A cs cap to 4 (by omega) hl
      obtain ⟨A2, hs2, hw2, hn2⟩ := cut_more A cs cap (to + 4) n (by omega) hl hA
      have HN2 := Lib.hid hn2
      rw [show ((to : Int) + ((4 : Nat) : Int)) = (to : Int) + 4 by omega] at hs1
      rw [show ((to + 4 : Nat) : Int) = (to : Int) + 4 by omega] at hs2
      have hhl : ((cs.drop to).take 4).length = 4 := by simp; omega
      have hbl : ((cs.drop (to + 4)).take n).length = n := by simp; omega
      have HR1 : Hid (∀ W : World, Below w.heap.size w W → (convert 22 9 (.slice A1 4 (cap - to))).run Try.prog W = .ok (.string ⟨((cs.drop to).take 4).toArray⟩) W) := Lib.hid (fun W hb => hw1 W _ (hr.later hb))
      have HR2 : Hid (∀ W : World, Below w.heap.size w W → Holds8 W.heap.size W A2 ((cs.drop (to + 4)).take n)) := Lib.hid (fun W hb => hw2 W _ (hr.later hb))
      obtain ⟨len, hlen⟩ : ∃ len, cs.length = len := ⟨_, rfl⟩
      rw [hlen] at HG h2 hto hl hs1 hs2 ⊢
      have h3 : ¬ (len : Int) - (to : Int) < (n : Int) + 4 := by omega
      clear hr hlen hw1 hw2 hn2
      generalize (cs.drop to).take 4 = head at hT HR1 hhl
      generalize (cs.drop (to + 4)).take n = body at hT HR2 hbl
      have HBL := Lib.hid hbl
      have HHL := Lib.hid hhl
      obtain ⟨ff, hff⟩ : ∃ ff, four (sum body) = ff := ⟨_, rfl⟩
      rw [hff] at hT
      have HFF := Lib.hid hff
      have HT := Lib.hid hT
      clear hbl hhl hff hT
      have ew1 : IntKind.i64.wrap ((to : Int) + 4) = (to : Int) + 4 := IntWalk.i64_in _ (by omega)
      have ew2 : IntKind.i64.wrap ((to : Int) + 4 + (n : Int)) = (to : Int) + 4 + (n : Int) := IntWalk.i64_in _ (by omega)
      go_enter Try.func38, Try.ntmps38
      go_wp2_with (first
        | (go_at_call 65; refine HG.out.mono ?_; rintro e w1 ⟨rfl, hB1⟩)
        | (at_builtin; refine app_bytes rfl (.tmp 31) (.tmp 40) rfl w1.heap.size w1.heap.size (.slice none 0 0) [] body body n rfl HBL.out rfl own_none A2 n (cap - (to + 4)) rfl HBL.out (HR2.out w1 hB1) HN2.out (by omega) (Nat.le_refl _) ?_; intro A5 c5 w5 hown5 hg5; have hb5 := below_grown (Below.refl _ _) (Nat.le_refl _) own_none hg5; have hB5 := hB1.trans (hb5.mono hB1.size); have HO5 := Lib.hid hown5; clear hown5 hg5))
      have HH5 := Lib.hid (own_facts HO5.out).2.2
      have hBd : Below w.heap.size w w5.drew := hB5.drew
      have hb5d : Below w1.heap.size w1 w5.drew := hb5.drew
      have hdl : Below w5.heap.size w5 w5.drew := (Below.refl _ _).drew
      have hmo := hB1.size
      refine wp_region_held_drew (S := fun W => Below w.heap.size w W) (by kernel_rfl) ?_ (fun hHeld => ?_)
      · exact hBd
      refine wpAnyH_take (i := 0) (v := ?_) rfl (by kernel_rfl) (by kernel_rfl) (by kernel_rfl) (fun _ _ _ h => h) (Or.inl ⟨by rfl, ?_⟩) (by assumption) ?_
      rotate_left
      · intro wq hSw; (try dsimp only at hSw); go_simp; (try with_reducible rfl)
      simp only [Act.put, List.getElem_toArray, List.getElem_cons_succ, List.getElem_cons_zero, List.setIfInBounds_toArray, List.set_cons_zero, List.set_cons_succ]
      refine wpAnyH_take (i := 4) (v := ?_) rfl (by kernel_rfl) (by kernel_rfl) (by kernel_rfl) (fun _ _ _ h => h) (Or.inl ⟨by rfl, ?_⟩) (by assumption) ?_
      rotate_left
      · intro wq hSw; (try dsimp only at hSw); go_simp; (try with_reducible rfl)
      simp only [Act.put, List.getElem_toArray, List.getElem_cons_succ, List.getElem_cons_zero, List.setIfInBounds_toArray, List.set_cons_zero, List.set_cons_succ]
      refine wpAnyH_take (i := 5) (v := ?_) rfl (by kernel_rfl) (by kernel_rfl) (by kernel_rfl) (fun _ _ _ h => h) (Or.inl ⟨by rfl, ?_⟩) (by assumption) ?_
      rotate_left
      · intro wq hSw; (try dsimp only at hSw); go_simp; (try with_reducible rfl)
      simp only [Act.put, List.getElem_toArray, List.getElem_cons_succ, List.getElem_cons_zero, List.setIfInBounds_toArray, List.set_cons_zero, List.set_cons_succ]
      refine wpAnyH_take (i := 6) (v := ?_) rfl (by kernel_rfl) (by kernel_rfl) (by kernel_rfl) (fun _ _ _ h => h) (Or.inl ⟨by rfl, ?_⟩) (by assumption) ?_
      rotate_left
      · intro wq hSw; (try dsimp only at hSw); go_simp; (try with_reducible rfl)
      simp only [Act.put, List.getElem_toArray, List.getElem_cons_succ, List.getElem_cons_zero, List.setIfInBounds_toArray, List.set_cons_zero, List.set_cons_succ]
      refine wpAnyH_take (i := 7) (v := ?_) rfl (by kernel_rfl) (by kernel_rfl) (by kernel_rfl) (fun _ _ _ h => h) (Or.inl ⟨by rfl, ?_⟩) (by assumption) ?_
      rotate_left
      · intro wq hSw; (try dsimp only at hSw); go_simp; (try with_reducible rfl)
      simp only [Act.put, List.getElem_toArray, List.getElem_cons_succ, List.getElem_cons_zero, List.setIfInBounds_toArray, List.set_cons_zero, List.set_cons_succ]
      refine wpAnyH_take (i := 8) (v := ?_) rfl (by kernel_rfl) (by kernel_rfl) (by kernel_rfl) (fun _ _ _ h => h) (Or.inl ⟨by rfl, ?_⟩) (by assumption) ?_
      rotate_left
      · intro wq hSw; (try dsimp only at hSw); go_simp; (try with_reducible rfl)
      simp only [Act.put, List.getElem_toArray, List.getElem_cons_succ, List.getElem_cons_zero, List.setIfInBounds_toArray, List.set_cons_zero, List.set_cons_succ]
      refine wpAnyH_take (i := 9) (v := ?_) rfl (by kernel_rfl) (by kernel_rfl) (by kernel_rfl) (fun _ _ _ h => h) (Or.inl ⟨by rfl, ?_⟩) (by assumption) ?_
      rotate_left
      · intro wq hSw; (try dsimp only at hSw); have hq := HR1.out _ hSw; go_simp; (try with_reducible rfl)
      simp only [Act.put, List.getElem_toArray, List.getElem_cons_succ, List.getElem_cons_zero, List.setIfInBounds_toArray, List.set_cons_zero, List.set_cons_succ]
      refine wpAnyH_ready (rs := [1]) (by kernel_rfl) (by simp) ?_
      refine AllReadyH.cons rfl (fun K hK => ?_) AllReadyH.nil
      go_simp
      refine (refSum_any A5 body n c5 _ HBL.out (by omega) (HH5.out.later hdl)).mono ?_
      rintro e w6 ⟨rfl, rfl⟩
      clear hHeld
      (try go_wp2_with fail)
      refine hK.out _ _ ?_ (fun hHeld => ?_)
      · exact hBd
      clear hK K
      try simp only [Act.put, List.getElem_toArray, List.getElem_cons_succ, List.getElem_cons_zero, List.setIfInBounds_toArray, List.set_cons_zero, List.set_cons_succ]
      refine wpAnyH_ready (rs := [2]) (by kernel_rfl) (by simp) ?_
      refine AllReadyH.cons rfl (fun K hK => ?_) AllReadyH.nil
      go_simp
      refine (refFour_any (sum body) _ (sum_lt body)).mono ?_
      rintro e w6 ⟨A6, rfl, hr6, hb6⟩
      have hB6 : Below w.heap.size w w6 := hBd.trans (hb6.mono hBd.size)
      have HO6 := Lib.hid (own_later HO5.out (hdl.trans hb6))
      have hq6 := text_run (some A6) (four (sum body)) 4 4 w6 _ (four_length _) hr6
      rw [HFF.out] at hq6
      clear hHeld
      (try go_wp2_with fail)
      refine hK.out _ _ ?_ (fun hHeld => ?_)
      · exact hB6
      clear hK K
      try simp only [Act.put, List.getElem_toArray, List.getElem_cons_succ, List.getElem_cons_zero, List.setIfInBounds_toArray, List.set_cons_zero, List.set_cons_succ]
      refine wpAnyH_ready (rs := [3]) (by kernel_rfl) (by simp) ?_
      refine AllReadyH.cons rfl (fun K hK => ?_) AllReadyH.nil
      go_simp
      clear hHeld
      (try go_wp2_with fail)
      refine hK.out _ _ ?_ (fun hHeld => ?_)
      · exact hB6
      clear hK K
      try simp only [Act.put, List.getElem_toArray, List.getElem_cons_succ, List.getElem_cons_zero, List.setIfInBounds_toArray, List.set_cons_zero, List.set_cons_succ]
      refine wpAnyH_take (i := 10) (v := ?_) rfl (by kernel_rfl) (by kernel_rfl) (by kernel_rfl) (fun _ _ _ h => h) (Or.inl ⟨by rfl, ?_⟩) (by assumption) ?_
      rotate_left
      · intro wq hSw; (try dsimp only at hSw); go_simp; (try with_reducible rfl)
      simp only [Act.put, List.getElem_toArray, List.getElem_cons_succ, List.getElem_cons_zero, List.setIfInBounds_toArray, List.set_cons_zero, List.set_cons_succ]
      refine wpAnyH_done (by kernel_rfl) ?_ _
      clear hHeld
      have hT := HT.out
      by_cases hh : head = ff
      · have d : (ff == head) = true := by simp [hh]
        rw [if_pos hh] at hT
        subst hT
        clear hh HT
        simp only [d, Bool.not_true]
        go_wp2
        go_ret3
        refine ⟨A5, c5, by rw [HBL.out]; simp, ?_, hB6⟩
        rw [HBL.out]
        have h := HO6.out
        rw [HBL.out] at h
        exact own_base h hmo
      · have d : (ff == head) = false := by simp; exact fun h => hh h.symm
        rw [if_neg hh] at hT
        subst hT
        clear hh HT
        simp only [d, Bool.not_false]
        go_wp2
        go_ret3
        exact ⟨none, 0, rfl, own_none, hB6⟩
  · simp only [ne_eq, he, not_false_eq_true, if_true] at hT
    subst hT
    clear hg hr
    have he' : ((e0 : Int) != 0) = true := by simp; exact he
    go_enter Try.func38, Try.ntmps38
    go_wp2_with (go_at_call 65; refine HG.out.mono ?_; rintro e w1 ⟨rfl, hb1⟩)
    go_ret3
    exact ⟨none, 0, rfl, own_none, hb1⟩

theorem refTake_held (A : Option Addr) (cs : List UInt8) (len cap : Nat) (i : Nat) (w : World) (T : List UInt8 × Nat × Nat) (hT : take cs (i : Int) = T) (hlen : cs.length = len) (hl : len ≤ cap) (hcap : cap ≤ 9223372036854775807) (hr : Holds8 w.heap.size w A cs) (hA : A = none → cap = 0) :
    Calls Try.prog 38 #[.slice A len cap, .int .i64 (i : Int)] w fun e w' => ∃ A' c', e = .returned (.tuple #[.slice A' T.1.length c', .int .i64 (T.2.1 : Int), .int .i64 (T.2.2 : Int)]) ∧
      w'.ownsRow w.heap.size 5 1 (.slice A' T.1.length c') T.1.length (T.1.map b8) ∧ Below w.heap.size w w' := by
  subst hlen hT
  exact refTake_any A cs cap i w hl hcap hr hA

set_option maxRecDepth 100000 in
set_option maxHeartbeats 2000000 in
/-- **telemeterref02.Scan.** -/
theorem refScan_any (A : Option Addr) (cs : List UInt8) (len cap : Nat) (w : World) (hlen : cs.length = len) (hsm : len ≤ 100000) (hl : len ≤ cap) (hcap : cap ≤ 9223372036854775807) (hr : Holds8 w.heap.size w A cs) (hA : A = none → cap = 0) :
    Calls Try.prog 39 #[.slice A len cap] w fun e w' => ∃ v vs, e = .returned (.tuple #[v, .int .i64 ((scanF cs).2.1 : Int), .int .i64 ((scanF cs).2.2 : Int)]) ∧ w'.ownsRow w.heap.size 22 1 v vs.length vs ∧ RowsOf w' w.heap.size vs (scanF cs).1 ∧ Below w.heap.size w w' := by
  have HR := Lib.hid hr
  have HL := Lib.hid hlen
  have HA := Lib.hid hA
  have HS0 : Hid (scanF cs = scanN (len + 1) cs 0) := Lib.hid (by rw [scanF, hlen])
  generalize scanF cs = S at HS0
  obtain ⟨i0, hi, hz0, hz1, hz2⟩ := info_parts info_row
  clear hlen hr hA
  go_enter Try.func39, Try.ntmps39
  go_wp2
  go_loopw [5, 6] (fun v iv wr => ∃ (at_ k : Nat) (vs : List Value) (done : List (List UInt8)), iv = .int .i64 (at_ : Int) ∧ at_ ≤ len ∧ vs.length ≤ at_ ∧ Hid (wr.ownsRow w.heap.size 22 1 v vs.length vs) ∧ Hid (RowsOf wr w.heap.size vs done) ∧
      Hid (len < at_ + k ∧ S = (done ++ (scanN k cs at_).1, (scanN k cs at_).2)) ∧ Below w.heap.size w wr) (fun _ iv _ => len - (intOf iv).toNat)
  case atStart => exact ⟨0, len + 1, [], [], rfl, by omega, by simp, World.ownsRow_nil _ _ _ _, rows_nil _ _, ⟨by omega, by rw [HS0.out]; simp⟩, Below.refl _ _⟩
  case round =>
    obtain ⟨at_, k, vs, done, rfl, hat, hvl, HO, HW, HS, hB⟩ := hrel
    by_cases hlt : at_ < len
    · obtain ⟨T, hT⟩ : ∃ T, take cs (at_ : Int) = T := ⟨_, rfl⟩
      have hcall := refTake_held A cs len cap at_ wr T hT HL.out hl hcap (HR.out.later hB) HA.out
      obtain ⟨b, to, e0⟩ := T
      dsimp only at hcall
      have HC := Lib.hid hcall
      obtain ⟨k, rfl⟩ : ∃ j, k = j + 1 := ⟨k - 1, by have := HS.out.1; omega⟩
      obtain ⟨bl, hbl⟩ : ∃ bl, b.length = bl := ⟨_, rfl⟩
      rw [hbl] at HC
      have HBL := Lib.hid hbl
      clear hcall hbl
      by_cases he : e0 = 0
      · subst he
        obtain ⟨hgo, hto⟩ := take_go hT
        rw [HL.out] at hto
        have hstep := scanN_step (k := k) (by rw [HL.out]; exact hlt) hT
        have HN : Hid (len < to + k ∧ S = ((done ++ [b]) ++ (scanN k cs to).1, (scanN k cs to).2)) := Lib.hid (by
          obtain ⟨h1, h2⟩ := HS.out
          refine ⟨by omega, ?_⟩
          rw [h2, hstep]; simp)
        clear hstep hT
        go_wp2_with (first
          | (go_at_call 38; refine HC.out.mono ?_; rintro e w1 ⟨A1, c1, rfl, hown1, hb1⟩; have HO1 := Lib.hid hown1; have hB1 := hB.trans (hb1.mono hB.size); have hS1 := hB1.size; have HOv := Lib.hid (own_later HO.out hb1); have HWv := Lib.hid (rows_later HW.out hb1); have hmono := hB.size; clear hown1 hb1)
          | (at_builtin; refine wpList_append_own _ rfl (.tmp 26) (.tmp 28) 28 rfl w.heap.size 22 i0 (.slice none 0 0) 1 24 Try.underlying28 hi hz0 hz1 hz2 rfl (by decide) u5 _ _ rfl (HOv.out.alloc _) ⟨w1.heap.size, 0, none⟩ 1 1 [.slice A1 bl c1] rfl rfl (cell_one_new _ _ _) (by simp [Value.oneCell']) (by unfold maxLen; omega) (by omega) (by simp; omega) ?_; intro v' w2 hown2 hg2 _))
        have HO2 : Hid (w2.ownsRow w.heap.size 22 1 v' (vs ++ [Value.slice A1 bl c1]).length (vs ++ [Value.slice A1 bl c1])) := Lib.hid (by rw [List.length_append]; exact hown2)
        have HW2 := Lib.hid (rows_step HOv.out HWv.out (u := .slice A1 bl c1) (b := b) (by rw [HBL.out]; exact own_base HO1.out hmono) hg2)
        have hB2 := below_grown (hB1.alloc hS1 _) (by simp; omega) (HOv.out.alloc _) hg2
        clear hown2 hg2
        go_roundw
        case rel => exact ⟨to, k, vs ++ [.slice A1 bl c1], done ++ [b], rfl, hto, by simp; omega, HO2, HW2, HN, hB2⟩
        case measure => simp [intOf]; omega
      · have d0 : ((e0 : Int) != 0) = true := by simp; exact he
        have hstep := scanN_err (k := k) (by rw [HL.out]; exact hlt) hT he
        have HN : Hid (S = (done, at_, e0)) := Lib.hid (by rw [HS.out.2, hstep]; simp)
        clear hstep hT
        go_wp2_with (go_at_call 38; refine HC.out.mono ?_; rintro e w1 ⟨A1, c1, rfl, hown1, hb1⟩; have hB1 := hB.trans (hb1.mono hB.size); have HOv := Lib.hid (own_later HO.out hb1); have HWv := Lib.hid (rows_later HW.out hb1); clear hown1 hb1)
        try rw [Exit.noGoto_ret]
        go_ret3
        rw [HN.out]
        exact ⟨u5, vs, rfl, HOv.out, HWv.out, hB1⟩
    · have HN : Hid (S = (done, at_, 0)) := Lib.hid (by rw [HS.out.2, scanN_end (by rw [HL.out]; exact hlt)]; simp)
      go_wp2
      try rw [Exit.noGoto_ret]
      go_ret3
      rw [HN.out]
      exact ⟨u5, vs, rfl, HO.out, HW.out, hB⟩

end Go.Proofs.Ytdjejkjkcahdgaa
