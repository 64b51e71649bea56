/-
  The document's own answer of layer 3 (telemeterref03): which spans may be, at every span.
-/
import Derived.WalkLawsBesides
import Derived.Test.YtklgggolkclebaaItemRef2
namespace Go.Proofs.Ytklgggolkclebaa
open Go.RowKit Go.Proofs.NumMath Go.Proofs.ItemMath

theorem rs_parts {s : Sp} (h : rightSpan s = true) : (s.hi ≠ 0 ∨ s.lo ≠ 0) ∧ s.id ≠ 0 ∧ isName s.name = true ∧ 0 ≤ s.start ∧ s.start ≤ s.stop ∧ s.stop ≤ 1099511627776 ∧ rightAttrs s.attrs = true ∧ s.rv ≤ 72057594037927936 := by
  unfold rightSpan at h
  simp only [Bool.and_eq_true, decide_eq_true_eq] at h
  obtain ⟨⟨⟨⟨⟨⟨⟨h1, h2⟩, h3⟩, h4⟩, h5⟩, h6⟩, h7⟩, h8⟩ := h
  exact ⟨h1, h2, h3, h4, h5, h6, h7, h8⟩
theorem no_of {s : Sp} {r : Bool} (hres : rightSpan s = r) (h : ¬ ((s.hi ≠ 0 ∨ s.lo ≠ 0) ∧ s.id ≠ 0 ∧ isName s.name = true ∧ 0 ≤ s.start ∧ s.start ≤ s.stop ∧ s.stop ≤ 1099511627776 ∧ rightAttrs s.attrs = true ∧ s.rv ≤ 72057594037927936)) : r = false := by
  cases r
  · rfl
  · exact absurd (rs_parts hres) h
theorem name_full {s : ByteArray} (h : isName s = true) : le8 s none8 = false := by
  have h0 : 0 < s.size := by
    unfold isName at h
    simp only [Bool.and_eq_true, decide_eq_true_eq] at h
    omega
  have hl := full_of (s := s) (by omega)
  have e : none8.toList = [] := by rw [list_data]; rfl
  unfold le8
  rw [e]
  cases hs : s.toList with
  | nil => rw [hs] at hl; simp at hl
  | cons a l => rfl

theorem draws3 {B : Nat} {a w : World} (h : Below B a w) (n : Nat) : Below B a (w.drewN n) := ⟨h.os, h.tape, h.output, h.size, h.block⟩
theorem drew_cell (w : World) (n : Nat) (p : Addr) : (w.drewN n).cell? p = w.cell? p := rfl
theorem drew_size (w : World) (n : Nat) : (w.drewN n).heap.size = w.heap.size := rfl
theorem cell_alloc_below (w : World) (o : Obj) (j : Nat) {g : Nat} (h : g < w.heap.size) : (w.alloc o).cell? ⟨g, j, none⟩ = w.cell? ⟨g, j, none⟩ :=
  World.cell?_of_block (Below.heap_alloc _ _ _ h)

set_option linter.unusedVariables false in
set_option linter.unusedSimpArgs false in
set_option maxRecDepth 100000 in
set_option maxHeartbeats 4000000 in
theorem refRightSpan_none (hi lo id par rv : Nat) (name : ByteArray) (start stop : Int) (bad : Bool) (A : Option Addr) (l : List Attr) (n cap : Nat) (w : World) (r : Bool) (hn : l.length = n) (hnm : n ≤ 9223372036854775807) (hname : name.size ≤ 9223372036854775807) (hr : HoldsA w.heap.size w A l) (hres : rightSpan ⟨hi, lo, id, par, name, start, stop, bad, l, rv⟩ = r) (g1 : hi = 0) (g2 : lo = 0) :
    Calls Try.prog 25 #[.agg (spCells hi lo id par name start stop bad A n cap rv)] w fun e w' => e = .returned (.bool r) ∧ Below w.heap.size w w' := by
  unfold spCells
  have hB0 : Below w.heap.size w (w.alloc (.cells #[.int .u64 (hi : Int), .int .u64 (lo : Int), .int .u64 (id : Int), .int .u64 (par : Int), .string name, .int .i64 start, .int .i64 stop, .bool bad, .slice A n cap, .int .u64 (rv : Int)] 26)) := (Below.refl _ _).alloc (Nat.le_refl _) _
  obtain ⟨bn, hbn⟩ : ∃ b, isName name = b := ⟨_, rfl⟩
  have hN := fun W => refName_any name W hname bn hbn
  obtain ⟨t1, ht1⟩ : ∃ t, (decide (0 ≤ start) && decide (start ≤ 1099511627776)) = t := ⟨_, rfl⟩
  obtain ⟨t2, ht2⟩ : ∃ t, (decide (0 ≤ stop) && decide (stop ≤ 1099511627776)) = t := ⟨_, rfl⟩
  have hT1 := fun W => refTime_any start W t1 ht1
  have hT2 := fun W => refTime_any stop W t2 ht2
  have HN := Lib.hid hN
  have HT1 := Lib.hid hT1
  have HT2 := Lib.hid hT2
  have HBN := Lib.hid hbn
  have HR := Lib.hid hr
  have HL := Lib.hid hn
  clear hN hT1 hT2 hbn hr hn
  have b1 : ((hi : Int) == 0) = true := by simp; omega
  have b2 : ((lo : Int) == 0) = true := by simp; omega
  obtain rfl : r = false := no_of hres (by simp [g1, g2])
  clear hres g1 g2
  go_enter Try.func25, Try.ntmps25
  go_wp2_with fail
  go_ret
  exact ⟨rfl, hB0⟩

set_option linter.unusedVariables false in
set_option linter.unusedSimpArgs false in
set_option maxRecDepth 100000 in
set_option maxHeartbeats 4000000 in
theorem refRightSpan_hi (hi lo id par rv : Nat) (name : ByteArray) (start stop : Int) (bad : Bool) (A : Option Addr) (l : List Attr) (n cap : Nat) (w : World) (r : Bool) (hn : l.length = n) (hnm : n ≤ 9223372036854775807) (hname : name.size ≤ 9223372036854775807) (hr : HoldsA w.heap.size w A l) (hres : rightSpan ⟨hi, lo, id, par, name, start, stop, bad, l, rv⟩ = r) (g1 : hi ≠ 0) :
    Calls Try.prog 25 #[.agg (spCells hi lo id par name start stop bad A n cap rv)] w fun e w' => e = .returned (.bool r) ∧ Below w.heap.size w w' := by
  unfold spCells
  have hB0 : Below w.heap.size w (w.alloc (.cells #[.int .u64 (hi : Int), .int .u64 (lo : Int), .int .u64 (id : Int), .int .u64 (par : Int), .string name, .int .i64 start, .int .i64 stop, .bool bad, .slice A n cap, .int .u64 (rv : Int)] 26)) := (Below.refl _ _).alloc (Nat.le_refl _) _
  obtain ⟨bn, hbn⟩ : ∃ b, isName name = b := ⟨_, rfl⟩
  have hN := fun W => refName_any name W hname bn hbn
  obtain ⟨t1, ht1⟩ : ∃ t, (decide (0 ≤ start) && decide (start ≤ 1099511627776)) = t := ⟨_, rfl⟩
  obtain ⟨t2, ht2⟩ : ∃ t, (decide (0 ≤ stop) && decide (stop ≤ 1099511627776)) = t := ⟨_, rfl⟩
  have hT1 := fun W => refTime_any start W t1 ht1
  have hT2 := fun W => refTime_any stop W t2 ht2
  have HN := Lib.hid hN
  have HT1 := Lib.hid hT1
  have HT2 := Lib.hid hT2
  have HBN := Lib.hid hbn
  have HR := Lib.hid hr
  have HL := Lib.hid hn
  clear hN hT1 hT2 hbn hr hn
  have b1 : ((hi : Int) == 0) = false := by simp; omega
  have G := Lib.hid (Or.inl g1 : hi ≠ 0 ∨ lo ≠ 0)
  clear g1
  by_cases c0 : id = 0
  · have d0 : ((id : Int) == 0) = true := by simp; omega
    obtain rfl : r = false := no_of hres (by simp [c0])
    clear hres c0
    go_enter Try.func25, Try.ntmps25
    go_wp2_with fail
    go_ret
    exact ⟨rfl, hB0⟩
  have d0 : ((id : Int) == 0) = false := by simp; omega
  cases bn with
  | false =>
    obtain rfl : r = false := no_of hres (by simp [HBN.out])
    clear hres
    go_enter Try.func25, Try.ntmps25
    go_wp2_with fail
    refine (HN.out _).mono ?_
    rintro e wz ⟨rfl, rfl⟩
    go_wp2_with fail
    go_ret
    exact ⟨rfl, hB0⟩
  | true =>
    cases t1 with
    | false =>
      have ht : ¬ (0 ≤ start ∧ start ≤ 1099511627776) := by simpa using ht1
      clear ht1 ht2
      obtain rfl : r = false := no_of hres (by intro h; obtain ⟨_, _, _, h4, h5, h6, _⟩ := h; dsimp only at h4 h5 h6; omega)
      clear hres
      clear ht
      go_enter Try.func25, Try.ntmps25
      go_wp2_with fail
      refine (HN.out _).mono ?_
      rintro e wz ⟨rfl, rfl⟩
      go_wp2_with fail
      refine (HT1.out _).mono ?_
      rintro e wz ⟨rfl, rfl⟩
      go_wp2_with fail
      go_ret
      exact ⟨rfl, hB0⟩
    | true =>
      have hs1 : 0 ≤ start ∧ start ≤ 1099511627776 := by simpa using ht1
      cases t2 with
      | false =>
        have ht : ¬ (0 ≤ stop ∧ stop ≤ 1099511627776) := by simpa using ht2
        clear ht1 ht2
        obtain rfl : r = false := no_of hres (by intro h; obtain ⟨_, _, _, h4, h5, h6, _⟩ := h; dsimp only at h4 h5 h6; omega)
        clear hres
        clear ht hs1
        go_enter Try.func25, Try.ntmps25
        go_wp2_with fail
        refine (HN.out _).mono ?_
        rintro e wz ⟨rfl, rfl⟩
        go_wp2_with fail
        refine (HT1.out _).mono ?_
        rintro e wz ⟨rfl, rfl⟩
        go_wp2_with fail
        refine (HT2.out _).mono ?_
        rintro e wz ⟨rfl, rfl⟩
        go_wp2_with fail
        go_ret
        exact ⟨rfl, hB0⟩
      | true =>
        have hs2 : 0 ≤ stop ∧ stop ≤ 1099511627776 := by simpa using ht2
        clear ht1 ht2
        by_cases c3 : stop < start
        · have d3 : decide (stop < start) = true := decide_eq_true c3
          obtain rfl : r = false := no_of hres (by intro h; obtain ⟨_, _, _, h4, h5, h6, _⟩ := h; dsimp only at h4 h5 h6; omega)
          clear hres
          clear hs1 hs2
          go_enter Try.func25, Try.ntmps25
          go_wp2_with fail
          refine (HN.out _).mono ?_
          rintro e wz ⟨rfl, rfl⟩
          go_wp2_with fail
          refine (HT1.out _).mono ?_
          rintro e wz ⟨rfl, rfl⟩
          go_wp2_with fail
          refine (HT2.out _).mono ?_
          rintro e wz ⟨rfl, rfl⟩
          go_wp2_with fail
          go_ret
          exact ⟨rfl, hB0⟩
        have d3 : decide (stop < start) = false := decide_eq_false c3
        by_cases c4 : 8 < n
        · have d4 : decide ((8 : Int) < (n : Int)) = true := by simp; omega
          obtain rfl : r = false := no_of hres (by intro h; have h7 := h.2.2.2.2.2.2.1; unfold rightAttrs at h7; simp only [Bool.and_eq_true, decide_eq_true_eq] at h7; have := HL.out; omega)
          clear hres
          clear hs1 hs2
          go_enter Try.func25, Try.ntmps25
          go_wp2_with fail
          refine (HN.out _).mono ?_
          rintro e wz ⟨rfl, rfl⟩
          go_wp2_with fail
          refine (HT1.out _).mono ?_
          rintro e wz ⟨rfl, rfl⟩
          go_wp2_with fail
          refine (HT2.out _).mono ?_
          rintro e wz ⟨rfl, rfl⟩
          go_wp2_with fail
          go_ret
          exact ⟨rfl, hB0⟩
        have d4 : decide ((8 : Int) < (n : Int)) = false := by simp; omega
        by_cases c5 : 72057594037927936 < rv
        · have d5 : decide ((72057594037927936 : Int) < (rv : Int)) = true := by simp; omega
          obtain rfl : r = false := no_of hres (by intro h; have h8 := h.2.2.2.2.2.2.2; dsimp only at h8; omega)
          clear hres
          clear hs1 hs2
          go_enter Try.func25, Try.ntmps25
          go_wp2_with fail
          refine (HN.out _).mono ?_
          rintro e wz ⟨rfl, rfl⟩
          go_wp2_with fail
          refine (HT1.out _).mono ?_
          rintro e wz ⟨rfl, rfl⟩
          go_wp2_with fail
          refine (HT2.out _).mono ?_
          rintro e wz ⟨rfl, rfl⟩
          go_wp2_with fail
          go_ret
          exact ⟨rfl, hB0⟩
        have d5 : decide ((72057594037927936 : Int) < (rv : Int)) = false := by simp; omega
        have hres2 : r = rightFrom none8 l := by
          rw [← hres]; unfold rightSpan; dsimp only
          rw [HBN.out, decide_eq_true G.out, decide_eq_true (by omega : id ≠ 0), decide_eq_true (by omega : 0 ≤ start), decide_eq_true (by omega : start ≤ stop), decide_eq_true (by omega : stop ≤ 1099511627776), decide_eq_true (by omega : rv ≤ 72057594037927936)]
          unfold rightAttrs
          rw [decide_eq_true (by have := HL.out; omega : l.length ≤ 8)]
          simp
        have HRR := Lib.hid hres2
        have n8 : n ≤ 8 := by omega
        clear hres hres2 hs1 hs2
        go_enter Try.func25, Try.ntmps25
        go_wp2_with fail
        refine (HN.out _).mono ?_
        rintro e wz ⟨rfl, rfl⟩
        go_wp2_with fail
        refine (HT1.out _).mono ?_
        rintro e wz ⟨rfl, rfl⟩
        go_wp2_with fail
        refine (HT2.out _).mono ?_
        rintro e wz ⟨rfl, rfl⟩
        go_wp2_with fail
        go_loopw [3] (fun iv wr => ∃ k : Nat, k ≤ n ∧ iv = .int .i64 (k : Int) ∧ Hid (r = rightFrom (if k = 0 then none8 else (l.getD (k - 1) (none8, none8)).1) (l.drop k)) ∧ wr.cell? ⟨w.heap.size, 8, none⟩ = some (.slice A n cap) ∧ w.heap.size < wr.heap.size ∧ Below w.heap.size w wr) (fun iv _ => n - (intOf iv).toNat)
        case atStart => exact ⟨0, by omega, rfl, Lib.hid (by rw [List.drop_zero]; exact HRR.out), World.cell?_alloc_mark _ _ _ _ _, by simp, hB0⟩
        case round =>
          obtain ⟨k, hk, rfl, hinv, h8, hlt0, hB⟩ := hrel
          clear hB0
          by_cases hlt : k < n
          · have dl : decide ((k : Int) < (n : Int)) = true := by simp; omega
            have dl' : decide (k < n) = true := by simp; omega
            obtain ⟨b, off, hA, hbl, hcell⟩ := (HR.out.below hB) (by rw [HL.out]; omega)
            obtain ⟨hc1, hc2, hz1, hz2⟩ := hcell k (by rw [HL.out]; exact hlt)
            have hdrop := drop_get (l := l) (k := k) (by rw [HL.out]; exact hlt)
            have hinv2 := hinv.out
            rw [hdrop] at hinv2
            have hlast : (if k + 1 = 0 then none8 else (l.getD (k + 1 - 1) (none8, none8)).1) = (l.getD k (none8, none8)).1 := by rw [if_neg (by omega), Nat.add_sub_cancel]
            obtain ⟨pv, hpv⟩ : ∃ pv, (if k = 0 then none8 else (l.getD (k - 1) (none8, none8)).1) = pv := ⟨_, rfl⟩
            have hpc : 0 < k → ∀ m : Nat, (k : Int) - 1 = (m : Int) → wr.cell? ⟨b, off + m * 2, none⟩ = some (.string pv) := fun h0 m hm => by
              rw [(hcell m (by rw [HL.out]; omega)).1, ← hpv, if_neg (by omega), show k - 1 = m by omega]
            rw [hpv] at hinv2
            obtain ⟨a, ha⟩ : ∃ a, l.getD k (none8, none8) = a := ⟨_, rfl⟩
            rw [ha] at hc1 hc2 hz1 hz2 hinv2 hlast
            obtain ⟨key, val⟩ := a
            have HI : Hid (r = (isName key && !le8 key pv && decide (val.size ≤ 60) && rightFrom key (l.drop (k + 1)))) := Lib.hid hinv2
            dsimp only at hc1 hc2 hz1 hz2 hlast
            subst hA
            obtain ⟨bk, hbk⟩ : ∃ bk, isName key = bk := ⟨_, rfl⟩
            have hNK := fun W => refName_any key W hz1 bk hbk
            have HPV0 : Hid (k = 0 → pv = none8) := Lib.hid (fun h => by rw [← hpv, if_pos h])
            have HPC := Lib.hid hpc
            have HLA := Lib.hid hlast
            have HBK := Lib.hid hbk
            have hB1 : Below w.heap.size w (wr.alloc (.cells #[.string key, .string val] 36)) := hB.alloc (by omega) _
            clear hinv hinv2 hdrop hcell hpc hpv ha hlast hbk
            cases bk with
            | false =>
              obtain rfl : r = false := by rw [HI.out, HBK.out]; rfl
              go_wp2_with fail
              go_quiet ((go_at_call 42; exact Calls.quiet_of_same (hNK _)))
              go_wp2_with fail
              go_ret
              exact ⟨rfl, draws3 hB1 _⟩
            | true =>
              by_cases h3 : 60 < val.size
              · have d6 : decide ((60 : Int) < (val.size : Int)) = true := by simp; omega
                obtain rfl : r = false := by rw [HI.out, decide_eq_false (by omega : ¬ val.size ≤ 60)]; simp
                go_wp2_with fail
                go_quiet ((go_at_call 42; exact Calls.quiet_of_same (hNK _)))
                go_wp2_with fail
                go_ret
                exact ⟨rfl, draws3 hB1 _⟩
              have d6 : decide ((60 : Int) < (val.size : Int)) = false := by simp; omega
              by_cases hk0 : k = 0
              · have d7 : decide ((0 : Int) < (k : Int)) = false := by simp; omega
                have d7' : decide (0 < k) = false := by simp; omega
                have hgo : r = rightFrom key (l.drop (k + 1)) := by rw [HI.out, HBK.out, HPV0.out hk0, name_full HBK.out, decide_eq_true (by omega : val.size ≤ 60)]; simp
                have HG := Lib.hid hgo
                have HK0 := Lib.hid hk0
                clear hgo HI HRR hk0
                go_wp2_with fail
                go_quiet ((go_at_call 42; exact Calls.quiet_of_same (hNK _)))
                go_wp2_with fail
                go_roundw
                case rel => exact ⟨k + 1, by omega, by go_num, Lib.hid (by rw [HLA.out]; exact HG.out), by rw [drew_cell, cell_alloc_below _ _ _ hlt0]; exact h8, by rw [drew_size, World.size_alloc]; omega, draws3 hB1 _⟩
                case measure => simp [intOf]; omega
              have d7 : decide ((0 : Int) < (k : Int)) = true := by simp; omega
              have d7' : decide (0 < k) = true := by simp; omega
              obtain ⟨m, hm⟩ : ∃ m : Nat, (k : Int) - 1 = (m : Int) := ⟨k - 1, by omega⟩
              have hp := HPC.out (by omega) m hm
              have hmn : m < n := by omega
              have hbw : b < wr.heap.size := by omega
              have hp2 : (wr.alloc (.cells #[.string key, .string val] 36)).cell? ⟨b, off + m * 2, none⟩ = some (.string pv) := by rw [cell_alloc_below _ _ _ hbw]; exact hp
              have hmi : (m : Int) < (n : Int) := by omega
              have hm0 : (0 : Int) ≤ (m : Int) := by omega
              have hmw : IntKind.i64.wrap (m : Int) = (m : Int) := by rw [IntKind.wrap_i64]; omega
              clear hk0
              by_cases h2 : le8 key pv = true
              · obtain rfl : r = false := by rw [HI.out, h2]; simp
                unfold le8 at h2
                go_wp2_with fail
                go_quiet ((go_at_call 42; exact Calls.quiet_of_same (hNK _)))
                go_wp2_with fail
                go_ret
                exact ⟨rfl, draws3 hB1 _⟩
              have h2 : le8 key pv = false := by simpa using h2
              have hgo : r = rightFrom key (l.drop (k + 1)) := by rw [HI.out, HBK.out, h2, decide_eq_true (by omega : val.size ≤ 60)]; simp
              have HG := Lib.hid hgo
              unfold le8 at h2
              clear hgo HI HRR
              go_wp2_with fail
              go_quiet ((go_at_call 42; exact Calls.quiet_of_same (hNK _)))
              go_wp2_with fail
              go_roundw
              case rel => exact ⟨k + 1, by omega, by go_num, Lib.hid (by rw [HLA.out]; exact HG.out), by rw [drew_cell, cell_alloc_below _ _ _ hlt0]; exact h8, by rw [drew_size, World.size_alloc]; omega, draws3 hB1 _⟩
              case measure => simp [intOf]; omega
          · have dl : decide ((k : Int) < (n : Int)) = false := by simp; omega
            have dl' : decide (k < n) = false := by simp; omega
            obtain rfl : r = true := by rw [hinv.out, List.drop_of_length_le (by rw [HL.out]; omega)]; rfl
            clear hinv HRR
            go_wp2_with fail
            go_ret
            exact ⟨rfl, hB⟩

set_option linter.unusedVariables false in
set_option linter.unusedSimpArgs false in
set_option maxRecDepth 100000 in
set_option maxHeartbeats 4000000 in
theorem refRightSpan_lo (hi lo id par rv : Nat) (name : ByteArray) (start stop : Int) (bad : Bool) (A : Option Addr) (l : List Attr) (n cap : Nat) (w : World) (r : Bool) (hn : l.length = n) (hnm : n ≤ 9223372036854775807) (hname : name.size ≤ 9223372036854775807) (hr : HoldsA w.heap.size w A l) (hres : rightSpan ⟨hi, lo, id, par, name, start, stop, bad, l, rv⟩ = r) (g1 : hi = 0) (g2 : lo ≠ 0) :
    Calls Try.prog 25 #[.agg (spCells hi lo id par name start stop bad A n cap rv)] w fun e w' => e = .returned (.bool r) ∧ Below w.heap.size w w' := by
  unfold spCells
  have hB0 : Below w.heap.size w (w.alloc (.cells #[.int .u64 (hi : Int), .int .u64 (lo : Int), .int .u64 (id : Int), .int .u64 (par : Int), .string name, .int .i64 start, .int .i64 stop, .bool bad, .slice A n cap, .int .u64 (rv : Int)] 26)) := (Below.refl _ _).alloc (Nat.le_refl _) _
  obtain ⟨bn, hbn⟩ : ∃ b, isName name = b := ⟨_, rfl⟩
  have hN := fun W => refName_any name W hname bn hbn
  obtain ⟨t1, ht1⟩ : ∃ t, (decide (0 ≤ start) && decide (start ≤ 1099511627776)) = t := ⟨_, rfl⟩
  obtain ⟨t2, ht2⟩ : ∃ t, (decide (0 ≤ stop) && decide (stop ≤ 1099511627776)) = t := ⟨_, rfl⟩
  have hT1 := fun W => refTime_any start W t1 ht1
  have hT2 := fun W => refTime_any stop W t2 ht2
  have HN := Lib.hid hN
  have HT1 := Lib.hid hT1
  have HT2 := Lib.hid hT2
  have HBN := Lib.hid hbn
  have HR := Lib.hid hr
  have HL := Lib.hid hn
  clear hN hT1 hT2 hbn hr hn
  have b1 : ((hi : Int) == 0) = true := by simp; omega
  have b2 : ((lo : Int) == 0) = false := by simp; omega
  have G := Lib.hid (Or.inr g2 : hi ≠ 0 ∨ lo ≠ 0)
  clear g1 g2
  by_cases c0 : id = 0
  · have d0 : ((id : Int) == 0) = true := by simp; omega
    obtain rfl : r = false := no_of hres (by simp [c0])
    clear hres c0
    go_enter Try.func25, Try.ntmps25
    go_wp2_with fail
    go_ret
    exact ⟨rfl, hB0⟩
  have d0 : ((id : Int) == 0) = false := by simp; omega
  cases bn with
  | false =>
    obtain rfl : r = false := no_of hres (by simp [HBN.out])
    clear hres
    go_enter Try.func25, Try.ntmps25
    go_wp2_with fail
    refine (HN.out _).mono ?_
    rintro e wz ⟨rfl, rfl⟩
    go_wp2_with fail
    go_ret
    exact ⟨rfl, hB0⟩
  | true =>
    cases t1 with
    | false =>
      have ht : ¬ (0 ≤ start ∧ start ≤ 1099511627776) := by simpa using ht1
      clear ht1 ht2
      obtain rfl : r = false := no_of hres (by intro h; obtain ⟨_, _, _, h4, h5, h6, _⟩ := h; dsimp only at h4 h5 h6; omega)
      clear hres
      clear ht
      go_enter Try.func25, Try.ntmps25
      go_wp2_with fail
      refine (HN.out _).mono ?_
      rintro e wz ⟨rfl, rfl⟩
      go_wp2_with fail
      refine (HT1.out _).mono ?_
      rintro e wz ⟨rfl, rfl⟩
      go_wp2_with fail
      go_ret
      exact ⟨rfl, hB0⟩
    | true =>
      have hs1 : 0 ≤ start ∧ start ≤ 1099511627776 := by simpa using ht1
      cases t2 with
      | false =>
        have ht : ¬ (0 ≤ stop ∧ stop ≤ 1099511627776) := by simpa using ht2
        clear ht1 ht2
        obtain rfl : r = false := no_of hres (by intro h; obtain ⟨_, _, _, h4, h5, h6, _⟩ := h; dsimp only at h4 h5 h6; omega)
        clear hres
        clear ht hs1
        go_enter Try.func25, Try.ntmps25
        go_wp2_with fail
        refine (HN.out _).mono ?_
        rintro e wz ⟨rfl, rfl⟩
        go_wp2_with fail
        refine (HT1.out _).mono ?_
        rintro e wz ⟨rfl, rfl⟩
        go_wp2_with fail
        refine (HT2.out _).mono ?_
        rintro e wz ⟨rfl, rfl⟩
        go_wp2_with fail
        go_ret
        exact ⟨rfl, hB0⟩
      | true =>
        have hs2 : 0 ≤ stop ∧ stop ≤ 1099511627776 := by simpa using ht2
        clear ht1 ht2
        by_cases c3 : stop < start
        · have d3 : decide (stop < start) = true := decide_eq_true c3
          obtain rfl : r = false := no_of hres (by intro h; obtain ⟨_, _, _, h4, h5, h6, _⟩ := h; dsimp only at h4 h5 h6; omega)
          clear hres
          clear hs1 hs2
          go_enter Try.func25, Try.ntmps25
          go_wp2_with fail
          refine (HN.out _).mono ?_
          rintro e wz ⟨rfl, rfl⟩
          go_wp2_with fail
          refine (HT1.out _).mono ?_
          rintro e wz ⟨rfl, rfl⟩
          go_wp2_with fail
          refine (HT2.out _).mono ?_
          rintro e wz ⟨rfl, rfl⟩
          go_wp2_with fail
          go_ret
          exact ⟨rfl, hB0⟩
        have d3 : decide (stop < start) = false := decide_eq_false c3
        by_cases c4 : 8 < n
        · have d4 : decide ((8 : Int) < (n : Int)) = true := by simp; omega
          obtain rfl : r = false := no_of hres (by intro h; have h7 := h.2.2.2.2.2.2.1; unfold rightAttrs at h7; simp only [Bool.and_eq_true, decide_eq_true_eq] at h7; have := HL.out; omega)
          clear hres
          clear hs1 hs2
          go_enter Try.func25, Try.ntmps25
          go_wp2_with fail
          refine (HN.out _).mono ?_
          rintro e wz ⟨rfl, rfl⟩
          go_wp2_with fail
          refine (HT1.out _).mono ?_
          rintro e wz ⟨rfl, rfl⟩
          go_wp2_with fail
          refine (HT2.out _).mono ?_
          rintro e wz ⟨rfl, rfl⟩
          go_wp2_with fail
          go_ret
          exact ⟨rfl, hB0⟩
        have d4 : decide ((8 : Int) < (n : Int)) = false := by simp; omega
        by_cases c5 : 72057594037927936 < rv
        · have d5 : decide ((72057594037927936 : Int) < (rv : Int)) = true := by simp; omega
          obtain rfl : r = false := no_of hres (by intro h; have h8 := h.2.2.2.2.2.2.2; dsimp only at h8; omega)
          clear hres
          clear hs1 hs2
          go_enter Try.func25, Try.ntmps25
          go_wp2_with fail
          refine (HN.out _).mono ?_
          rintro e wz ⟨rfl, rfl⟩
          go_wp2_with fail
          refine (HT1.out _).mono ?_
          rintro e wz ⟨rfl, rfl⟩
          go_wp2_with fail
          refine (HT2.out _).mono ?_
          rintro e wz ⟨rfl, rfl⟩
          go_wp2_with fail
          go_ret
          exact ⟨rfl, hB0⟩
        have d5 : decide ((72057594037927936 : Int) < (rv : Int)) = false := by simp; omega
        have hres2 : r = rightFrom none8 l := by
          rw [← hres]; unfold rightSpan; dsimp only
          rw [HBN.out, decide_eq_true G.out, decide_eq_true (by omega : id ≠ 0), decide_eq_true (by omega : 0 ≤ start), decide_eq_true (by omega : start ≤ stop), decide_eq_true (by omega : stop ≤ 1099511627776), decide_eq_true (by omega : rv ≤ 72057594037927936)]
          unfold rightAttrs
          rw [decide_eq_true (by have := HL.out; omega : l.length ≤ 8)]
          simp
        have HRR := Lib.hid hres2
        have n8 : n ≤ 8 := by omega
        clear hres hres2 hs1 hs2
        go_enter Try.func25, Try.ntmps25
        go_wp2_with fail
        refine (HN.out _).mono ?_
        rintro e wz ⟨rfl, rfl⟩
        go_wp2_with fail
        refine (HT1.out _).mono ?_
        rintro e wz ⟨rfl, rfl⟩
        go_wp2_with fail
        refine (HT2.out _).mono ?_
        rintro e wz ⟨rfl, rfl⟩
        go_wp2_with fail
        go_loopw [3] (fun iv wr => ∃ k : Nat, k ≤ n ∧ iv = .int .i64 (k : Int) ∧ Hid (r = rightFrom (if k = 0 then none8 else (l.getD (k - 1) (none8, none8)).1) (l.drop k)) ∧ wr.cell? ⟨w.heap.size, 8, none⟩ = some (.slice A n cap) ∧ w.heap.size < wr.heap.size ∧ Below w.heap.size w wr) (fun iv _ => n - (intOf iv).toNat)
        case atStart => exact ⟨0, by omega, rfl, Lib.hid (by rw [List.drop_zero]; exact HRR.out), World.cell?_alloc_mark _ _ _ _ _, by simp, hB0⟩
        case round =>
          obtain ⟨k, hk, rfl, hinv, h8, hlt0, hB⟩ := hrel
          clear hB0
          by_cases hlt : k < n
          · have dl : decide ((k : Int) < (n : Int)) = true := by simp; omega
            have dl' : decide (k < n) = true := by simp; omega
            obtain ⟨b, off, hA, hbl, hcell⟩ := (HR.out.below hB) (by rw [HL.out]; omega)
            obtain ⟨hc1, hc2, hz1, hz2⟩ := hcell k (by rw [HL.out]; exact hlt)
            have hdrop := drop_get (l := l) (k := k) (by rw [HL.out]; exact hlt)
            have hinv2 := hinv.out
            rw [hdrop] at hinv2
            have hlast : (if k + 1 = 0 then none8 else (l.getD (k + 1 - 1) (none8, none8)).1) = (l.getD k (none8, none8)).1 := by rw [if_neg (by omega), Nat.add_sub_cancel]
            obtain ⟨pv, hpv⟩ : ∃ pv, (if k = 0 then none8 else (l.getD (k - 1) (none8, none8)).1) = pv := ⟨_, rfl⟩
            have hpc : 0 < k → ∀ m : Nat, (k : Int) - 1 = (m : Int) → wr.cell? ⟨b, off + m * 2, none⟩ = some (.string pv) := fun h0 m hm => by
              rw [(hcell m (by rw [HL.out]; omega)).1, ← hpv, if_neg (by omega), show k - 1 = m by omega]
            rw [hpv] at hinv2
            obtain ⟨a, ha⟩ : ∃ a, l.getD k (none8, none8) = a := ⟨_, rfl⟩
            rw [ha] at hc1 hc2 hz1 hz2 hinv2 hlast
            obtain ⟨key, val⟩ := a
            have HI : Hid (r = (isName key && !le8 key pv && decide (val.size ≤ 60) && rightFrom key (l.drop (k + 1)))) := Lib.hid hinv2
            dsimp only at hc1 hc2 hz1 hz2 hlast
            subst hA
            obtain ⟨bk, hbk⟩ : ∃ bk, isName key = bk := ⟨_, rfl⟩
            have hNK := fun W => refName_any key W hz1 bk hbk
            have HPV0 : Hid (k = 0 → pv = none8) := Lib.hid (fun h => by rw [← hpv, if_pos h])
            have HPC := Lib.hid hpc
            have HLA := Lib.hid hlast
            have HBK := Lib.hid hbk
            have hB1 : Below w.heap.size w (wr.alloc (.cells #[.string key, .string val] 36)) := hB.alloc (by omega) _
            clear hinv hinv2 hdrop hcell hpc hpv ha hlast hbk
            cases bk with
            | false =>
              obtain rfl : r = false := by rw [HI.out, HBK.out]; rfl
              go_wp2_with fail
              go_quiet ((go_at_call 42; exact Calls.quiet_of_same (hNK _)))
              go_wp2_with fail
              go_ret
              exact ⟨rfl, draws3 hB1 _⟩
            | true =>
              by_cases h3 : 60 < val.size
              · have d6 : decide ((60 : Int) < (val.size : Int)) = true := by simp; omega
                obtain rfl : r = false := by rw [HI.out, decide_eq_false (by omega : ¬ val.size ≤ 60)]; simp
                go_wp2_with fail
                go_quiet ((go_at_call 42; exact Calls.quiet_of_same (hNK _)))
                go_wp2_with fail
                go_ret
                exact ⟨rfl, draws3 hB1 _⟩
              have d6 : decide ((60 : Int) < (val.size : Int)) = false := by simp; omega
              by_cases hk0 : k = 0
              · have d7 : decide ((0 : Int) < (k : Int)) = false := by simp; omega
                have d7' : decide (0 < k) = false := by simp; omega
                have hgo : r = rightFrom key (l.drop (k + 1)) := by rw [HI.out, HBK.out, HPV0.out hk0, name_full HBK.out, decide_eq_true (by omega : val.size ≤ 60)]; simp
                have HG := Lib.hid hgo
                have HK0 := Lib.hid hk0
                clear hgo HI HRR hk0
                go_wp2_with fail
                go_quiet ((go_at_call 42; exact Calls.quiet_of_same (hNK _)))
                go_wp2_with fail
                go_roundw
                case rel => exact ⟨k + 1, by omega, by go_num, Lib.hid (by rw [HLA.out]; exact HG.out), by rw [drew_cell, cell_alloc_below _ _ _ hlt0]; exact h8, by rw [drew_size, World.size_alloc]; omega, draws3 hB1 _⟩
                case measure => simp [intOf]; omega
              have d7 : decide ((0 : Int) < (k : Int)) = true := by simp; omega
              have d7' : decide (0 < k) = true := by simp; omega
              obtain ⟨m, hm⟩ : ∃ m : Nat, (k : Int) - 1 = (m : Int) := ⟨k - 1, by omega⟩
              have hp := HPC.out (by omega) m hm
              have hmn : m < n := by omega
              have hbw : b < wr.heap.size := by omega
              have hp2 : (wr.alloc (.cells #[.string key, .string val] 36)).cell? ⟨b, off + m * 2, none⟩ = some (.string pv) := by rw [cell_alloc_below _ _ _ hbw]; exact hp
              have hmi : (m : Int) < (n : Int) := by omega
              have hm0 : (0 : Int) ≤ (m : Int) := by omega
              have hmw : IntKind.i64.wrap (m : Int) = (m : Int) := by rw [IntKind.wrap_i64]; omega
              clear hk0
              by_cases h2 : le8 key pv = true
              · obtain rfl : r = false := by rw [HI.out, h2]; simp
                unfold le8 at h2
                go_wp2_with fail
                go_quiet ((go_at_call 42; exact Calls.quiet_of_same (hNK _)))
                go_wp2_with fail
                go_ret
                exact ⟨rfl, draws3 hB1 _⟩
              have h2 : le8 key pv = false := by simpa using h2
              have hgo : r = rightFrom key (l.drop (k + 1)) := by rw [HI.out, HBK.out, h2, decide_eq_true (by omega : val.size ≤ 60)]; simp
              have HG := Lib.hid hgo
              unfold le8 at h2
              clear hgo HI HRR
              go_wp2_with fail
              go_quiet ((go_at_call 42; exact Calls.quiet_of_same (hNK _)))
              go_wp2_with fail
              go_roundw
              case rel => exact ⟨k + 1, by omega, by go_num, Lib.hid (by rw [HLA.out]; exact HG.out), by rw [drew_cell, cell_alloc_below _ _ _ hlt0]; exact h8, by rw [drew_size, World.size_alloc]; omega, draws3 hB1 _⟩
              case measure => simp [intOf]; omega
          · have dl : decide ((k : Int) < (n : Int)) = false := by simp; omega
            have dl' : decide (k < n) = false := by simp; omega
            obtain rfl : r = true := by rw [hinv.out, List.drop_of_length_le (by rw [HL.out]; omega)]; rfl
            clear hinv HRR
            go_wp2_with fail
            go_ret
            exact ⟨rfl, hB⟩

/-- **telemeterref03.RightSpan at every span.** -/
theorem refRightSpan_any (hi lo id par rv : Nat) (name : ByteArray) (start stop : Int) (bad : Bool) (A : Option Addr) (l : List Attr) (n cap : Nat) (w : World) (r : Bool) (hn : l.length = n) (hnm : n ≤ 9223372036854775807) (hname : name.size ≤ 9223372036854775807) (hr : HoldsA w.heap.size w A l) (hres : rightSpan ⟨hi, lo, id, par, name, start, stop, bad, l, rv⟩ = r) :
    Calls Try.prog 25 #[.agg (spCells hi lo id par name start stop bad A n cap rv)] w fun e w' => e = .returned (.bool r) ∧ Below w.heap.size w w' := by
  by_cases h1 : hi = 0
  · by_cases h2 : lo = 0
    · exact refRightSpan_none hi lo id par rv name start stop bad A l n cap w r hn hnm hname hr hres h1 h2
    · exact refRightSpan_lo hi lo id par rv name start stop bad A l n cap w r hn hnm hname hr hres h1 h2
  · exact refRightSpan_hi hi lo id par rv name start stop bad A l n cap w r hn hnm hname hr hres h1

end Go.Proofs.Ytklgggolkclebaa
