/-
  Proved: NumOne returns true for every slice of bytes and every number: bytes that are a number are the one way to write it; fewer are too few. No condition.
-/
import Derived.Deep.RegionWith
import Derived.Deep.RegionHeld3
import Derived.Deep.LoopGhost
import Derived.Test.YtmgjckgoiieppaaNumRef
namespace Go.Proofs.Ytmgjckgoiieppaa
open Go.ChangeShapes Go.WideShapes Go.ChangeAt Go.RowKit Go.Proofs.NumMath

/-- 'string(b)' of a slice of bytes. -/
theorem text_run (A : Option Addr) (cs : List UInt8) (len cap : Nat) (W : World) (n₀ : Nat) (hlen : cs.length = len) (hr : Holds8 n₀ W A cs) :
    (convert 23 9 (.slice A len cap)).run Try.prog W = .ok (.string ⟨cs.toArray⟩) W := by
  subst hlen
  rcases A with _ | a
  · have hy : cs = [] := by
      rcases Nat.eq_zero_or_pos cs.length with h0 | h0
      · exact List.eq_nil_of_length_eq_zero h0
      · obtain ⟨_, _, e, _⟩ := hr h0
        cases e
    subst hy
    rw [run_convert_bytes_nil W 23 5 Try.underlying23 Try.underlying5 _ cap 9 Try.underlying9]; rfl
  · refine run_convert_bytes_back W 23 9 5 a cap cs Try.underlying23 Try.underlying5 Try.underlying9 (fun j hj => ?_)
    obtain ⟨b, off, e, _, hc⟩ := hr (by omega)
    cases e
    have hp : (⟨b, off, none⟩ : Addr).add j = ⟨b, off + j, none⟩ := by unfold Addr.add; split <;> simp_all
    rw [hp, hc j hj]
    simp [b8, hj]

/-- What Get found at 0 is the one way to write it. -/
theorem getAt_one {cs : List UInt8} {n to : Nat} (h : getAt cs 0 = (n, to, 0)) : to ≤ cs.length ∧ n < 18446744073709551616 ∧ cs.take to = put n := by
  have h2 := getAt_le h
  have h3 := getAt_of (cs := cs) (i := 0) (Nat.zero_le _)
  have h4 : getAt cs ((0 : Nat) : Int) = (n, to, 0) := h
  rw [h4, List.drop_zero] at h3
  generalize hs : scan 0 0 cs = r at h3
  obtain ⟨a, s, e⟩ := r
  by_cases he : e = 0
  · subst he
    simp at h3
    obtain ⟨m, _, e1, e2, e3, _, _, _⟩ := scan_inv _ 0 0 _ _ (by omega) hs
    simp at e1 e2
    obtain ⟨rfl, rfl⟩ := h3
    subst e1 e2
    exact ⟨h2.1, h2.2, e3⟩
  · simp [he] at h3
    exact absurd h3.2.2.symm he
theorem getAt_cut (n i : Nat) (hn : n < 18446744073709551616) (hi : i < (put n).length) : getAt ((put n).take i) 0 = (0, 0, 10) := by
  have h := getAt_of (cs := (put n).take i) (i := 0) (Nat.zero_le _)
  rw [List.drop_zero, scan_cut n 0 0 i hi (by have := put_len10 hn; omega)] at h
  exact h

theorem undrew {B : Nat} {a b : World} (h : Below B a.drew b) : Below B a b := ⟨h.os, h.tape, h.output, h.size, h.block⟩
theorem get_cut (A : Option Addr) (n i len cap : Nat) (w : World) (hn : n < 18446744073709551616) (hlen : (put n).length = len) (hi : i < len) (hl : len ≤ cap) (hcap : cap ≤ 9223372036854775807) (hr : Holds8 w.heap.size w A (put n)) :
    Calls Try.prog 14 #[.slice A i cap, .int .i64 0] w fun e w' => e = .returned (.tuple #[.int .u64 0, .int .i64 0, .int .u16 10]) ∧ Below w.heap.size w w' := by
  have hli : ((put n).take i).length = i := by rw [List.length_take, hlen]; omega
  have h := get_any A ((put n).take i) cap 0 w (by omega) hcap (hr.take i)
  rw [getAt_cut n i hn (by omega), hli] at h
  exact h

set_option linter.unusedSimpArgs false in
set_option maxRecDepth 100000 in
set_option maxHeartbeats 4000000 in
theorem one_walk (A : Option Addr) (cs : List UInt8) (cap n : Nat) (w : World) (hl : cs.length ≤ cap) (hcap : cap ≤ 9223372036854775807) (hn : n < 18446744073709551616) (hr : Holds8 w.heap.size w A cs) :
    Calls Try.prog 9 #[.slice A cs.length cap, .int .u64 (n : Int)] w fun e w' => e = .returned (.bool true) ∧ Below w.heap.size w w' := by
  obtain ⟨len, hlen⟩ : ∃ len, cs.length = len := ⟨_, rfl⟩
  obtain ⟨g, hg⟩ : ∃ g, getAt cs 0 = g := ⟨_, rfl⟩
  obtain ⟨x, to, e0⟩ := g
  obtain ⟨pl, hpl⟩ : ∃ pl, (put n).length = pl := ⟨_, rfl⟩
  have hp10 := put_len10 hn
  rw [hpl] at hp10
  have HGET := Lib.hid (fun (W : World) (hb : Below w.heap.size w W) => get_any A cs cap 0 W hl hcap (hr.later hb))
  rw [hg] at HGET
  have HR := Lib.hid hr
  have HL := Lib.hid hlen
  have HG := Lib.hid hg
  have HP := Lib.hid hpl
  rw [hlen] at hl HGET ⊢
  clear hlen hg hr hpl
  by_cases h1 : 40 < len
  · have d1 : decide ((40 : Int) < (len : Int)) = true := by simp; omega
    go_enter Try.func9, Try.ntmps9
    go_wp2_with fail
    refine (known_any _).mono ?_
    rintro e w1 ⟨rfl, hb1⟩
    go_wp2_with fail
    go_ret
    exact ⟨rfl, hb1⟩
  · have d1 : decide ((40 : Int) < (len : Int)) = false := by simp; omega
    have hmx : Try.prog.follows .mixedOrders = true := by kernel_rfl
    by_cases he : e0 = 0
    · subst he
      obtain ⟨hto, hx, htake⟩ := getAt_one HG.out
      rw [HL.out] at hto
      obtain ⟨xl, hxl⟩ : ∃ xl, (put x).length = xl := ⟨_, rfl⟩
      have HX := Lib.hid hxl
      have HT := Lib.hid htake
      clear hxl htake
      have d3 : decide (len < to) = false := by simp; omega
      have d4 : decide ((len : Int) < (to : Int)) = false := by simp; omega
      have HCV : Hid (∀ W : World, Below w.heap.size w W → (convert 23 9 (.slice A to cap)).run Try.prog W = .ok (.string ⟨(put x).toArray⟩) W) := Lib.hid (fun W hb => by
        have h := text_run A (cs.take to) to cap W _ (by rw [List.length_take, HL.out]; omega) ((HR.out.take to).below hb)
        rw [HT.out] at h
        exact h)
      go_enter Try.func9, Try.ntmps9
      go_wp2_with fail
      refine (known_any _).mono ?_
      rintro e w1 ⟨rfl, hb1⟩
      go_wp2_with fail
      refine (HGET.out w1 hb1).mono ?_
      rintro e w2 ⟨rfl, hb2⟩
      dsimp only
      have hB2 : Below w.heap.size w w2 := hb1.trans (hb2.mono hb1.size)
      have hB2d : Below w.heap.size w w2.drew := ⟨hB2.os, hB2.tape, hB2.output, hB2.size, hB2.block⟩
      have cv2 := HCV.out w2.drew hB2d
      have s0 : (0 : Int) ≤ (to : Int) := by omega
      have s1 : (to : Int) ≤ (cap : Int) := by omega
      go_wp2_with fail
      refine wp_region_held_drew (S := fun W => Below w.heap.size w W ∧ (convert 23 9 (.slice A to cap)).run Try.prog W = .ok (.string ⟨(put x).toArray⟩) W) (by kernel_rfl) ?_ (fun hHeld => ?_)
      · exact ⟨hB2d, cv2⟩
      refine wpAnyH_take (i := 0) (v := ?_) rfl (by kernel_rfl) (by kernel_rfl) (by kernel_rfl) (fun _ _ _ h => h) (Or.inl ⟨by rfl, ?_⟩) (by assumption) ?_
      rotate_left
      · intro wq hSw; (try dsimp only at hSw); go_simp; (try with_reducible rfl)
      simp only [Act.put, List.getElem_toArray, List.getElem_cons_succ, List.getElem_cons_zero, List.setIfInBounds_toArray, List.set_cons_zero, List.set_cons_succ]
      refine wpAnyH_take (i := 1) (v := ?_) rfl (by kernel_rfl) (by kernel_rfl) (by kernel_rfl) (fun _ _ _ h => h) (Or.inl ⟨by rfl, ?_⟩) (by assumption) ?_
      rotate_left
      · intro wq hSw; (try dsimp only at hSw); go_simp; (try with_reducible rfl)
      simp only [Act.put, List.getElem_toArray, List.getElem_cons_succ, List.getElem_cons_zero, List.setIfInBounds_toArray, List.set_cons_zero, List.set_cons_succ]
      refine wpAnyH_take (i := 2) (v := ?_) rfl (by kernel_rfl) (by kernel_rfl) (by kernel_rfl) (fun _ _ _ h => h) (Or.inl ⟨by rfl, ?_⟩) (by assumption) ?_
      rotate_left
      · intro wq hSw; (try dsimp only at hSw); go_simp; (try with_reducible rfl)
      simp only [Act.put, List.getElem_toArray, List.getElem_cons_succ, List.getElem_cons_zero, List.setIfInBounds_toArray, List.set_cons_zero, List.set_cons_succ]
      refine wpAnyH_take (i := 3) (v := ?_) rfl (by kernel_rfl) (by kernel_rfl) (by kernel_rfl) (fun _ _ _ h => h) (Or.inl ⟨by rfl, ?_⟩) (by assumption) ?_
      rotate_left
      · intro wq hSw; (try dsimp only at hSw); go_simp; (try with_reducible rfl)
      simp only [Act.put, List.getElem_toArray, List.getElem_cons_succ, List.getElem_cons_zero, List.setIfInBounds_toArray, List.set_cons_zero, List.set_cons_succ]
      refine wpAnyH_take (i := 4) (v := ?_) rfl (by kernel_rfl) (by kernel_rfl) (by kernel_rfl) (fun _ _ _ h => h) (Or.inl ⟨by rfl, ?_⟩) (by assumption) ?_
      rotate_left
      · intro wq hSw; (try dsimp only at hSw); go_simp; (try with_reducible rfl)
      simp only [Act.put, List.getElem_toArray, List.getElem_cons_succ, List.getElem_cons_zero, List.setIfInBounds_toArray, List.set_cons_zero, List.set_cons_succ]
      refine wpAnyH_take (i := 5) (v := ?_) rfl (by kernel_rfl) (by kernel_rfl) (by kernel_rfl) (fun _ _ _ h => h) (Or.inl ⟨by rfl, ?_⟩) (by assumption) ?_
      rotate_left
      · intro wq hSw; (try dsimp only at hSw); go_simp; (try with_reducible rfl)
      simp only [Act.put, List.getElem_toArray, List.getElem_cons_succ, List.getElem_cons_zero, List.setIfInBounds_toArray, List.set_cons_zero, List.set_cons_succ]
      refine wpAnyH_take (i := 6) (v := ?_) rfl (by kernel_rfl) (by kernel_rfl) (by kernel_rfl) (fun _ _ _ h => h) (Or.inl ⟨by rfl, ?_⟩) (by assumption) ?_
      rotate_left
      · intro wq hSw; (try dsimp only at hSw); go_simp; (try with_reducible rfl)
      simp only [Act.put, List.getElem_toArray, List.getElem_cons_succ, List.getElem_cons_zero, List.setIfInBounds_toArray, List.set_cons_zero, List.set_cons_succ]
      refine wpAnyH_take (i := 7) (v := ?_) rfl (by kernel_rfl) (by kernel_rfl) (by kernel_rfl) (fun _ _ _ h => h) (Or.inl ⟨by rfl, ?_⟩) (by assumption) ?_
      rotate_left
      · intro wq hSw; (try dsimp only at hSw); go_simp; (try with_reducible rfl)
      simp only [Act.put, List.getElem_toArray, List.getElem_cons_succ, List.getElem_cons_zero, List.setIfInBounds_toArray, List.set_cons_zero, List.set_cons_succ]
      refine wpAnyH_take (i := 8) (v := ?_) rfl (by kernel_rfl) (by kernel_rfl) (by kernel_rfl) (fun _ _ _ h => h) (Or.inl ⟨by rfl, ?_⟩) (by assumption) ?_
      rotate_left
      · intro wq hSw; (try dsimp only at hSw); go_simp; (try with_reducible rfl)
      simp only [Act.put, List.getElem_toArray, List.getElem_cons_succ, List.getElem_cons_zero, List.setIfInBounds_toArray, List.set_cons_zero, List.set_cons_succ]
      refine wpAnyH_take (i := 11) (v := ?_) rfl (by kernel_rfl) (by kernel_rfl) (by kernel_rfl) (fun _ _ _ h => h) (Or.inl ⟨by rfl, ?_⟩) (by assumption) ?_
      rotate_left
      · intro wq hSw; (try dsimp only at hSw); go_simp; (try with_reducible rfl)
      simp only [Act.put, List.getElem_toArray, List.getElem_cons_succ, List.getElem_cons_zero, List.setIfInBounds_toArray, List.set_cons_zero, List.set_cons_succ]
      refine wpAnyH_take (i := 12) (v := ?_) rfl (by kernel_rfl) (by kernel_rfl) (by kernel_rfl) (fun _ _ _ h => h) (Or.inl ⟨by rfl, ?_⟩) (by assumption) ?_
      rotate_left
      · intro wq hSw; (try dsimp only at hSw); go_simp; (try with_reducible rfl)
      simp only [Act.put, List.getElem_toArray, List.getElem_cons_succ, List.getElem_cons_zero, List.setIfInBounds_toArray, List.set_cons_zero, List.set_cons_succ]
      refine wpAnyH_take (i := 13) (v := ?_) rfl (by kernel_rfl) (by kernel_rfl) (by kernel_rfl) (fun _ _ _ h => h) (Or.inl ⟨by rfl, ?_⟩) (by assumption) ?_
      rotate_left
      · intro wq hSw; (try dsimp only at hSw); go_simp; (try with_reducible rfl)
      simp only [Act.put, List.getElem_toArray, List.getElem_cons_succ, List.getElem_cons_zero, List.setIfInBounds_toArray, List.set_cons_zero, List.set_cons_succ]
      refine wpAnyH_take (i := 14) (v := ?_) rfl (by kernel_rfl) (by kernel_rfl) (by kernel_rfl) (fun _ _ _ h => h) (Or.inl ⟨by rfl, ?_⟩) (by assumption) ?_
      rotate_left
      · intro wq hSw; (try dsimp only at hSw); go_simp; (try with_reducible rfl)
      simp only [Act.put, List.getElem_toArray, List.getElem_cons_succ, List.getElem_cons_zero, List.setIfInBounds_toArray, List.set_cons_zero, List.set_cons_succ]
      refine wpAnyH_ready (rs := [9]) (by kernel_rfl) (by simp) ?_
      refine AllReadyH.cons rfl (fun K hK => ?_) AllReadyH.nil
      go_simp
      refine (put_holds x hx _).mono ?_
      rintro e w3 ⟨A3, c3, rfl, _, _, hr3, hb3⟩
      rw [HX.out]
      have cv3 := text_run A3 _ xl c3 _ _ HX.out hr3
      have hB3 : Below w.heap.size w w3 := hB2.trans ((undrew hb3).mono hB2.size)
      have cvb := HCV.out w3 hB3
      clear hr3 hHeld
      (try go_wp2_with fail)
      refine hK.out _ _ ?_ (fun hHeld => ?_)
      · exact ⟨hB3, cvb⟩
      clear hK K
      try simp only [Act.put, List.getElem_toArray, List.getElem_cons_succ, List.getElem_cons_zero, List.setIfInBounds_toArray, List.set_cons_zero, List.set_cons_succ]
      refine wpAnyH_ready (rs := [10]) (by kernel_rfl) (by simp) ?_
      refine AllReadyH.cons rfl (fun K hK => ?_) AllReadyH.nil
      go_simp
      clear hHeld
      (try go_wp2_with fail)
      refine hK.out _ _ ?_ (fun hHeld => ?_)
      · exact ⟨hB3, cvb⟩
      clear hK K
      try simp only [Act.put, List.getElem_toArray, List.getElem_cons_succ, List.getElem_cons_zero, List.setIfInBounds_toArray, List.set_cons_zero, List.set_cons_succ]
      refine wpAnyH_take (i := 15) (v := ?_) rfl (by kernel_rfl) (by kernel_rfl) (by kernel_rfl) (fun _ _ _ h => h) (Or.inl ⟨by rfl, ?_⟩) (by assumption) ?_
      rotate_left
      · intro wq hSw; (try dsimp only at hSw); go_simp; (try with_reducible rfl)
      simp only [Act.put, List.getElem_toArray, List.getElem_cons_succ, List.getElem_cons_zero, List.setIfInBounds_toArray, List.set_cons_zero, List.set_cons_succ]
      refine wpAnyH_take (i := 16) (v := ?_) rfl (by kernel_rfl) (by kernel_rfl) (by kernel_rfl) (fun _ _ _ h => h) (Or.inl ⟨by rfl, ?_⟩) (by assumption) ?_
      rotate_left
      · intro wq hSw; (try dsimp only at hSw); go_simp; (try with_reducible rfl)
      simp only [Act.put, List.getElem_toArray, List.getElem_cons_succ, List.getElem_cons_zero, List.setIfInBounds_toArray, List.set_cons_zero, List.set_cons_succ]
      refine wpAnyH_take (i := 17) (v := ?_) rfl (by kernel_rfl) (by kernel_rfl) (by kernel_rfl) (fun _ _ _ h => h) (Or.inl ⟨by rfl, ?_⟩) (by assumption) ?_
      rotate_left
      · intro wq hSw; (try dsimp only at hSw); go_simp; (try with_reducible rfl)
      simp only [Act.put, List.getElem_toArray, List.getElem_cons_succ, List.getElem_cons_zero, List.setIfInBounds_toArray, List.set_cons_zero, List.set_cons_succ]
      refine wpAnyH_done (by kernel_rfl) ?_ _
      clear hHeld
      all_goals
        go_wp2_with fail
        refine (put_holds n hn _).mono ?_
        rintro e w4 ⟨A4, c4, rfl, hc4, hm4, hr4, hb4⟩
        rw [HP.out] at hc4 ⊢
        have HR4 := Lib.hid hr4
        have hB4 : Below w.heap.size w w4 := hB3.trans (hb4.mono hB3.size)
        clear hr4
        go_wp2_with fail
        clear hb1 hb2 hb4 hB2 hB3 cv2 cv3 cvb hb3 d3 d4 s0 s1 hB2d
        go_loopw [9] (fun i wr => ∃ k : Nat, k ≤ pl ∧ i = .int .i64 (k : Int) ∧ Holds8 wr.heap.size wr A4 (put n) ∧ Below w.heap.size w wr) (fun i _ => pl - (intOf i).toNat)
        case atStart => exact ⟨0, Nat.zero_le _, rfl, HR4.out, hB4⟩
        case round =>
          obtain ⟨k, hk, rfl, hrk, hBk⟩ := hrel
          have HRK := Lib.hid hrk
          clear hrk
          by_cases hlt : k < pl
          · go_wp2_with fail
            refine (get_cut A4 n k pl c4 _ hn HP.out hlt hc4 hm4 HRK.out).mono ?_
            rintro e w5 ⟨rfl, hb5⟩
            go_wp2_with fail
            go_roundw
            case rel => exact ⟨k + 1, by omega, by go_num, HRK.out.later hb5, hBk.trans (hb5.mono hBk.size)⟩
            case measure => simp [intOf]; omega
          · go_wp2_with fail
            go_ret
            exact ⟨rfl, hBk⟩
    · have he' : ((e0 : Int) == 0) = false := by simp; exact he
      go_enter Try.func9, Try.ntmps9
      go_wp2_with fail
      refine (known_any _).mono ?_
      rintro e w1 ⟨rfl, hb1⟩
      go_wp2_with fail
      refine (HGET.out w1 hb1).mono ?_
      rintro e w2 ⟨rfl, hb2⟩
      dsimp only
      go_wp2_with fail
      go_region
      all_goals
        go_wp2_with fail
        refine (put_holds n hn _).mono ?_
        rintro e w4 ⟨A4, c4, rfl, hc4, hm4, hr4, hb4⟩
        rw [HP.out] at hc4 ⊢
        have HR4 := Lib.hid hr4
        have hB4 : Below w.heap.size w w4 := hb1.trans ((hb2.trans ((undrew hb4).mono hb2.size)).mono hb1.size)
        clear hr4
        go_wp2_with fail
        clear hb1 hb2 hb4
        go_loopw [9] (fun i wr => ∃ k : Nat, k ≤ pl ∧ i = .int .i64 (k : Int) ∧ Holds8 wr.heap.size wr A4 (put n) ∧ Below w.heap.size w wr) (fun i _ => pl - (intOf i).toNat)
        case atStart => exact ⟨0, Nat.zero_le _, rfl, HR4.out, hB4⟩
        case round =>
          obtain ⟨k, hk, rfl, hrk, hBk⟩ := hrel
          have HRK := Lib.hid hrk
          clear hrk
          by_cases hlt : k < pl
          · go_wp2_with fail
            refine (get_cut A4 n k pl c4 _ hn HP.out hlt hc4 hm4 HRK.out).mono ?_
            rintro e w5 ⟨rfl, hb5⟩
            go_wp2_with fail
            go_roundw
            case rel => exact ⟨k + 1, by omega, by go_num, HRK.out.later hb5, hBk.trans (hb5.mono hBk.size)⟩
            case measure => simp [intOf]; omega
          · go_wp2_with fail
            go_ret
            exact ⟨rfl, hBk⟩

namespace NumOne
set_option maxRecDepth 100000 in
theorem lifted (os : Os) (started : os.Started) (H : Type) (enc : TypeId × Value → H) :
    ReturnsInHanded {} Try.checked os 9 .any (Rows.numOneSpec.pre6 enc Try.prog Try.f9 Rows.numOneRow.domain false) (Rows.numOneSpec.post enc Try.prog Try.f9 false true false false) := by
  refine returnsInHanded_of_change (C := Try.checked) own started (by kernel_rfl) Try.func9
    (ChangeSpec.witness6 (enc := enc) (C := Try.checked) false ⟨#[], #[.slice none 0 0, .int .u64 0], []⟩ 8 (by kernel_rfl) (by kernel_rfl) (by kernel_rfl) (by kernel_rfl)) ?_
  intro W base args ds gs before hval0 hW _ _
  have hval : ∀ (j : Nat) t v, Try.f9.params[j]? = some t → args[j]? = some v → Value.okWide Try.prog W .any base t v := hval0
  have hW' := hW
  obtain ⟨p, q, hA0, hV, rfl, _, _⟩ := hW
  have hA : DataW.TrodAll enc Try.prog W 0 (fun _ => true) true Try.f9.params.toList args.toList ds p := hA0
  rw [Try.params9] at hA hval
  obtain ⟨v0, vs0, d0, ds0, p0, q0, hargs, rfl, rfl, h0, r0⟩ := trodAll_cons hA
  obtain ⟨v1, vs1, d1, ds1, p1, q1, rfl, rfl, rfl, h1, r1⟩ := trodAll_cons r0
  obtain ⟨rfl, rfl, rfl⟩ := trodAll_nil r1
  obtain rfl : args = #[v0, v1] := by cases args; simp_all
  obtain ⟨rfl, rfl⟩ := trodVars_none hV
  obtain ⟨A0, cs0, cap0, rfl, l0, m0, b0, again0⟩ := arg_bytes (hval 0 23 v0 rfl rfl) h0
  obtain ⟨a1, rfl, rfl, rfl, w1⟩ := open_int Try.underlying30 (hval 1 30 v1 rfl rfl) h1
  have k1 := wf_u64 w1
  obtain ⟨n1, rfl⟩ : ∃ n : Nat, a1 = n := ⟨a1.toNat, by omega⟩
  clear hA0 hval0
  simp only [List.append_nil] at hW'
  refine (one_walk A0 cs0 cap0 n1 W l0 m0 (by omega) b0).mono fun e W' ⟨he, hg⟩ => ?_
  subst he
  exact ⟨_, rfl, true_post hW' rfl (by kernel_rfl) Try.underlying4 rfl rfl (fun sp hsp => by have h := (trodAll_cons_mk (again0 W' sp hg (fun x hx => hsp x (by simp [hx]))) (trodAll_cons_mk (shut_int Try.underlying30 w1) trodAll_mk0)); simp only [List.append_nil] at h; exact h) hg⟩

/-- **NumOne, at every input.** -/
theorem proved : Rows.NumOneSaid :=
  OpenClaim.holds_of_wide 9 Try.f9 rfl rfl rfl rfl rfl rfl rfl ⟨rfl, rfl, rfl, rfl, rfl⟩ rfl rfl rfl rfl rfl (by kernel_rfl) Try.func9 (by kernel_rfl)
    (of_decide_eq_true (by kernel_rfl)) (by unfold Func.isWrapper; first | (rw [if_pos (by decide +kernel)]; kernel_rfl) | (rw [if_neg (by decide +kernel)]; exact ⟨rfl, rfl⟩))
    (fun os started H enc _ => lifted os started H enc)
end NumOne

end Go.Proofs.Ytmgjckgoiieppaa
