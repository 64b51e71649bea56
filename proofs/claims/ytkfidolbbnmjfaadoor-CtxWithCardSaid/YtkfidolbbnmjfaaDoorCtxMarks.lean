/-
  What (*reader).marks tells, whatever the text.
-/
import Derived.Test.YtkfidolbbnmjfaaDoorCtxMark
namespace Go.Proofs.YtkfidolbbnmjfaaDoor
open Go.RowKit Go.Shelf Go.Proofs.CtxState Go.Proofs.SeqOwn
attribute [local go_sem] Oper.semAt_some wide_depth wide_fn round_depth round_fn

def mkRow (m : Mk) : Array Value := #[.bool m.hasT, .int .u64 (m.t : Int), .bool m.hasR, .int .u64 (m.r : Int)]
def wrongV (m : Mk) (v : Int) : Value := .int .u16 (if m.wrong then 31 else v)
def badV (bad : Bool) (m : Mk) (v : Int) : Value := .int .u16 (if m.wrong || bad then 31 else v)

theorem key_ne {k l : List UInt8} (h : k ≠ l) : ((bs k).toList == l) = false := by
  rw [ByteArray.toList_eq, list_bs]
  simp [h]
theorem nm4 {B C N k : Nat} (hC : C = B + 6) (hk : k < B + 2) : ¬ Mine (boxes4 (B + 1 + 1)) C N k := by
  unfold Mine boxes4
  omega

set_option maxRecDepth 100000 in
set_option maxHeartbeats 4000000 in
theorem marks_any (x : ByteArray) (br : Nat) (v : Int) (w : World) (hs : x.size ≤ 9223372036854775806) (hB : Boxed w br 72 (.int .u16 v)) :
    Calls Tryd.prog 34 #[.pointer (some ⟨br, 0, none⟩), .string x] w fun e w' => e = .returned (.agg (mkRow (marks x.data.toList))) ∧ Boxed w' br 72 (wrongV (marks x.data.toList) v) ∧ Only (fun k => k = br) w w' := by
  refine (callsIn_wide (n := 9)).1 ?_
  obtain ⟨n, hn9⟩ : ∃ n, 9 = n := ⟨_, rfl⟩
  rw [hn9]
  clear hn9
  obtain ⟨P0, hP0⟩ : ∃ P0, pairs 58 (split 59 x.data.toList) = P0 := ⟨_, rfl⟩
  obtain ⟨M, hM⟩ : ∃ M, marks x.data.toList = M := ⟨_, rfl⟩
  have hM2 : M = (run P0.1).bent P0.2 := by rw [← hM, marks_eq, hP0]
  rw [hM]
  obtain ⟨told, htold⟩ : ∃ told, P0.1 = told := ⟨_, rfl⟩
  obtain ⟨bad, hbe⟩ : ∃ bad, (if P0.2 then some br else none) = bad := ⟨_, rfl⟩
  have HM := Lib.hid hM2
  have HP0 := Lib.hid hP0
  have HT := Lib.hid htold
  have HBE := Lib.hid hbe
  have HBx := Lib.hid hB
  clear hP0 htold hbe hM hM2 hB
  refine callsIn_of_wp_marks Tryd.func34 rfl trivial ?_ rfl
  simp only [Tryd.ntmps34, List.size_toArray, List.length_cons, List.length_nil, Nat.reduceAdd, Nat.reduceSub, Array.replicate_succ, Array.replicate_zero, List.push_toArray, List.append_toArray, List.nil_append, List.cons_append]
  gi_wp2_with (gi_at_call 47; refine (pairs_any _ _ _ _ _ _).mono ?_; rintro e w' ⟨rfl, rfl⟩)
  have hrl := HBx.out.lt
  obtain ⟨W0, hW0⟩ : ∃ W0, ((((((w.alloc (.cells #[.pointer (some ⟨br, 0, none⟩)] 99)).alloc (.cells #[.bool false, .int .u64 0, .bool false, .int .u64 0] 29)).alloc (.cells #[.pointer (some ⟨br, 0, none⟩)] 99)).alloc (.cells #[.string x] 9)).alloc (.cells #[.string ⟨#[59]⟩] 9)).alloc (.cells #[.string ⟨#[58]⟩] 9)) = W0 := ⟨_, rfl⟩
  have hS0 : W0.heap.size = w.heap.size + 6 := by rw [← hW0]; simp
  have hO0 : Only (fun _ => False) w W0 := by rw [← hW0]; exact (((((Only.refl _ w).alloc _).alloc _).alloc _).alloc _).alloc _ |>.alloc _
  have x0 : Boxed W0 w.heap.size 99 (.pointer (some ⟨br, 0, none⟩)) := by rw [← hW0]; exact (((((Boxed.new w _ _).alloc _).alloc _).alloc _).alloc _).alloc _
  have x1 : Blk W0 (w.heap.size + 1) #[.bool false, .int .u64 0, .bool false, .int .u64 0] 29 := by
    rw [← hW0]
    have := blk_new (w.alloc (.cells #[.pointer (some ⟨br, 0, none⟩)] 99)) #[.bool false, .int .u64 0, .bool false, .int .u64 0] 29
    rw [World.size_alloc] at this
    exact (((this.later (box_below _)).later (box_below _)).later (box_below _)).later (box_below _)
  have y0 : Boxed W0 (w.heap.size + 1 + 1) 99 (.pointer (some ⟨br, 0, none⟩)) := by
    rw [← hW0]
    have := Boxed.new ((w.alloc (.cells #[.pointer (some ⟨br, 0, none⟩)] 99)).alloc (.cells #[.bool false, .int .u64 0, .bool false, .int .u64 0] 29)) 99 (.pointer (some ⟨br, 0, none⟩))
    rw [World.size_alloc, World.size_alloc] at this
    exact ((this.alloc _).alloc _).alloc _
  have y1 : Boxed W0 (w.heap.size + 1 + 1 + 1) 9 (.string x) := by
    rw [← hW0]
    have := Boxed.new (((w.alloc (.cells #[.pointer (some ⟨br, 0, none⟩)] 99)).alloc (.cells #[.bool false, .int .u64 0, .bool false, .int .u64 0] 29)).alloc (.cells #[.pointer (some ⟨br, 0, none⟩)] 99)) 9 (.string x)
    rw [World.size_alloc, World.size_alloc, World.size_alloc] at this
    exact (this.alloc _).alloc _
  have y2 : Boxed W0 (w.heap.size + 1 + 1 + 1 + 1) 9 (.string ⟨#[59]⟩) := by
    rw [← hW0]
    have := Boxed.new ((((w.alloc (.cells #[.pointer (some ⟨br, 0, none⟩)] 99)).alloc (.cells #[.bool false, .int .u64 0, .bool false, .int .u64 0] 29)).alloc (.cells #[.pointer (some ⟨br, 0, none⟩)] 99)).alloc (.cells #[.string x] 9)) 9 (.string ⟨#[59]⟩)
    rw [World.size_alloc, World.size_alloc, World.size_alloc, World.size_alloc] at this
    exact this.alloc _
  have y3 : Boxed W0 (w.heap.size + 1 + 1 + 1 + 1 + 1) 9 (.string ⟨#[58]⟩) := by
    rw [← hW0]
    have := Boxed.new (((((w.alloc (.cells #[.pointer (some ⟨br, 0, none⟩)] 99)).alloc (.cells #[.bool false, .int .u64 0, .bool false, .int .u64 0] 29)).alloc (.cells #[.pointer (some ⟨br, 0, none⟩)] 99)).alloc (.cells #[.string x] 9)).alloc (.cells #[.string ⟨#[59]⟩] 9)) 9 (.string ⟨#[58]⟩)
    rw [World.size_alloc, World.size_alloc, World.size_alloc, World.size_alloc, World.size_alloc] at this
    exact this
  rw [hW0]
  clear hW0
  obtain ⟨I, hIe⟩ : ∃ I : Nat → List (List UInt8 × List UInt8) → World → Prop, I = fun _ pre W => Blk W (w.heap.size + 1) (mkRow (run pre)) 29 ∧ Boxed W br 72 (wrongV (run pre) v) ∧ Boxed W w.heap.size 99 (.pointer (some ⟨br, 0, none⟩)) ∧ Only (fun k => k = br) w W := ⟨_, rfl⟩
  obtain ⟨Ib, hIbe⟩ : ∃ Ib : Nat → World → Prop, Ib = fun _ W => Blk W (w.heap.size + 1) (mkRow (run told)) 29 ∧ Boxed W br 72 (.int .u16 31) ∧ Only (fun k => k = br) w W := ⟨_, rfl⟩
  have HI := Lib.hid hIe
  have HIb := Lib.hid hIbe
  clear hIe hIbe
  have hbb : ∀ b, bad = some b → b = br := fun b h => by rw [← HBE.out] at h; split at h; exact (Option.some.inj h).symm; cases h
  have HBB := Lib.hid hbb
  clear hbb
  obtain ⟨B0, hB0⟩ : ∃ B0, W0.heap.size = B0 := ⟨_, rfl⟩
  refine wpIn_range rfl (by simp [Fence.wide]) (gf := 68) (lb := #[.pointer (some ⟨w.heap.size + 1 + 1 + 1, 0, none⟩), .pointer (some ⟨w.heap.size + 1 + 1 + 1 + 1, 0, none⟩), .pointer (some ⟨w.heap.size + 1 + 1 + 1 + 1 + 1, 0, none⟩), .pointer (some ⟨w.heap.size + 1 + 1, 0, none⟩)]) rfl trivial (enters_of Tryd.func68 (by kernel_rfl) rfl)
    (encs := encs2) (T := boxes4 (w.heap.size + 1 + 1)) (xs := told) (bad := bad) (S := False) (by rw [hS0]; unfold boxes4; intro k hk; omega) (fun b h => by rw [HBB.out b h, hS0]; omega)
    (fun W1 hO => by
      have := pairs_tells x 59 58 (w.heap.size + 1 + 1) br W1 hs (n - 1) False (by omega) (hO.box y0 id) (hO.box y1 id) (hO.box y2 id) (hO.box y3 id)
      rw [HP0.out, HT.out, HBE.out] at this
      exact this) (fun _ => rfl)
    I (fun _ _ _ _ => False) Ib
    ?hI (fun _ _ _ _ _ _ _ h _ => h.elim) ?hIb ?hbad ?hrd ?h0
    (fun p => { tmps := #[.pointer (some ⟨br, 0, none⟩), .string x, .pointer (some ⟨w.heap.size, 0, none⟩), undef, .pointer (some ⟨w.heap.size + 1, 0, none⟩), .string (bs p.1), .string (bs p.2), .pointer (some ⟨br, 0, none⟩), .string x, .func (.func 68) #[] #[.pointer (some ⟨w.heap.size + 1 + 1 + 1, 0, none⟩), .pointer (some ⟨w.heap.size + 1 + 1 + 1 + 1, 0, none⟩), .pointer (some ⟨w.heap.size + 1 + 1 + 1 + 1 + 1, 0, none⟩), .pointer (some ⟨w.heap.size + 1 + 1, 0, none⟩)], .string (bs p.1), .string (bs p.2), undef, undef, undef, undef, undef, undef, undef, undef, undef, undef, undef, undef, undef, undef, undef, undef], defers := [] }) ?assign ?body ?done ?fail ?stop
  case hI =>
    rintro N pre A B hN hA h hO
    rw [HI.out] at h ⊢
    obtain ⟨h1, h2, h3, h4⟩ := h
    exact ⟨h1.same (hO.same _ h1.lt (nm4 hS0 (by omega))), hO.box h2 (nm4 hS0 (by omega)), hO.box h3 (nm4 hS0 (by omega)), h4.step hO (fun i hi h => (nm4 hS0 (by omega) h).elim)⟩
  case hIb =>
    rintro N A B hN hA h hO
    rw [HIb.out] at h ⊢
    obtain ⟨h1, h2, h4⟩ := h
    exact ⟨h1.same (hO.same _ h1.lt (nm4 hS0 (by omega))), hO.box h2 (nm4 hS0 (by omega)), h4.step hO (fun i hi h => (nm4 hS0 (by omega) h).elim)⟩
  case hbad =>
    rintro b hb N A hN hA h
    rw [HI.out] at h
    rw [HIb.out, HBB.out b hb]
    obtain ⟨h1, h2, h3, h4⟩ := h
    exact ⟨h1.same (Below.heap_setCell _ _ _ _ (by show w.heap.size + 1 ≠ br; omega)), h2.set _, h4.setCell _ (fun _ => rfl)⟩
  case hrd =>
    rintro b hb N pre A h
    rw [HI.out] at h
    rw [HBB.out b hb]
    exact ⟨_, _, h.2.1⟩
  case h0 =>
    rintro N W1 hO hN
    rw [HI.out]
    have hn : ∀ k, k < w.heap.size + 2 → ¬ boxes4 (w.heap.size + 1 + 1) k := fun k hk => by unfold boxes4; omega
    exact ⟨x1.same (hO.same _ x1.lt (hn _ (by omega))), hO.box (hO0.box HBx.out id) (hn _ (by omega)), hO.box x0 (hn _ (by omega)), (hO0.mono (fun _ _ h => h.elim)).step hO (fun i hi h => (hn i (by omega) h).elim)⟩
  case assign =>
    intro l2 x W K hK
    dsimp only [encs2]
    gi_wp2
    exact hK
  case body =>
    rintro l2 N pre ⟨k, u⟩ W hN hNW hp h
    rw [HI.out] at h
    obtain ⟨h1, h2, h3, h4⟩ := h
    have hl : u.length ≤ x.size := by rw [← HT.out, ← HP0.out] at hp; exact (told_lens hp).2
    have hun : (bs u).size ≤ 9223372036854775807 := by rw [size_bs]; omega
    have hnb : ¬ Mine (boxes4 (w.heap.size + 1 + 1)) W0.heap.size N br := nm4 hS0 (by omega)
    have hnm : ¬ Mine (boxes4 (w.heap.size + 1 + 1)) W0.heap.size N (w.heap.size + 1) := nm4 hS0 (by omega)
    rw [hB0] at hN hnb hnm ⊢
    have c3 := h3.cell
    have hse := run_snoc pre (k, u)
    obtain ⟨m, hm⟩ : ∃ m, run pre = m := ⟨_, rfl⟩
    rw [hm] at h1 h2 hse
    by_cases hk1 : k = [116, 104]
    · subst hk1
      obtain ⟨kb, hkb⟩ : ∃ kb, kb = bs [116, 104] := ⟨_, rfl⟩
      rw [← hkb]
      have hkb2 : kb = ⟨#[116, 104]⟩ := hkb
      clear hkb
      subst hkb2
      have HK := Lib.hid (mark_any (bs u) 1 br (w.heap.size + 1) 0 1 (if m.wrong then 31 else v) (m.t : Int) (mkRow m) m.hasT W hun h2 h1 rfl rfl (by decide))
      rw [list_bs] at HK
      have H1 := Lib.hid h1
      have H2 := Lib.hid h2
      have H4 := Lib.hid h4
      have H3 := Lib.hid h3
      have HS := Lib.hid hse
      clear h1 h2 h4 hse hp hl hun h3 hm hS0 hB0 x0 x1 y0 y1 y2 y3 hO0
      gi_wp2
      refine (CallsIn.inRound l2 (callsIn_wide.2 HK.out)).mono ?_
      rintro e W2 ⟨⟨rv, rfl⟩, hres⟩
      have HR := Lib.hid hres
      clear hres
      gi_wp2
      rcases HR.out with ⟨hT, nn, hpart, hblk, hO⟩ | ⟨hno, hbox, hO⟩
      · refine ⟨hO.mono (fun _ _ e => e ▸ hnm), ?_⟩
        rw [HI.out]
        have hs := HS.out
        rw [step_th hT hpart] at hs
        simp only [hs]
        refine ⟨?_, hO.box H2.out (by omega), hO.box H3.out (by omega), H4.out.step hO (fun i hi e => by omega)⟩
        have hb : mkRow { m with hasT := true, t := nn } = ((mkRow m).setIfInBounds 0 (.bool true)).setIfInBounds 1 (.int .u64 (nn : Int)) := by cases m; rfl
        rw [hb]
        exact hblk
      · refine ⟨hO.mono (fun _ _ e => e ▸ hnb), ?_⟩
        rw [HI.out]
        have hs := HS.out
        rw [step_th_no hno] at hs
        simp only [hs]
        exact ⟨H1.out.same (hO.same _ H1.out.lt (by omega)), hbox, hO.box H3.out (by omega), H4.out.trans hO⟩
    · by_cases hk1b : k = [114, 118]
      · have hk1 := hk1b
        clear hk1b
        subst hk1
        obtain ⟨kb, hkb⟩ : ∃ kb, kb = bs [114, 118] := ⟨_, rfl⟩
        rw [← hkb]
        have hkb2 : kb = ⟨#[114, 118]⟩ := hkb
        clear hkb
        subst hkb2
        have HK := Lib.hid (mark_any (bs u) 14 br (w.heap.size + 1) 2 3 (if m.wrong then 31 else v) (m.r : Int) (mkRow m) m.hasR W hun h2 h1 rfl rfl (by decide))
        rw [list_bs] at HK
        have H1 := Lib.hid h1
        have H2 := Lib.hid h2
        have H4 := Lib.hid h4
        have H3 := Lib.hid h3
        have HS := Lib.hid hse
        clear h1 h2 h4 hse hp hl hun h3 hm hS0 hB0 x0 x1 y0 y1 y2 y3 hO0
        gi_wp2
        refine (CallsIn.inRound l2 (callsIn_wide.2 HK.out)).mono ?_
        rintro e W2 ⟨⟨rv, rfl⟩, hres⟩
        have HR := Lib.hid hres
        clear hres
        gi_wp2
        rcases HR.out with ⟨hT, nn, hpart, hblk, hO⟩ | ⟨hno, hbox, hO⟩
        · refine ⟨hO.mono (fun _ _ e => e ▸ hnm), ?_⟩
          rw [HI.out]
          have hs := HS.out
          rw [step_rv hT hpart] at hs
          simp only [hs]
          refine ⟨?_, hO.box H2.out (by omega), hO.box H3.out (by omega), H4.out.step hO (fun i hi e => by omega)⟩
          have hb : mkRow { m with hasR := true, r := nn } = ((mkRow m).setIfInBounds 2 (.bool true)).setIfInBounds 3 (.int .u64 (nn : Int)) := by cases m; rfl
          rw [hb]
          exact hblk
        · refine ⟨hO.mono (fun _ _ e => e ▸ hnb), ?_⟩
          rw [HI.out]
          have hs := HS.out
          rw [step_rv_no hno] at hs
          simp only [hs]
          exact ⟨H1.out.same (hO.same _ H1.out.lt (by omega)), hbox, hO.box H3.out (by omega), H4.out.trans hO⟩
      · have hs := hse
        rw [step_other hk1 hk1b] at hs
        have n1 := key_ne hk1
        have n2 := key_ne hk1b
        obtain ⟨kb, hkb⟩ : ∃ kb, bs k = kb := ⟨_, rfl⟩
        rw [hkb] at n1 n2 ⊢
        have H1 := Lib.hid h1
        have H2 := Lib.hid h2
        have H4 := Lib.hid h4
        have H3 := Lib.hid h3
        have HS := Lib.hid hs
        clear h1 h2 h4 hse hs hp hl hun h3 hm hS0 hB0 x0 x1 y0 y1 y2 y3 hO0 hk1 hk1b hkb
        gi_wp2
        refine ⟨Only.refl _ _, ?_⟩
        rw [HI.out]
        simp only [HS.out]
        exact ⟨H1.out, H2.out, H3.out, H4.out⟩
  case done =>
    rintro N W hbn hN hNW h hK
    rw [HI.out] at h
    obtain ⟨h1, h2, h3, h4⟩ := h
    have hb0 : P0.2 = false := by
      rw [← HBE.out] at hbn
      cases h : P0.2
      · rfl
      · rw [h] at hbn; cases hbn
    have hm : M = run told := by rw [HM.out, hb0, HT.out]; simp [Mk.bent]
    rw [← hm] at h1 h2
    clear h3
    have HN0 := Lib.hid h4
    have HB2 := Lib.hid h2
    have H1 := Lib.hid h1
    have hb1 : B0 ≠ w.heap.size + 1 := by omega
    have hb2 : B0 ≠ br := by omega
    have hb3 : br ≠ w.heap.size + 1 := by omega
    have hb4 : w.heap.size ≤ B0 := by omega
    rw [hB0] at hK ⊢
    clear hS0 hB0 x0 x1 y0 y1 y2 y3 hO0 h1 h2 h4 hm hb0
    obtain ⟨a0, a1, a2, a3, a4⟩ := M
    have c0 : W.cell? ⟨w.heap.size + 1, 0, none⟩ = some (.bool a0) := H1.out.cell 0 rfl
    have c1 : W.cell? ⟨w.heap.size + 1, 1, none⟩ = some (.int .u64 (a1 : Int)) := H1.out.cell 1 rfl
    have c2 : W.cell? ⟨w.heap.size + 1, 2, none⟩ = some (.bool a2) := H1.out.cell 2 rfl
    have c3 : W.cell? ⟨w.heap.size + 1, 3, none⟩ = some (.int .u64 (a3 : Int)) := H1.out.cell 3 rfl
    have f0 := H1.out.free 0
    have f1 := H1.out.free 1
    have f2 := H1.out.free 2
    have f3 := H1.out.free 3
    gi_wp2
    have hq := ((((H1.out.set 0 (.bool a0)).set 1 (.int .u64 (a1 : Int))).set 2 (.bool a2)).set 3 (.int .u64 (a3 : Int)))
    have hO5 := ((((Only.set (fun k => k = w.heap.size + 1) W ⟨w.heap.size + 1, 0, none⟩ (.bool a0) rfl).trans (Only.set _ _ ⟨w.heap.size + 1, 1, none⟩ (.int .u64 (a1 : Int)) rfl)).trans (Only.set _ _ ⟨w.heap.size + 1, 2, none⟩ (.bool a2) rfl)).trans (Only.set _ _ ⟨w.heap.size + 1, 3, none⟩ (.int .u64 (a3 : Int)) rfl))
    revert hq hO5
    generalize ((((W.setCell ⟨w.heap.size + 1, 0, none⟩ (.bool a0)).setCell ⟨w.heap.size + 1, 1, none⟩ (.int .u64 (a1 : Int))).setCell ⟨w.heap.size + 1, 2, none⟩ (.bool a2)).setCell ⟨w.heap.size + 1, 3, none⟩ (.int .u64 (a3 : Int))) = W5
    intro hq hO5
    have hK5 := hO5.at' hK hb1
    have hO6 := Only.put (fun k => k = B0) W5 B0 (.deferred none) rfl
    have hq6 : Blk (W5.putObj B0 (.deferred none)) (w.heap.size + 1) #[.bool a0, .int .u64 (a1 : Int), .bool a2, .int .u64 (a3 : Int)] 29 := hq.same (hO6.same _ hq.lt hb1.symm)
    have r0 := hq6.cell 0 rfl
    have r1 := hq6.cell 1 rfl
    have r2 := hq6.cell 2 rfl
    have r3 := hq6.cell 3 rfl
    refine ⟨by simp, .inl ⟨_, _, rfl, run_takeDeferred hK5, ?_⟩⟩
    refine ⟨.agg #[.bool a0, .int .u64 (a1 : Int), .bool a2, .int .u64 (a3 : Int)], by simp [results, Tryd.results34, go_sem, r0, r1, r2, r3], rfl, ?_, ?_⟩
    · exact hO6.box (hO5.box HB2.out hb3) hb2.symm
    · exact (HN0.out.step hO5 (fun i hi e => by omega)).step hO6 (fun i hi e => by omega)
  case fail =>
    rintro N W hbn hN hNW h hK
    rw [HIb.out] at h
    obtain ⟨h1, h2, h4⟩ := h
    have hb0 : P0.2 = true := by
      rw [← HBE.out] at hbn
      cases h : P0.2
      · rw [h] at hbn; exact absurd rfl hbn
      · rfl
    have hm : M = (run told).bent true := by rw [HM.out, hb0, HT.out]
    have e1 : mkRow (run told) = mkRow M := by rw [hm]; rfl
    have e2 : (.int .u16 31 : Value) = wrongV M v := by rw [hm]; simp [wrongV, Mk.bent]
    rw [e1] at h1
    rw [e2] at h2
    clear e1 e2
    have HN0 := Lib.hid h4
    have HB2 := Lib.hid h2
    have H1 := Lib.hid h1
    have hb1 : B0 ≠ w.heap.size + 1 := by omega
    have hb2 : B0 ≠ br := by omega
    have hb3 : br ≠ w.heap.size + 1 := by omega
    have hb4 : w.heap.size ≤ B0 := by omega
    rw [hB0] at hK ⊢
    clear hS0 hB0 x0 x1 y0 y1 y2 y3 hO0 h1 h2 h4 hm hb0
    obtain ⟨a0, a1, a2, a3, a4⟩ := M
    have c0 : W.cell? ⟨w.heap.size + 1, 0, none⟩ = some (.bool a0) := H1.out.cell 0 rfl
    have c1 : W.cell? ⟨w.heap.size + 1, 1, none⟩ = some (.int .u64 (a1 : Int)) := H1.out.cell 1 rfl
    have c2 : W.cell? ⟨w.heap.size + 1, 2, none⟩ = some (.bool a2) := H1.out.cell 2 rfl
    have c3 : W.cell? ⟨w.heap.size + 1, 3, none⟩ = some (.int .u64 (a3 : Int)) := H1.out.cell 3 rfl
    have f0 := H1.out.free 0
    have f1 := H1.out.free 1
    have f2 := H1.out.free 2
    have f3 := H1.out.free 3
    gi_wp2
    have hq := ((((H1.out.set 0 (.bool a0)).set 1 (.int .u64 (a1 : Int))).set 2 (.bool a2)).set 3 (.int .u64 (a3 : Int)))
    have hO5 := ((((Only.set (fun k => k = w.heap.size + 1) W ⟨w.heap.size + 1, 0, none⟩ (.bool a0) rfl).trans (Only.set _ _ ⟨w.heap.size + 1, 1, none⟩ (.int .u64 (a1 : Int)) rfl)).trans (Only.set _ _ ⟨w.heap.size + 1, 2, none⟩ (.bool a2) rfl)).trans (Only.set _ _ ⟨w.heap.size + 1, 3, none⟩ (.int .u64 (a3 : Int)) rfl))
    revert hq hO5
    generalize ((((W.setCell ⟨w.heap.size + 1, 0, none⟩ (.bool a0)).setCell ⟨w.heap.size + 1, 1, none⟩ (.int .u64 (a1 : Int))).setCell ⟨w.heap.size + 1, 2, none⟩ (.bool a2)).setCell ⟨w.heap.size + 1, 3, none⟩ (.int .u64 (a3 : Int))) = W5
    intro hq hO5
    have hK5 := hO5.at' hK hb1
    have hO6 := Only.put (fun k => k = B0) W5 B0 (.deferred none) rfl
    have hq6 : Blk (W5.putObj B0 (.deferred none)) (w.heap.size + 1) #[.bool a0, .int .u64 (a1 : Int), .bool a2, .int .u64 (a3 : Int)] 29 := hq.same (hO6.same _ hq.lt hb1.symm)
    have r0 := hq6.cell 0 rfl
    have r1 := hq6.cell 1 rfl
    have r2 := hq6.cell 2 rfl
    have r3 := hq6.cell 3 rfl
    refine ⟨by simp, .inl ⟨_, _, rfl, run_takeDeferred hK5, ?_⟩⟩
    refine ⟨.agg #[.bool a0, .int .u64 (a1 : Int), .bool a2, .int .u64 (a3 : Int)], by simp [results, Tryd.results34, go_sem, r0, r1, r2, r3], rfl, ?_, ?_⟩
    · exact hO6.box (hO5.box HB2.out hb3) hb2.symm
    · exact (HN0.out.step hO5 (fun i hi e => by omega)).step hO6 (fun i hi e => by omega)
  case stop =>
    rintro _ _ _ _ h
    exact h.elim
end Go.Proofs.YtkfidolbbnmjfaaDoor
