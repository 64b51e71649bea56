/-
  What ctx.readState tells, whatever the text.
-/
import Derived.Maps.AppendAt
import Derived.Test.YtkfidolbbnmjfaaDoorCtxMarks
import Derived.Test.YtkfidolbbnmjfaaDoorCtxMembers
namespace Go.Proofs.YtkfidolbbnmjfaaDoor
open Go.RowKit Go.Shelf Go.Proofs.CtxState Go.Proofs.SeqOwn
attribute [local go_sem] Oper.semAt_some wide_depth wide_fn round_depth round_fn

def strV (l : List UInt8) : Value := .string (bs l)
theorem infoStr : (Tryd.prog.info? 9).map (fun i => (i.zero, i.size, i.bytes)) = some (some (.string ⟨#[]⟩), 1, 16) := by kernel_rfl
theorem nm5 {B C N k : Nat} (hC : C = B + 5) (hk : k < B + 3) : ¬ Mine (boxes2 (B + 1 + 1 + 1)) C N k := by
  unfold Mine boxes2
  omega
theorem nmN {B C N k : Nat} (hC : C = B + 5) (hN : C ≤ N) (hk : N ≤ k) : ¬ Mine (boxes2 (B + 1 + 1 + 1)) C N k := by
  unfold Mine boxes2
  omega
theorem le_alloc {N : Nat} {W : World} (o : Obj) (h : N ≤ W.heap.size) : N ≤ (W.alloc o).heap.size := by simp; omega
theorem lenOk {n : Nat} (h : n ≤ 513) : n + 1 ≤ maxLen ∧ (n + 1) * 16 ≤ 140737488355328 := by
  have : (514 : Nat) ≤ maxLen := by decide
  omega
theorem addOk {k v : List UInt8} (h : k.length ≤ 512 ∧ v.length ≤ 512) : ¬ 9223372036854775807 < (bs k).size + 1 ∧ ¬ 9223372036854775807 < (bs k ++ (⟨#[61]⟩ : ByteArray)).size + (bs v).size := by
  have e : (bs k ++ (⟨#[61]⟩ : ByteArray)) = bs (k ++ [61]) := by rw [← bs_list (bs k ++ (⟨#[61]⟩ : ByteArray))]; congr 1
  rw [e, size_bs, size_bs, size_bs, List.length_append, List.length_singleton]
  omega
theorem addStr (a b : List UInt8) : bs a ++ bs b = bs (a ++ b) := by
  rw [← bs_list (bs a ++ bs b)]; congr 1

theorem slice_of {W : World} {base e size n : Nat} {v : Value} {xs : List Value} (h : W.ownsRow base e size v n xs) : v = .slice none 0 0 ∨ ∃ g cap k, v = .slice (some ⟨g, 0, none⟩) k cap := by
  rcases h.2 with ⟨h, _⟩ | ⟨g, cap, cur, h, _⟩
  · exact .inl h
  · exact .inr ⟨g, cap, n, h⟩
theorem close_state {W w : World} {B0 : Nat} {c0 c1 c2 c3 sl : Value} (v0 v1 v2 v3 slv : Value) (h1 : Blk W w.heap.size #[c0, c1, c2, c3] 29) (h2 : Boxed W (w.heap.size + 1) 53 sl)
    (hK : W.heap[B0]? = some (.deferred (some []))) (hb : w.heap.size + 2 ≤ B0) (h5 : Below w.heap.size w W) :
    ((((((W.setCell ⟨w.heap.size, 0, none⟩ v0).setCell ⟨w.heap.size, 1, none⟩ v1).setCell ⟨w.heap.size, 2, none⟩ v2).setCell ⟨w.heap.size, 3, none⟩ v3).setCell ⟨w.heap.size + 1, 0, none⟩ slv).drew).heap[B0]? = some (.deferred (some [])) ∧ (((((((W.setCell ⟨w.heap.size, 0, none⟩ v0).setCell ⟨w.heap.size, 1, none⟩ v1).setCell ⟨w.heap.size, 2, none⟩ v2).setCell ⟨w.heap.size, 3, none⟩ v3).setCell ⟨w.heap.size + 1, 0, none⟩ slv).drew).putObj B0 (.deferred none)).cell? ⟨w.heap.size, 0, none⟩ = some v0 ∧ (((((((W.setCell ⟨w.heap.size, 0, none⟩ v0).setCell ⟨w.heap.size, 1, none⟩ v1).setCell ⟨w.heap.size, 2, none⟩ v2).setCell ⟨w.heap.size, 3, none⟩ v3).setCell ⟨w.heap.size + 1, 0, none⟩ slv).drew).putObj B0 (.deferred none)).cell? ⟨w.heap.size, 1, none⟩ = some v1 ∧ (((((((W.setCell ⟨w.heap.size, 0, none⟩ v0).setCell ⟨w.heap.size, 1, none⟩ v1).setCell ⟨w.heap.size, 2, none⟩ v2).setCell ⟨w.heap.size, 3, none⟩ v3).setCell ⟨w.heap.size + 1, 0, none⟩ slv).drew).putObj B0 (.deferred none)).cell? ⟨w.heap.size, 2, none⟩ = some v2 ∧ (((((((W.setCell ⟨w.heap.size, 0, none⟩ v0).setCell ⟨w.heap.size, 1, none⟩ v1).setCell ⟨w.heap.size, 2, none⟩ v2).setCell ⟨w.heap.size, 3, none⟩ v3).setCell ⟨w.heap.size + 1, 0, none⟩ slv).drew).putObj B0 (.deferred none)).cell? ⟨w.heap.size, 3, none⟩ = some v3 ∧
    (((((((W.setCell ⟨w.heap.size, 0, none⟩ v0).setCell ⟨w.heap.size, 1, none⟩ v1).setCell ⟨w.heap.size, 2, none⟩ v2).setCell ⟨w.heap.size, 3, none⟩ v3).setCell ⟨w.heap.size + 1, 0, none⟩ slv).drew).putObj B0 (.deferred none)).cell? ⟨w.heap.size + 1, 0, none⟩ = some slv ∧ Below w.heap.size w (((((((W.setCell ⟨w.heap.size, 0, none⟩ v0).setCell ⟨w.heap.size, 1, none⟩ v1).setCell ⟨w.heap.size, 2, none⟩ v2).setCell ⟨w.heap.size, 3, none⟩ v3).setCell ⟨w.heap.size + 1, 0, none⟩ slv).drew).putObj B0 (.deferred none)) ∧
    ∀ N sl2 k xs, B0 < N → W.ownsRow N 9 1 sl2 k xs → (((((((W.setCell ⟨w.heap.size, 0, none⟩ v0).setCell ⟨w.heap.size, 1, none⟩ v1).setCell ⟨w.heap.size, 2, none⟩ v2).setCell ⟨w.heap.size, 3, none⟩ v3).setCell ⟨w.heap.size + 1, 0, none⟩ slv).drew).putObj B0 (.deferred none)).ownsRow w.heap.size 9 1 sl2 k xs := by
  have hq := ((((h1.set 0 v0).set 1 v1).set 2 v2).set 3 v3)
  have hO5 := ((((Only.set (fun k => k = w.heap.size) W ⟨w.heap.size, 0, none⟩ v0 rfl).trans (Only.set _ _ ⟨w.heap.size, 1, none⟩ v1 rfl)).trans (Only.set _ _ ⟨w.heap.size, 2, none⟩ v2 rfl)).trans (Only.set _ _ ⟨w.heap.size, 3, none⟩ v3 rfl))
  revert hq hO5
  generalize ((((W.setCell ⟨w.heap.size, 0, none⟩ v0).setCell ⟨w.heap.size, 1, none⟩ v1).setCell ⟨w.heap.size, 2, none⟩ v2).setCell ⟨w.heap.size, 3, none⟩ v3) = W5
  intro hq hO5
  have hO6 := (Only.set (fun k => k = w.heap.size + 1) W5 ⟨w.heap.size + 1, 0, none⟩ slv rfl).drew
  have hx := (hO5.box h2 (by omega)).set slv
  have hO7 := Only.put (fun k => k = B0) (W5.setCell ⟨w.heap.size + 1, 0, none⟩ slv).drew B0 (.deferred none) rfl
  have hq7 := (hq.same (hO6.same _ hq.lt (by omega))).same (hO7.same _ (Nat.lt_of_lt_of_le hq.lt hO6.size) (by omega))
  have hx7 := hO7.box (k := w.heap.size + 1) (show Boxed (W5.setCell ⟨w.heap.size + 1, 0, none⟩ slv).drew _ _ _ from hx) (by omega)
  have s1 := h5.size
  have s2 := hO5.size
  have s3 := hO6.size
  refine ⟨hO6.at' (hO5.at' hK (by omega)) (by omega), hq7.cell 0 rfl, hq7.cell 1 rfl, hq7.cell 2 rfl, hq7.cell 3 rfl, hx7.cell, ((h5.trans (hO5.below (by omega) (fun i hi e => by omega))).trans (hO6.below (by omega) (fun i hi e => by omega))).trans (hO7.below (by omega) (fun i hi e => by omega)), fun N sl2 k xs hN hr => ?_⟩
  obtain ⟨g1, g2⟩ := hO7.row (hO6.row (hO5.row hr (fun i hi e => by omega)) (fun i hi e => by omega)) (fun i hi e => by omega)
  refine ⟨g1, ?_⟩
  rcases g2 with g2 | ⟨g, cap, cur, e1, e2, e3⟩
  · exact .inl g2
  · exact .inr ⟨g, cap, cur, e1, by omega, e3⟩

set_option maxRecDepth 100000 in
set_option maxHeartbeats 4000000 in
theorem readState_any (s : ByteArray) (w : World) :
    Calls Tryd.prog 22 #[.string s] w fun e w' => Below w.heap.size w w' ∧
      ∃ sl, e = .returned (.tuple #[.agg (mkRow (readSt s.data.toList).2.1), sl, .int .u16 ((readSt s.data.toList).1 : Int)]) ∧ w'.ownsRow w.heap.size 9 1 sl (readSt s.data.toList).2.2.length ((readSt s.data.toList).2.2.map strV) := by
  refine (callsIn_wide (n := 777)).1 ?_
  obtain ⟨n, hn9⟩ : ∃ n, 777 = n := ⟨_, rfl⟩
  rw [hn9]
  clear hn9
  obtain ⟨R, hR⟩ : ∃ R, readSt s.data.toList = R := ⟨_, rfl⟩
  rw [hR]
  have HR := Lib.hid hR
  clear hR
  have hIL := fun W => isLong_any s W
  cases hlong : tooLong s.data.toList with
  | true =>
    rw [hlong] at hIL
    have hr : R = (3, CtxState.start, []) := by rw [← HR.out]; unfold readSt; rw [hlong]; rfl
    subst hr
    have HIL := Lib.hid hIL
    clear hIL hlong HR
    refine callsIn_of_wp Tryd.func22 rfl trivial ?_ rfl
    simp only [Tryd.ntmps22, List.size_toArray, List.length_cons, List.length_nil, Nat.reduceAdd, Nat.reduceSub, Array.replicate_succ, Array.replicate_zero, List.push_toArray, List.append_toArray, List.nil_append, List.cons_append]
    gi_wp2_with (gi_at_call 26; refine (callsIn_wide.2 (HIL.out _)).mono ?_; rintro e w' ⟨rfl, rfl⟩)
    have hb0 := ((Below.refl w.heap.size w).alloc (Nat.le_refl _) (.cells #[.bool false, .int .u64 0, .bool false, .int .u64 0] 29)).alloc (by simp) (.cells #[.slice none 0 0] 53)
    have k0 := blk_new w #[.bool false, .int .u64 0, .bool false, .int .u64 0] 29 |>.later (box_below (.cells #[.slice none 0 0] 53))
    have k1 := blk_new (w.alloc (.cells #[.bool false, .int .u64 0, .bool false, .int .u64 0] 29)) #[.slice none 0 0] 53
    rw [World.size_alloc] at k1
    have r0 := k0.cell 0 rfl
    have r1 := k0.cell 1 rfl
    have r2 := k0.cell 2 rfl
    have r3 := k0.cell 3 rfl
    have r4 := k1.cell 0 rfl
    exact bodyPost_ret (v := .tuple #[.agg #[.bool false, .int .u64 0, .bool false, .int .u64 0], .slice none 0 0, .int .u16 3]) (by simp [results, Tryd.results22, go_sem, r0, r1, r2, r3, r4]) rfl ⟨hb0, _, rfl, World.ownsRow_nil _ _ _ _⟩
  | false =>
    have hlen : s.size ≤ 512 := by
      unfold tooLong at hlong
      simp only [Bool.or_eq_false_iff, decide_eq_false_iff_not] at hlong
      have := hlong.1
      have h2 : s.data.toList.length = s.size := by simp
      omega
    rw [hlong] at hIL
    obtain ⟨Q, hQ⟩ : ∃ Q, members s.data.toList = Q := ⟨_, rfl⟩
    have hr : R = if (foldS Q.1).m.wrong || Q.2 then (31, CtxState.start, []) else (0, (foldS Q.1).m, (foldS Q.1).oth) := by rw [← HR.out]; unfold readSt; rw [hlong, hQ]; rfl
    obtain ⟨told, htold⟩ : ∃ told, Q.1 = told := ⟨_, rfl⟩
    obtain ⟨bad, hbe⟩ : ∃ bad, (if Q.2 then some (w.heap.size + 1 + 1) else none) = bad := ⟨_, rfl⟩
    rw [htold] at hr
    have hcnt : told.length ≤ 513 := by
      have := members_count s.data.toList
      have h2 : s.data.toList.length = s.size := by simp
      rw [hQ, htold, h2] at this
      omega
    have HIL := Lib.hid hIL
    have HQ := Lib.hid hQ
    have HT := Lib.hid htold
    have HBE := Lib.hid hbe
    have HRR := Lib.hid hr
    clear hIL hlong HR hQ htold hbe hr
    obtain ⟨i0, hi, hz0, hz1_, hz2⟩ := info_parts infoStr
    refine callsIn_of_wp_marks Tryd.func22 rfl trivial ?_ rfl
    simp only [Tryd.ntmps22, List.size_toArray, List.length_cons, List.length_nil, Nat.reduceAdd, Nat.reduceSub, Array.replicate_succ, Array.replicate_zero, List.push_toArray, List.append_toArray, List.nil_append, List.cons_append]
    gi_wp2_with (first | (gi_at_call 26; refine (callsIn_wide.2 (HIL.out _)).mono ?_; rintro e w' ⟨rfl, rfl⟩) | (gi_at_call 33; refine (members_any _ _ _ _).mono ?_; rintro e w' ⟨rfl, rfl⟩))
    obtain ⟨W0, hW0⟩ : ∃ W0, (((((w.alloc (.cells #[.bool false, .int .u64 0, .bool false, .int .u64 0] 29)).alloc (.cells #[.slice none 0 0] 53)).alloc (.cells #[.int .u16 0] 72)).alloc (.cells #[.pointer (some ⟨w.heap.size + 1 + 1, 0, none⟩)] 99)).alloc (.cells #[.string s] 9)) = W0 := ⟨_, rfl⟩
    have hS0 : W0.heap.size = w.heap.size + 5 := by rw [← hW0]; simp
    have hO0 : Only (fun _ => False) w W0 := by rw [← hW0]; exact (((((Only.refl _ w).alloc _).alloc _).alloc _).alloc _).alloc _
    have x0 : Blk W0 (w.heap.size) #[.bool false, .int .u64 0, .bool false, .int .u64 0] 29 := by
      rw [← hW0]
      have := blk_new w #[.bool false, .int .u64 0, .bool false, .int .u64 0] 29
      exact ((((this.later (box_below _)).later (box_below _)).later (box_below _)).later (box_below _))
    have x1 : Boxed W0 (w.heap.size + 1) 53 (.slice none 0 0) := by
      rw [← hW0]
      have := Boxed.new (w.alloc (.cells #[.bool false, .int .u64 0, .bool false, .int .u64 0] 29)) 53 (.slice none 0 0)
      rw [World.size_alloc] at this
      exact (((this.alloc _).alloc _).alloc _)
    have x2 : Boxed W0 (w.heap.size + 1 + 1) 72 (.int .u16 0) := by
      rw [← hW0]
      have := Boxed.new ((w.alloc (.cells #[.bool false, .int .u64 0, .bool false, .int .u64 0] 29)).alloc (.cells #[.slice none 0 0] 53)) 72 (.int .u16 0)
      rw [World.size_alloc, World.size_alloc] at this
      exact ((this.alloc _).alloc _)
    have y0 : Boxed W0 (w.heap.size + 1 + 1 + 1) 99 (.pointer (some ⟨w.heap.size + 1 + 1, 0, none⟩)) := by
      rw [← hW0]
      have := Boxed.new (((w.alloc (.cells #[.bool false, .int .u64 0, .bool false, .int .u64 0] 29)).alloc (.cells #[.slice none 0 0] 53)).alloc (.cells #[.int .u16 0] 72)) 99 (.pointer (some ⟨w.heap.size + 1 + 1, 0, none⟩))
      rw [World.size_alloc, World.size_alloc, World.size_alloc] at this
      exact (this.alloc _)
    have y1 : Boxed W0 (w.heap.size + 1 + 1 + 1 + 1) 9 (.string s) := by
      rw [← hW0]
      have := Boxed.new ((((w.alloc (.cells #[.bool false, .int .u64 0, .bool false, .int .u64 0] 29)).alloc (.cells #[.slice none 0 0] 53)).alloc (.cells #[.int .u16 0] 72)).alloc (.cells #[.pointer (some ⟨w.heap.size + 1 + 1, 0, none⟩)] 99)) 9 (.string s)
      rw [World.size_alloc, World.size_alloc, World.size_alloc, World.size_alloc] at this
      exact this
    rw [hW0]
    clear hW0
    obtain ⟨I, hIe⟩ : ∃ I : Nat → List (List UInt8 × List UInt8) → World → Prop, I = fun N pre W => Blk W w.heap.size (mkRow (foldS pre).m) 29 ∧ (∃ sl, Boxed W (w.heap.size + 1) 53 sl ∧ W.ownsRow N 9 1 sl (foldS pre).oth.length ((foldS pre).oth.map strV)) ∧ Boxed W (w.heap.size + 1 + 1) 72 (wrongV (foldS pre).m 0) ∧ Below w.heap.size w W := ⟨_, rfl⟩
    obtain ⟨Ib, hIbe⟩ : ∃ Ib : Nat → World → Prop, Ib = fun _ W => (∃ C, Blk W w.heap.size (mkRow C) 29) ∧ (∃ sl, Boxed W (w.heap.size + 1) 53 sl) ∧ Boxed W (w.heap.size + 1 + 1) 72 (.int .u16 31) ∧ Below w.heap.size w W := ⟨_, rfl⟩
    have HI := Lib.hid hIe
    have HIb := Lib.hid hIbe
    clear hIe hIbe
    have HBB : Hid (∀ x, bad = some x → x = w.heap.size + 1 + 1) := Lib.hid (fun x h => by rw [← HBE.out] at h; split at h; exact (Option.some.inj h).symm; cases h)
    obtain ⟨B0, hB0⟩ : ∃ B0, W0.heap.size = B0 := ⟨_, rfl⟩
    refine wpIn_range rfl (by simp [Fence.wide]) (gf := 46) (lb := #[.pointer (some ⟨w.heap.size + 1 + 1 + 1 + 1, 0, none⟩), .pointer (some ⟨w.heap.size + 1 + 1 + 1, 0, none⟩)]) rfl trivial (enters_of Tryd.func46 (by kernel_rfl) rfl)
      (encs := encs2) (T := boxes2 (w.heap.size + 1 + 1 + 1)) (xs := told) (bad := bad) (S := False) (by rw [hS0]; unfold boxes2; intro k hk; omega) (fun x h => by rw [HBB.out x h, hS0]; omega)
      (fun W1 hO => by
        have := members_tells s (w.heap.size + 1 + 1 + 1) (w.heap.size + 1 + 1) W1 hlen (n - 1) (by omega) (hO.box y0 id) (hO.box y1 id)
        rw [HQ.out, HT.out, HBE.out] at this
        exact this) (fun _ => rfl)
      I (fun _ _ _ _ => False) Ib
      ?hI (fun _ _ _ _ _ _ _ h _ => h.elim) ?hIb ?hbad ?hrd ?h0
      (fun p => { tmps := #[.string s, undef, .pointer (some ⟨w.heap.size, 0, none⟩), .pointer (some ⟨w.heap.size + 1, 0, none⟩), .int .u16 0, .pointer (some ⟨w.heap.size + 1 + 1, 0, none⟩), .string (bs p.1), .string (bs p.2), .string s, .bool false, undef, .string s, .func (.func 46) #[] #[.pointer (some ⟨w.heap.size + 1 + 1 + 1 + 1, 0, none⟩), .pointer (some ⟨w.heap.size + 1 + 1 + 1, 0, none⟩)], .string (bs p.1), .string (bs p.2), undef, undef, undef, undef, undef, undef, undef, undef, undef, undef, undef, undef, undef, undef, undef, undef, undef, undef, undef], defers := [] }) ?assign ?body ?done ?fail ?stop
    case hI =>
      rintro N pre A B hN hA h hO
      rw [HI.out] at h ⊢
      obtain ⟨h1, ⟨sl, h2, h3⟩, h4, h5⟩ := h
      exact ⟨h1.same (hO.same _ h1.lt (nm5 hS0 (by omega))), ⟨sl, hO.box h2 (nm5 hS0 (by omega)), hO.row h3 (fun i hi => nmN hS0 (hS0 ▸ hN) hi)⟩, hO.box h4 (nm5 hS0 (by omega)), h5.trans (hO.below (by omega) (fun i hi => nm5 hS0 (by omega)))⟩
    case hIb =>
      rintro N A B hN hA h hO
      rw [HIb.out] at h ⊢
      obtain ⟨⟨C, h1⟩, ⟨sl, h2⟩, h4, h5⟩ := h
      exact ⟨⟨C, h1.same (hO.same _ h1.lt (nm5 hS0 (by omega)))⟩, ⟨sl, hO.box h2 (nm5 hS0 (by omega))⟩, hO.box h4 (nm5 hS0 (by omega)), h5.trans (hO.below (by omega) (fun i hi => nm5 hS0 (by omega)))⟩
    case hbad =>
      rintro x hx N A hN hA h
      rw [HI.out] at h
      rw [HIb.out, HBB.out x hx]
      obtain ⟨h1, ⟨sl, h2, h3⟩, h4, h5⟩ := h
      exact ⟨⟨_, h1.same (Below.heap_setCell _ _ _ _ (by show w.heap.size ≠ w.heap.size + 1 + 1; omega))⟩, ⟨sl, h2.other (by omega) _⟩, h4.set _, h5.setCell (p := ⟨w.heap.size + 1 + 1, 0, none⟩) (by show w.heap.size ≤ w.heap.size + 1 + 1; omega) _⟩
    case hrd =>
      rintro x hx N pre A h
      rw [HI.out] at h
      rw [HBB.out x hx]
      exact ⟨_, _, h.2.2.1⟩
    case h0 =>
      rintro N W1 hO hN
      rw [HI.out]
      have hn : ∀ k, k < w.heap.size + 3 → ¬ boxes2 (w.heap.size + 1 + 1 + 1) k := fun k hk => by unfold boxes2; omega
      exact ⟨x0.same (hO.same _ x0.lt (hn _ (by omega))), ⟨_, hO.box x1 (hn _ (by omega)), World.ownsRow_nil _ _ _ _⟩, hO.box x2 (hn _ (by omega)), (hO0.below (Nat.le_refl _) (fun _ _ => id)).trans (hO.below (by omega) (fun i hi => hn i (by omega)))⟩
    case assign =>
      intro l2 x W K hK
      dsimp only [encs2]
      gi_wp2
      exact hK
    case body =>
      rintro l2 N pre ⟨k, v⟩ W hN hNW hp h
      rw [HI.out] at h
      obtain ⟨h1, ⟨sl, h2, h3⟩, h4, h5⟩ := h
      have hlN : w.heap.size + 5 ≤ N := by omega
      have hm0 : ¬ Mine (boxes2 (w.heap.size + 1 + 1 + 1)) W0.heap.size N w.heap.size := nm5 hS0 (by omega)
      have hm1 : ¬ Mine (boxes2 (w.heap.size + 1 + 1 + 1)) W0.heap.size N (w.heap.size + 1) := nm5 hS0 (by omega)
      have hm2 : ¬ Mine (boxes2 (w.heap.size + 1 + 1 + 1)) W0.heap.size N (w.heap.size + 1 + 1) := nm5 hS0 (by omega)
      have hmN : ∀ i, N ≤ i → ¬ Mine (boxes2 (w.heap.size + 1 + 1 + 1)) W0.heap.size N i := fun i hi => nmN hS0 (hS0 ▸ hN) hi
      have hvl : (bs v).size ≤ 9223372036854775806 := by
        rw [← HT.out, ← HQ.out] at hp
        have : v.length ≤ s.size := (members_lens hp).2
        rw [size_bs]; omega
      have hkl2 : k.length ≤ 512 ∧ v.length ≤ 512 := by
        rw [← HT.out, ← HQ.out] at hp
        exact ⟨Nat.le_trans (members_lens hp).1 hlen, Nat.le_trans (members_lens hp).2 hlen⟩
      have hcp : (foldS pre).oth.length ≤ 513 := by
        have h1 := oth_count pre st0
        have h2 := hp.length_le
        simp only [List.length_append, List.length_cons, List.length_nil] at h2
        have h3 : st0.oth.length = 0 := rfl
        show (pre.foldl stStep st0).oth.length ≤ 513
        omega
      have hse := foldS_snoc pre (k, v)
      rw [hB0] at hN hm0 hm1 hm2 hmN ⊢
      clear hS0 hB0 x0 x1 x2 y0 y1 hO0 hp
      obtain ⟨st, hst⟩ : ∃ st, foldS pre = st := ⟨_, rfl⟩
      rw [hst] at h1 h3 h4 hse hcp
      clear hst
      by_cases hk : k = [111, 116]
      · subst hk
        rw [stStep_ot] at hse
        obtain ⟨kb, hkb⟩ : ∃ kb, kb = bs [111, 116] := ⟨_, rfl⟩
        rw [← hkb]
        have hkb2 : kb = ⟨#[111, 116]⟩ := hkb
        clear hkb
        subst hkb2
        have HK := Lib.hid (marks_any (bs v) (w.heap.size + 1 + 1) (if st.m.wrong then 31 else 0) W hvl h4)
        rw [list_bs] at HK
        obtain ⟨⟨a0, a1, a2, a3, a4⟩, oth⟩ := st
        obtain ⟨⟨b0, b1, b2, b3, b4⟩, hmv⟩ : ∃ M, marks v = M := ⟨_, rfl⟩
        rw [hmv] at HK hse
        have H1 := Lib.hid h1
        have H2 := Lib.hid h2
        have H3 := Lib.hid h3
        have H5 := Lib.hid h5
        have HS := Lib.hid hse
        clear h1 h2 h3 h4 h5 hse hvl hmv hkl2
        dsimp only [mkRow] at HK
        gi_wp2_with (gi_at_call 34; refine (CallsIn.inRound l2 (callsIn_wide.2 HK.out)).mono ?_; rintro e w2 ⟨rfl, hr2, hO2⟩; have k1 := H1.out.same (hO2.same _ H1.out.lt (by omega)); have c0 : w2.cell? ⟨w.heap.size, 0, none⟩ = some (.bool a0) := k1.cell 0 rfl; have c1 : w2.cell? ⟨w.heap.size, 1, none⟩ = some (.int .u64 (a1 : Int)) := k1.cell 1 rfl; have c2 : w2.cell? ⟨w.heap.size, 2, none⟩ = some (.bool a2) := k1.cell 2 rfl; have c3 : w2.cell? ⟨w.heap.size, 3, none⟩ = some (.int .u64 (a3 : Int)) := k1.cell 3 rfl; have f0 := k1.free 0; have f1 := k1.free 1; have f2 := k1.free 2; have f3 := k1.free 3)
        have hq := ((((k1.set 0 (.bool b0)).set 1 (.int .u64 (b1 : Int))).set 2 (.bool b2)).set 3 (.int .u64 (b3 : Int)))
        have hO5 := ((((Only.set (fun k => k = w.heap.size) w2 ⟨w.heap.size, 0, none⟩ (.bool b0) rfl).trans (Only.set _ _ ⟨w.heap.size, 1, none⟩ (.int .u64 (b1 : Int)) rfl)).trans (Only.set _ _ ⟨w.heap.size, 2, none⟩ (.bool b2) rfl)).trans (Only.set _ _ ⟨w.heap.size, 3, none⟩ (.int .u64 (b3 : Int)) rfl))
        revert hq hO5
        generalize ((((w2.setCell ⟨w.heap.size, 0, none⟩ (.bool b0)).setCell ⟨w.heap.size, 1, none⟩ (.int .u64 (b1 : Int))).setCell ⟨w.heap.size, 2, none⟩ (.bool b2)).setCell ⟨w.heap.size, 3, none⟩ (.int .u64 (b3 : Int))) = W5
        intro hq hO5
        refine ⟨(hO2.mono (fun i _ e => e ▸ hm2)).trans (hO5.mono (fun i _ e => e ▸ hm0)), ?_⟩
        rw [HI.out]
        simp only [HS.out]
        refine ⟨hq, ⟨sl, hO5.box (hO2.box H2.out (by omega)) (by omega), hO5.row (hO2.row H3.out (fun i hi e => by omega)) (fun i hi e => by omega)⟩, ?_, (H5.out.trans (hO2.below (by have := H5.out.size; omega) (fun i hi e => by omega))).trans (hO5.below (by have := H5.out.size; have := hO2.size; omega) (fun i hi e => by omega))⟩
        have hwv : wrongV ⟨b0, b1, b2, b3, b4⟩ (if a4 then 31 else 0) = wrongV (Mk.bent ⟨b0, b1, b2, b3, b4⟩ a4) 0 := by cases b4 <;> cases a4 <;> rfl
        have hb := hO5.box hr2 (by omega)
        rw [← hwv]
        exact hb
      · rw [stStep_other _ _ hk] at hse
        have n1 := key_ne hk
        obtain ⟨q1, q2⟩ := addOk hkl2
        obtain ⟨z1, hz1⟩ : ∃ z1, bs k ++ (⟨#[61]⟩ : ByteArray) = z1 := ⟨_, rfl⟩
        obtain ⟨z, hz⟩ : ∃ z, z1 ++ bs v = z := ⟨_, rfl⟩
        have hzz : z = bs (k ++ [61] ++ v) := by rw [← hz, ← hz1, ← addStr, ← addStr]; rfl
        obtain ⟨kb, hkb⟩ : ∃ kb, bs k = kb := ⟨_, rfl⟩
        obtain ⟨vb, hvb⟩ : ∃ vb, bs v = vb := ⟨_, rfl⟩
        rw [hz1] at q2
        rw [hkb] at n1 hz1 q1 ⊢
        rw [hvb] at hz q2 ⊢
        obtain ⟨M, oth⟩ := st
        obtain ⟨hl1, hl2⟩ := lenOk hcp
        have c0 := h2.cell
        have H1 := Lib.hid h1
        have H2 := Lib.hid h2
        have H4 := Lib.hid h4
        have H5 := Lib.hid h5
        have HS := Lib.hid hse
        have HZ := Lib.hid hzz
        have HL1 := Lib.hid hl1
        have HL2 := Lib.hid hl2
        clear h1 h2 h4 h5 hse hvl hzz hkb hvb hk hl1 hl2 hcp hkl2
        gi_wp2_with (gi_at_builtin; refine wpListIn_append_own _ rfl _ _ 53 rfl N 9 i0 (.string ⟨#[]⟩) 1 16 Tryd.underlying53 hi hz0 hz1_ hz2 rfl (by decide) _ _ _ rfl (h3.alloc _) ⟨W.heap.size, 0, none⟩ 1 1 [.string z] rfl rfl (cell_one_new _ _ _) (by simp [Value.oneCell']) HL1.out HL2.out (le_alloc _ hNW) ?_; intro v' w1 hown' hgrow _; obtain ⟨g', cap', rfl⟩ := ownsRow_succ hown'; have hO1 : Only (fun i => N ≤ i) W w1 := ((Only.refl (fun i => N ≤ i) W).alloc _).grown hgrow (fun j e _ => (h3.lt j e).1); have hc1 := (hO1.box H2.out (by omega)).cell; have hf1 := (hO1.box H2.out (by omega)).frozen)
        refine ⟨(hO1.mono (fun i _ e => hmN i e)).setCell _ (fun _ => hm1), ?_⟩
        rw [HI.out]
        simp only [HS.out]
        refine ⟨(H1.out.same (hO1.same _ H1.out.lt (by omega))).same (Below.heap_setCell _ _ _ _ (by show w.heap.size ≠ w.heap.size + 1; omega)), ⟨_, (hO1.box H2.out (by omega)).set _, ?_⟩, (hO1.box H4.out (by omega)).other (by omega) _, (H5.out.trans (hO1.below (by have := H5.out.size; omega) (fun i hi e => by omega))).setCell (p := ⟨w.heap.size + 1, 0, none⟩) (by show w.heap.size ≤ w.heap.size + 1; omega) _⟩
        have hrow := ownsRow_setCell_below hown' (a := ⟨w.heap.size + 1, 0, none⟩) (by show w.heap.size + 1 < N; omega) (.slice (some ⟨g', 0, none⟩) (oth.length + 1) cap')
        have e1 : ((oth ++ [k ++ [61] ++ v]).map strV) = oth.map strV ++ [.string z] := by rw [HZ.out]; simp [strV]
        have e2 : (oth ++ [k ++ [61] ++ v]).length = oth.length + 1 := by simp
        rw [e1, e2]
        exact hrow
    case done =>
      rintro N W hbn hN hNW h hK
      rw [HI.out] at h
      obtain ⟨h1, ⟨sl, h2, h3⟩, h4, h5⟩ := h
      have hq2 : Q.2 = false := by
        rw [← HBE.out] at hbn
        cases h : Q.2
        · rfl
        · rw [h] at hbn; cases hbn
      have hrr := HRR.out
      rw [hq2] at hrr
      obtain ⟨⟨⟨a0, a1, a2, a3, a4⟩, oth⟩, hst⟩ : ∃ st, st = foldS told := ⟨_, rfl⟩
      rw [← hst] at h1 h3 h4 hrr
      clear hst
      have c0 : W.cell? ⟨w.heap.size, 0, none⟩ = some (.bool a0) := h1.cell 0 rfl
      have c1 : W.cell? ⟨w.heap.size, 1, none⟩ = some (.int .u64 (a1 : Int)) := h1.cell 1 rfl
      have c2 : W.cell? ⟨w.heap.size, 2, none⟩ = some (.bool a2) := h1.cell 2 rfl
      have c3 : W.cell? ⟨w.heap.size, 3, none⟩ = some (.int .u64 (a3 : Int)) := h1.cell 3 rfl
      have f0 := h1.free 0
      have f1 := h1.free 1
      have f2 := h1.free 2
      have f3 := h1.free 3
      have s0 := h2.cell
      have s1 := h2.frozen
      have hb1 : w.heap.size + 2 ≤ W0.heap.size := by omega
      rw [hB0] at hK hb1 hN ⊢
      clear hS0 hB0 x0 x1 x2 y0 y1 hO0 hbn hq2
      cases a4 with
      | true =>
        have hr : R = (31, CtxState.start, []) := hrr
        subst hr
        have e0 : W.cell? ⟨w.heap.size + 1 + 1, 0, none⟩ = some (.int .u16 31) := h4.cell
        have H1 := Lib.hid h1
        have H2 := Lib.hid h2
        have H3 := Lib.hid h3
        have H5 := Lib.hid h5
        clear h1 h2 h3 h4 h5 hrr
        gi_wp2
        refine wpIn_wide.2 ?_
        go_region
        gi_wp2
        obtain ⟨g0, g1, g2, g3, g4, g5, g6, _⟩ := close_state (.bool false) (.int .u64 0) (.bool false) (.int .u64 0) (.slice none 0 0) H1.out H2.out hK hb1 H5.out
        refine ⟨by simp, .inl ⟨_, _, rfl, run_takeDeferred g0, ?_⟩⟩
        exact ⟨.tuple #[.agg #[.bool false, .int .u64 0, .bool false, .int .u64 0], .slice none 0 0, .int .u16 31], by simp [results, Tryd.results22, go_sem, g1, g2, g3, g4, g5], g6, _, rfl, World.ownsRow_nil _ _ _ _⟩
      | false =>
        have hr : R = (0, ⟨a0, a1, a2, a3, false⟩, oth) := hrr
        subst hr
        have e0 : W.cell? ⟨w.heap.size + 1 + 1, 0, none⟩ = some (.int .u16 0) := h4.cell
        have H1 := Lib.hid h1
        have H2 := Lib.hid h2
        have H3 := Lib.hid h3
        have H5 := Lib.hid h5
        clear h1 h2 h3 h4 h5 hrr
        obtain ⟨g0, g1, g2, g3, g4, g5, g6, g7⟩ := close_state (.bool a0) (.int .u64 (a1 : Int)) (.bool a2) (.int .u64 (a3 : Int)) sl H1.out H2.out hK hb1 H5.out
        have G0 := Lib.hid g0
        have G1 := Lib.hid g1
        have G2 := Lib.hid g2
        have G3 := Lib.hid g3
        have G4 := Lib.hid g4
        have G5 := Lib.hid g5
        clear g0 g1 g2 g3 g4 g5
        rcases slice_of H3.out with hs0 | ⟨sg, sn, sc, hs0⟩
        · subst hs0
          gi_wp2
          refine wpIn_wide.2 ?_
          go_region
          gi_wp2
          have g1 := G1.out
          have g2 := G2.out
          have g3 := G3.out
          have g4 := G4.out
          have g5 := G5.out
          refine ⟨by simp, .inl ⟨_, _, rfl, run_takeDeferred G0.out, ?_⟩⟩
          exact ⟨.tuple #[.agg #[.bool a0, .int .u64 (a1 : Int), .bool a2, .int .u64 (a3 : Int)], .slice none 0 0, .int .u16 0], by simp [results, Tryd.results22, go_sem, g1, g2, g3, g4, g5], g6, _, rfl, g7 N _ _ _ hN H3.out⟩
        · subst hs0
          gi_wp2
          refine wpIn_wide.2 ?_
          go_region
          gi_wp2
          have g1 := G1.out
          have g2 := G2.out
          have g3 := G3.out
          have g4 := G4.out
          have g5 := G5.out
          refine ⟨by simp, .inl ⟨_, _, rfl, run_takeDeferred G0.out, ?_⟩⟩
          exact ⟨.tuple #[.agg #[.bool a0, .int .u64 (a1 : Int), .bool a2, .int .u64 (a3 : Int)], .slice (some ⟨sg, 0, none⟩) sc sn, .int .u16 0], by simp [results, Tryd.results22, go_sem, g1, g2, g3, g4, g5], g6, _, rfl, g7 N _ _ _ hN H3.out⟩
    case fail =>
      rintro N W hbn hN hNW h hK
      rw [HIb.out] at h
      obtain ⟨⟨⟨a0, a1, a2, a3, a4⟩, h1⟩, ⟨sl, h2⟩, h4, h5⟩ := h
      have hq2 : Q.2 = true := by
        rw [← HBE.out] at hbn
        cases h : Q.2
        · rw [h] at hbn; exact absurd rfl hbn
        · rfl
      have hrr := HRR.out
      rw [hq2] at hrr
      have c0 : W.cell? ⟨w.heap.size, 0, none⟩ = some (.bool a0) := h1.cell 0 rfl
      have c1 : W.cell? ⟨w.heap.size, 1, none⟩ = some (.int .u64 (a1 : Int)) := h1.cell 1 rfl
      have c2 : W.cell? ⟨w.heap.size, 2, none⟩ = some (.bool a2) := h1.cell 2 rfl
      have c3 : W.cell? ⟨w.heap.size, 3, none⟩ = some (.int .u64 (a3 : Int)) := h1.cell 3 rfl
      have f0 := h1.free 0
      have f1 := h1.free 1
      have f2 := h1.free 2
      have f3 := h1.free 3
      have s0 := h2.cell
      have s1 := h2.frozen
      have hb1 : w.heap.size + 2 ≤ W0.heap.size := by omega
      rw [hB0] at hK hb1 hN ⊢
      clear hS0 hB0 x0 x1 x2 y0 y1 hO0 hbn hq2
      have hr : R = (31, CtxState.start, []) := by rw [hrr]; simp
      subst hr
      have e0 : W.cell? ⟨w.heap.size + 1 + 1, 0, none⟩ = some (.int .u16 31) := h4.cell
      have H1 := Lib.hid h1
      have H2 := Lib.hid h2
      have H5 := Lib.hid h5
      clear h1 h2 h4 h5 hrr
      gi_wp2
      refine wpIn_wide.2 ?_
      go_region
      gi_wp2
      obtain ⟨g0, g1, g2, g3, g4, g5, g6, _⟩ := close_state (.bool false) (.int .u64 0) (.bool false) (.int .u64 0) (.slice none 0 0) H1.out H2.out hK hb1 H5.out
      refine ⟨by simp, .inl ⟨_, _, rfl, run_takeDeferred g0, ?_⟩⟩
      exact ⟨.tuple #[.agg #[.bool false, .int .u64 0, .bool false, .int .u64 0], .slice none 0 0, .int .u16 31], by simp [results, Tryd.results22, go_sem, g1, g2, g3, g4, g5], g6, _, rfl, World.ownsRow_nil _ _ _ _⟩
    case stop =>
      rintro _ _ _ _ h
      exact h.elim
end Go.Proofs.YtkfidolbbnmjfaaDoor
