/-
  What (*reader).pairs tells, whatever the text: names, each with what stands behind it, up to a piece that is no pair.
-/
import Derived.Test.YtkfidolbbnmjfaaDoorCtxCut
namespace Go.Proofs.YtkfidolbbnmjfaaDoor
open Go.RowKit Go.Shelf Go.Proofs.CtxState Go.Proofs.SeqOwn
attribute [local go_sem] Oper.semAt_some wide_depth wide_fn round_depth round_fn

set_option maxRecDepth 100000 in
set_option maxHeartbeats 1000000 in
theorem pairs_any (n : Nat) (p : Option Addr) (s c d : ByteArray) (w : World) :
    CallsIn Fence.wide n Tryd.prog 47 #[.pointer p, .string s, .string c, .string d] w fun e w' => e = .returned (.func (.func 68) #[] #[.pointer (some ⟨w.heap.size + 1, 0, none⟩), .pointer (some ⟨w.heap.size + 1 + 1, 0, none⟩), .pointer (some ⟨w.heap.size + 1 + 1 + 1, 0, none⟩), .pointer (some ⟨w.heap.size, 0, none⟩)]) ∧
      w' = (((w.alloc (.cells #[.pointer p] 99)).alloc (.cells #[.string s] 9)).alloc (.cells #[.string c] 9)).alloc (.cells #[.string d] 9) := by
  refine callsIn_of_wp Tryd.func47 rfl trivial ?_ rfl
  simp only [Tryd.ntmps47, List.size_toArray, List.length_cons, List.length_nil, Nat.reduceAdd, Nat.reduceSub, Array.replicate_succ, Array.replicate_zero, List.push_toArray, List.append_toArray, List.nil_append, List.cons_append]
  gi_wp2
  go_ret
  exact ⟨rfl, rfl⟩

def encs2 (p : List UInt8 × List UInt8) : Array Value := #[.string (bs p.1), .string (bs p.2)]
def boxes4 (b k : Nat) : Prop := k = b ∨ k = b + 1 ∨ k = b + 1 + 1 ∨ k = b + 1 + 1 + 1
theorem nm3 {B C N k : Nat} (hC : C = B + 4) (hk : k ≤ B) : ¬ Mine (boxes3 (B + 1)) C N k := by
  unfold Mine boxes3
  omega
theorem mm3 {B C N k : Nat} {T : Nat → Prop} (hC : C = B + 4) (hN : C ≤ N) (h : Mine (boxes3 (B + 1)) C N k) : Mine T B N k := by
  unfold Mine boxes3 at *
  omega
theorem cut_only (s : ByteArray) (c : UInt8) (w : World) (hs : s.size ≤ 9223372036854775806) :
    Calls Tryd.prog 70 #[.string s, .string ⟨#[c]⟩] w fun e w' => e = .returned (cutV (cutAt c s.data.toList) s) ∧ Only (fun _ => False) w w' :=
  (cut_any s c w hs).mono fun _ _ ⟨he, _, hk⟩ => ⟨he, hk ▸ Only.drewN _ _ _⟩

set_option maxRecDepth 100000 in
set_option maxHeartbeats 4000000 in
theorem pairs_tells (s : ByteArray) (c d : UInt8) (b br : Nat) (w : World) (hs : s.size ≤ 9223372036854775806) (n : Nat) (S : Prop) (hbr : br < b)
    (hb0 : Boxed w b 99 (.pointer (some ⟨br, 0, none⟩))) (hb1 : Boxed w (b + 1) 9 (.string s)) (hb2 : Boxed w (b + 1 + 1) 9 (.string ⟨#[c]⟩)) (hb3 : Boxed w (b + 1 + 1 + 1) 9 (.string ⟨#[d]⟩)) :
    Tells Fence.wide n Tryd.prog 68 #[.pointer (some ⟨b + 1, 0, none⟩), .pointer (some ⟨b + 1 + 1, 0, none⟩), .pointer (some ⟨b + 1 + 1 + 1, 0, none⟩), .pointer (some ⟨b, 0, none⟩)] encs2 (boxes4 b)
      (pairs d (split c s.data.toList)).1 (if (pairs d (split c s.data.toList)).2 then some br else none) S w := by
  obtain ⟨P0, hP0⟩ : ∃ P0, pairs d (split c s.data.toList) = P0 := ⟨_, rfl⟩
  rw [hP0]
  obtain ⟨told, htold⟩ : ∃ told, P0.1 = told := ⟨_, rfl⟩
  obtain ⟨bad, hbe⟩ : ∃ bad, (if P0.2 then some br else none) = bad := ⟨_, rfl⟩
  rw [htold, hbe]
  have HP0 := Lib.hid hP0
  have HT := Lib.hid htold
  have HB := Lib.hid hbe
  clear hP0 htold hbe
  intro l J Jx Jb hJ hJx hJb hbad hrd hY h0
  have c1 := (hb1.alloc (.cells #[.func (.yield l) #[] #[]] 100)).cell
  have c2 := (hb2.alloc (.cells #[.func (.yield l) #[] #[]] 100)).cell
  have hlt3 := hb3.lt
  refine callsIn_of_wp_marks Tryd.func68 rfl trivial ?_ rfl
  simp only [Tryd.ntmps68, List.size_toArray, List.length_cons, List.length_nil, Nat.reduceAdd, Nat.reduceSub, Array.replicate_succ, Array.replicate_zero, List.push_toArray, List.append_toArray, List.nil_append, List.cons_append]
  gi_wp2_with (gi_at_call 69; refine (SplitSeq_any _ _ _ _).mono ?_; rintro e w' ⟨rfl, rfl⟩)
  obtain ⟨W0, hW0⟩ : ∃ W0, ((((w.alloc (.cells #[.func (.yield l) #[] #[]] 100)).alloc (.cells #[.string s] 9)).alloc (.cells #[.string ⟨#[c]⟩] 9)).alloc (.cells #[.int .i64 0] 3)) = W0 := ⟨_, rfl⟩
  have hS0 : W0.heap.size = w.heap.size + 4 := by rw [← hW0]; simp
  have hO0 : Only (fun _ => False) w W0 := by rw [← hW0]; exact ((((Only.refl _ w).alloc _).alloc _).alloc _).alloc _
  have x0 : Boxed W0 w.heap.size 100 (.func (.yield l) #[] #[]) := by rw [← hW0]; exact (((Boxed.new w _ _).alloc _).alloc _).alloc _
  have y0 : Boxed W0 (w.heap.size + 1) 9 (.string s) := by rw [← hW0]; have := Boxed.new (w.alloc (.cells #[.func (.yield l) #[] #[]] 100)) 9 (.string s); rw [World.size_alloc] at this; exact (this.alloc _).alloc _
  have y1 : Boxed W0 (w.heap.size + 1 + 1) 9 (.string ⟨#[c]⟩) := by rw [← hW0]; have := Boxed.new ((w.alloc (.cells #[.func (.yield l) #[] #[]] 100)).alloc (.cells #[.string s] 9)) 9 (.string ⟨#[c]⟩); rw [World.size_alloc, World.size_alloc] at this; exact this.alloc _
  have y2 : Boxed W0 (w.heap.size + 1 + 1 + 1) 3 (.int .i64 0) := by rw [← hW0]; have := Boxed.new (((w.alloc (.cells #[.func (.yield l) #[] #[]] 100)).alloc (.cells #[.string s] 9)).alloc (.cells #[.string ⟨#[c]⟩] 9)) 3 (.int .i64 0); rw [World.size_alloc, World.size_alloc, World.size_alloc] at this; exact this
  have x1 := hO0.box hb3 id
  have x2 := hO0.box hb0 id
  rw [hW0]
  clear hW0 c1 c2
  obtain ⟨I, hIe⟩ : ∃ I : Nat → List ByteArray → World → Prop, I = fun N pre W => (pairs d (pre.map lst)).2 = false ∧ J N (pairs d (pre.map lst)).1 W ∧ Boxed W w.heap.size 100 (.func (.yield l) #[] #[]) ∧ Boxed W (b + 1 + 1 + 1) 9 (.string ⟨#[d]⟩) ∧ Boxed W b 99 (.pointer (some ⟨br, 0, none⟩)) := ⟨_, rfl⟩
  obtain ⟨Ix, hIxe⟩ : ∃ Ix : Nat → Code → List ByteArray → World → Prop, Ix = fun N c' pre W => c' = .ret ∧ ((bad ≠ none ∧ Jb N W) ∨ (S ∧ ∃ p, p <+: told ∧ Jx N p W)) := ⟨_, rfl⟩
  have HI := Lib.hid hIe
  have HX := Lib.hid hIxe
  clear hIe hIxe
  obtain ⟨B0, hB0⟩ : ∃ B0, W0.heap.size = B0 := ⟨_, rfl⟩
  have HBB := Lib.hid (hB0.symm.trans hS0)
  refine wpIn_range rfl (by simp [Fence.wide]) (gf := 89) (lb := #[.pointer (some ⟨w.heap.size + 1 + 1, 0, none⟩), .pointer (some ⟨w.heap.size + 1, 0, none⟩), .pointer (some ⟨w.heap.size + 1 + 1 + 1, 0, none⟩)]) rfl trivial (enters_of Tryd.func89 (by kernel_rfl) rfl)
    (encs := fun t : ByteArray => #[.string t]) (T := boxes3 (w.heap.size + 1)) (xs := splitB c s) (bad := none) (S := True) (by rw [hS0]; unfold boxes3; intro k hk; omega) (fun _ h => by cases h)
    (fun W1 hO => splitSeq_tells s c (w.heap.size + 1) W1 hs _ (hO.box y0 id) (hO.box y1 id) (hO.box y2 id)) (fun _ => rfl)
    I Ix
    (fun _ _ => False)
    ?hI ?hIx (fun _ _ _ _ _ h _ => h.elim) (fun _ h => by cases h) (fun _ h => by cases h) ?h0
    (fun x => { tmps := #[.func (.yield l) #[] #[], .pointer (some ⟨b + 1, 0, none⟩), .pointer (some ⟨b + 1 + 1, 0, none⟩), .pointer (some ⟨b + 1 + 1 + 1, 0, none⟩), .pointer (some ⟨b, 0, none⟩), .pointer (some ⟨w.heap.size, 0, none⟩), .string x, undef, undef, undef, .string s, .string ⟨#[c]⟩, .func (.func 89) #[] #[.pointer (some ⟨w.heap.size + 1 + 1, 0, none⟩), .pointer (some ⟨w.heap.size + 1, 0, none⟩), .pointer (some ⟨w.heap.size + 1 + 1 + 1, 0, none⟩)], .string x, undef, undef, undef, undef, undef, undef, undef, undef, undef, undef, undef, undef, undef, undef, undef, undef, undef], defers := [] }) ?assign ?body ?done ?fail ?stop
  case hI =>
    rintro N pre A B hN hA h hO
    rw [HI.out] at h ⊢
    obtain ⟨h1, h2, h3, h4, h5⟩ := h
    rw [hS0] at hN
    exact ⟨h1, hJ N _ A B (by omega) hA h2 (hO.mono fun _ _ => mm3 hS0 (hS0 ▸ hN)), hO.box h3 (nm3 hS0 (Nat.le_refl _)), hO.box h4 (nm3 hS0 (by omega)), hO.box h5 (nm3 hS0 (by omega))⟩
  case hIx =>
    rintro N c' pre A B hN hA h hO
    rw [HX.out] at h ⊢
    obtain ⟨rfl, h⟩ := h
    rw [hS0] at hN
    have hO' := hO.mono (T' := Mine (boxes4 b) w.heap.size N) fun _ _ => mm3 hS0 (hS0 ▸ hN)
    exact ⟨rfl, h.imp (fun h => ⟨h.1, hJb N A B (by omega) hA h.2 hO'⟩) (fun ⟨hs, p, hp, h⟩ => ⟨hs, p, hp, hJx N p A B (by omega) hA h hO'⟩)⟩
  case h0 =>
    rintro N W1 hO hN
    have hO1 : Only (boxes3 (w.heap.size + 1)) w W1 := (hO0.mono (fun _ _ h => h.elim)).trans hO
    rw [HI.out]
    exact ⟨rfl, h0 N W1 (hO1.mono (fun i hi h => by unfold boxes3 at h; omega)) hN, hO.box x0 (by unfold boxes3; omega), hO.box x1 (by unfold boxes3; omega), hO.box x2 (by unfold boxes3; omega)⟩
  case assign =>
    intro l2 x W K hK
    clear hJ hJx hJb hbad hrd hY h0
    gi_wp2
    exact hK
  case body =>
    rintro l2 N pre x W hN hNW hp h
    rw [HI.out] at h
    obtain ⟨hok, hj, X0, X1, X2⟩ := h
    have hwN : w.heap.size ≤ N := by omega
    have hlN : w.heap.size < N := by omega
    have hsub : ∀ k, Mine (boxes3 (w.heap.size + 1)) W0.heap.size N k → Mine (boxes4 b) w.heap.size N k := fun k => mm3 hS0 hN
    have hnb : ¬ Mine (boxes3 (w.heap.size + 1)) W0.heap.size N br := nm3 hS0 (by omega)
    rw [hB0] at hN hsub hnb ⊢
    clear hS0 hB0
    obtain ⟨lr, hlr⟩ := pre_lst hp
    have hxs := Nat.le_trans (piece_len hlr) hs
    have hC := fun W => cut_only x d W hxs
    have d1 := X1.cell
    have d2 := X2.cell
    clear hp
    cases hc : cutAt d x.data.toList with
    | none =>
      have hP : P0 = ((pairs d (pre.map lst)).1, true) := by rw [← HP0.out, hlr, pairs_app _ _ _ hok, pairs_none hc]; simp
      have hbb : bad = some br := by rw [← HB.out, hP]; rfl
      have hto : told = (pairs d (pre.map lst)).1 := by rw [← HT.out, hP]
      obtain ⟨t, v, hB⟩ := hrd br hbb N _ W hj
      rw [hc] at hC
      have hJB : ∀ A, N ≤ A.heap.size → J N (pairs d (pre.map lst)).1 A → Jb N (A.setCell ⟨br, 0, none⟩ (.int .u16 31)) := fun A hA h => hbad br hbb N A hwN hA (by rw [hto]; exact h)
      have HBB2 := Lib.hid hbb
      clear hP hc hlr hbad hrd hY h0 hJx hJb hxs d2 hbb hto
      dsimp only [cutV] at hC
      gi_wp2_with (gi_at_call 70; refine (CallsIn.inRound l2 (callsIn_wide.2 (hC _))).mono ?_; rintro e w' ⟨rfl, hO⟩; have z1 := (hO.box X2 id).cell; have zb := (hO.box hB id).cell; have zf := (hO.box hB id).frozen)
      refine ⟨trivial, (hO.mono fun _ _ h => h.elim).setCell _ (fun _ => hnb), ?_⟩
      rw [HX.out]
      exact ⟨rfl, .inl ⟨by rw [HBB2.out]; simp, hJB _ (Nat.le_trans hNW hO.size) (hJ N _ W _ hwN hNW hj (hO.mono fun _ _ h => h.elim))⟩⟩
    | some kv =>
      have hP := pairs_snoc hok hc
      have hP2 : told = (pairs d (pre.map lst)).1 ++ kv :: (pairs d lr).1 := by rw [← HT.out, ← HP0.out, hlr, pairs_app _ _ _ hok, pairs_some hc]
      have hpre : (pairs d (pre.map lst)).1 ++ [kv] <+: told := by rw [hP2]; exact ⟨(pairs d lr).1, by simp⟩
      have hYk := fun A hA h => hY N (pairs d (pre.map lst)).1 kv A hwN hA hpre h
      rw [hc] at hC
      have hJk := fun A h => hJ N (pairs d (pre.map lst)).1 W A hwN hNW hj h
      have HP := Lib.hid hP
      obtain ⟨k, v⟩ := kv
      have d0 := X0.cell
      clear hP hP2 hc hlr hbad hrd hY h0 hJx hJb hxs d2
      dsimp only [cutV, encs2] at hC hYk
      gi_wp2_with (gi_at_call 70; refine (CallsIn.inRound l2 (callsIn_wide.2 (hC _))).mono ?_; rintro e w' ⟨rfl, hO⟩; have z0 := (hO.box X0 id).cell; obtain ⟨fn, tmps, assign, body, hy, hR⟩ := hYk w' (Nat.le_trans hNW hO.size) (hJk _ (hO.mono fun _ _ h => h.elim)))
      refine RoundIn.mono (roundIn_wide hR) ?_
      rintro e W3 (⟨rfl, hJ3, hk3⟩ | ⟨hS, rfl, hJx3, hk3⟩)
      · have hpk : Hid (pre ++ [x] = pre ++ [x]) := rfl
        gi_wp2
        refine ⟨hO.mono (fun _ _ h => h.elim) |>.step hk3 (fun i _ h e => h (hsub i e)), ?_⟩
        rw [HI.out]
        exact ⟨by rw [HP.out], by rw [HP.out]; exact hJ3, hk3.box (hO.box X0 id) (fun h => h (.inr ⟨Nat.le_refl _, hlN⟩)), hk3.box (hO.box X1 id) (fun h => h (.inl (.inr (.inr (.inr rfl))))), hk3.box (hO.box X2 id) (fun h => h (.inl (.inl rfl)))⟩
      · gi_wp2
        refine ⟨trivial, hO.mono (fun _ _ h => h.elim) |>.step hk3 (fun i _ h e => h (hsub i e)), ?_⟩
        rw [HX.out]
        exact ⟨rfl, .inr ⟨hS, _, hpre, hJx3⟩⟩
  case done =>
    rintro N W _ hN hNW h hK
    rw [HI.out] at h
    obtain ⟨hok, hj, _⟩ := h
    have hl : (splitB c s).map lst = split c s.data.toList := lst_bs _
    rw [hl, HP0.out] at hok hj
    have hbn : bad = none := by rw [← HB.out, hok]; rfl
    rw [HT.out] at hj
    have HBN := Lib.hid hbn
    have hwN : w.heap.size ≤ N := by omega
    have hm : Mine (boxes4 b) w.heap.size N W0.heap.size := .inr ⟨by omega, by omega⟩
    have hj2 := hJ N _ W (W.putObj W0.heap.size (.deferred none)) hwN hNW hj (Only.put _ _ _ _ hm)
    clear hbn hok hl hbad hrd hY h0 hJ hJx hJb
    rw [hB0] at hK hj2 hm ⊢
    clear hB0 hS0
    gi_wp2
    refine ⟨by simp, .inl ⟨_, _, rfl, run_takeDeferred hK, ?_⟩⟩
    exact ⟨_, results_none rfl _ _ _, ⟨_, rfl⟩, N, hwN, by simpa using hNW, .inl ⟨HBN.out, hj2⟩⟩
  case fail =>
    rintro N W h
    exact absurd rfl h
  case stop =>
    rintro N c' pre W _ _ hN hNW h hK
    rw [HX.out] at h
    obtain ⟨rfl, h⟩ := h
    have hwN : w.heap.size ≤ N := by omega
    have hm : Mine (boxes4 b) w.heap.size N W0.heap.size := .inr ⟨by omega, by omega⟩
    have hO := Only.put (Mine (boxes4 b) w.heap.size N) W W0.heap.size (.deferred none) hm
    have h2 : (bad ≠ none ∧ Jb N (W.putObj W0.heap.size (.deferred none))) ∨ (S ∧ ∃ p, p <+: told ∧ Jx N p (W.putObj W0.heap.size (.deferred none))) :=
      h.imp (fun h => ⟨h.1, hJb N _ _ hwN hNW h.2 hO⟩) (fun ⟨hs, p, hp, h⟩ => ⟨hs, p, hp, hJx N p _ _ hwN hNW h hO⟩)
    have H2 := Lib.hid h2
    clear h h2 hO hbad hrd hY h0 hJ hJx hJb
    rw [hB0] at hK hm H2 ⊢
    clear hB0 hS0
    gi_wp2
    refine ⟨by simp, .inl ⟨_, _, rfl, run_takeDeferred hK, ?_⟩⟩
    exact ⟨_, results_none rfl _ _ _, ⟨_, rfl⟩, N, hwN, by simpa using hNW, .inr H2.out⟩
end Go.Proofs.YtkfidolbbnmjfaaDoor
