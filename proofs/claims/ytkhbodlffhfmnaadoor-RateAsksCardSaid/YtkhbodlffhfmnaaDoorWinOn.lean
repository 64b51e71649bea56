/-
  A window of a law's own, from world to world: turned, added to, asked what is open and what was closed.
-/
import Derived.Test.YtkhbodlffhfmnaaDoorWinTurn
namespace Go.Proofs.YtkhbodlffhfmnaaDoor
open Go.RowKit Go.Proofs.HashMath Go.Proofs.SkMath

theorem Wn.of {n₀ : Nat} {w W W' : World} {bs bs' : List Nat} {V r m seed long now t : Nat} {f g f' g' : Nat → Nat → Nat} (h : Wn n₀ w W bs V r m seed long now f g) (hm : Mut bs W W') (hb : ∀ k ∈ bs', k ∈ bs ∨ (W.heap.size ≤ k ∧ k < W'.heap.size))
    (hk : ∃ a b c S A G cv tot, Wi W' V a b c S A G r m seed long t cv f' g' tot bs' ∧ V ∈ bs' ∧ S ∈ bs' ∧ G ∈ bs' ∧ a ∈ bs' ∧ b ∈ bs' ∧ c ∈ bs' ∧ A ∈ bs') : Wn n₀ w W' bs' V r m seed long t f' g' :=
  { h with
    le := Nat.le_trans h.le hm.size
    b := h.b.trans (hm.below h.le fun k hk => (h.bsn k hk).1)
    bsn := fun k hk => by
      have := h.le
      have := hm.size
      rcases hb k hk with x | ⟨x, y⟩
      · have := h.bsn k x
        omega
      · omega
    k := hk }

/-- turn, of a window of a law's own. -/
theorem Wn.turn_no {n₀ : Nat} {w W : World} {bs : List Nat} {V r m seed long now : Nat} {f g : Nat → Nat → Nat} (h : Wn n₀ w W bs V r m seed long now f g) (t : Int) (ht : t < now ∨ 1099511627776 < t) :
    Calls Tryd.prog 38 #[.pointer (some ⟨V, 0, none⟩), .int .i64 t] W fun e w' => e = .returned (.int .u16 60) ∧ Below W.heap.size W w' := by
  obtain ⟨a, b, c, S, A, G, cv, tot, hi, _⟩ := h.k
  exact Go.Proofs.YtkhbodlffhfmnaaDoor.turn_no hi t ht
theorem Wn.turn {n₀ : Nat} {w W : World} {bs : List Nat} {V r m seed long now : Nat} {f g : Nat → Nat → Nat} (h : Wn n₀ w W bs V r m seed long now f g) (t : Nat) (h1 : now ≤ t) (h2 : t ≤ 1099511627776) :
    Calls Tryd.prog 38 #[.pointer (some ⟨V, 0, none⟩), .int .i64 (t : Int)] W fun e w' => e = .returned (.int .u16 0) ∧ ∃ bs', Ext W bs bs' ∧ Mut bs W w' ∧ Wn n₀ w w' bs' V r m seed long t (tF long now t f) (tG long now t f g) := by
  obtain ⟨a, b, c, S, A, G, cv, tot, hi, v1, v2, v3, v4, v5, v6, v7⟩ := h.k
  have hle : now / long ≤ t / long := Nat.div_le_div_right h1
  by_cases e0 : t / long = now / long
  · have eF : tF long now t f = f := if_pos e0
    have eG : tG long now t f g = g := if_pos e0
    rw [eF, eG]
    refine (turn_same hi t h1 h2 e0).mono fun e w' ⟨he, hm, hw⟩ => ⟨he, bs, Ext.refl _ _, hm.wider (by simpa using v1), h.of (hm.wider (by simpa using v1)) (fun k hk => Or.inl hk) ⟨a, b, c, S, A, G, cv, tot, hw, v1, v2, v3, v4, v5, v6, v7⟩⟩
  have eF : tF long now t f = Z := if_neg e0
  by_cases e1 : t / long = now / long + 1
  · have eG : tG long now t f g = f := by unfold tG; rw [if_neg e0, if_pos e1]
    rw [eF, eG]
    refine (turn_next hi t h1 h2 e1).mono fun e w' ⟨he, hm, S2, A2, G2, ⟨s1, s2, s3⟩, ⟨s4, s5, s6⟩, hw⟩ => ⟨he, [V, a, b, c, S2, A2, G2, S, A, G], ?_, hm.wider (by simpa using v1), h.of (hm.wider (by simpa using v1)) ?_ ⟨a, b, c, S2, A2, G2, _, 0, hw, by simp, by simp, by simp, by simp, by simp, by simp, by simp⟩⟩
    · intro k hk
      simp only [List.mem_cons, List.not_mem_nil, or_false] at hk
      rcases hk with rfl | rfl | rfl | rfl | rfl | rfl | rfl | rfl | rfl | rfl <;> first | (left; assumption) | (right; assumption)
    · intro k hk
      simp only [List.mem_cons, List.not_mem_nil, or_false] at hk
      rcases hk with rfl | rfl | rfl | rfl | rfl | rfl | rfl | rfl | rfl | rfl <;> first | (left; assumption) | (right; exact ⟨by assumption, by assumption⟩)
  · have eG : tG long now t f g = Z := by unfold tG; rw [if_neg e0, if_neg e1]
    rw [eF, eG]
    refine (turn_far hi t h1 h2 (by omega)).mono fun e w' ⟨he, hm, S2, A2, G2, ⟨s1, s2, s3⟩, ⟨s4, s5, s6⟩, hw⟩ => ⟨he, [V, a, b, c, S2, A2, G2, S, A, G], ?_, hm.wider (by simpa using v1), h.of (hm.wider (by simpa using v1)) ?_ ⟨a, b, c, S2, A2, G2, _, 0, hw, by simp, by simp, by simp, by simp, by simp, by simp, by simp⟩⟩
    · intro k hk
      simp only [List.mem_cons, List.not_mem_nil, or_false] at hk
      rcases hk with rfl | rfl | rfl | rfl | rfl | rfl | rfl | rfl | rfl | rfl <;> first | (left; assumption) | (right; assumption)
    · intro k hk
      simp only [List.mem_cons, List.not_mem_nil, or_false] at hk
      rcases hk with rfl | rfl | rfl | rfl | rfl | rfl | rfl | rfl | rfl | rfl <;> first | (left; assumption) | (right; exact ⟨by assumption, by assumption⟩)

/-- What is told of a key: the least of its cells, by a while's seed. -/
def told (seed : Nat) (s : ByteArray) (m r : Nat) (f : Nat → Nat → Nat) : Nat := least (placeOf seed s.data.toList m) f r
theorem told_Z {seed m r : Nat} {s : ByteArray} (h : 1 ≤ r) : told seed s m r Z = 0 := least_0 _ h
theorem told_lt (seed m r : Nat) (s : ByteArray) (f : Nat → Nat → Nat) : told seed s m r f < 18446744073709551616 := least_lt _ _ _
/-- What was added once more. -/
def addW (seed : Nat) (s : ByteArray) (m r n : Nat) (f : Nat → Nat → Nat) : Nat → Nat → Nat := add r (placeOf seed s.data.toList m) n f

theorem Wn.add_no {n₀ : Nat} {w W : World} {bs : List Nat} {V r m seed long now : Nat} {f g : Nat → Nat → Nat} (h : Wn n₀ w W bs V r m seed long now f g) (t : Int) (s : ByteArray) (n : Int) (ht : t < now ∨ 1099511627776 < t) :
    Calls Tryd.prog 28 #[.pointer (some ⟨V, 0, none⟩), .int .i64 t, .string s, .int .u64 n] W fun e w' => e = .returned (.int .u16 60) ∧ Below W.heap.size W w' := by
  have HT := Lib.hid (h.turn_no t ht)
  clear h ht
  go_enter Tryd.func28, Tryd.ntmps28
  go_wp2_with fail
  refine HT.out.mono ?_
  rintro e w1 ⟨rfl, hb⟩
  go_wp2_with fail
  go_ret
  exact ⟨rfl, hb⟩
set_option maxRecDepth 100000 in
theorem Wn.add {n₀ : Nat} {w W : World} {bs : List Nat} {V r m seed long now : Nat} {f g : Nat → Nat → Nat} (h : Wn n₀ w W bs V r m seed long now f g) (t : Nat) (s : ByteArray) (n : Nat) (h1 : now ≤ t) (h2 : t ≤ 1099511627776) (hs : s.size ≤ 9223372036854775807) (hn : n < 18446744073709551616) :
    Calls Tryd.prog 28 #[.pointer (some ⟨V, 0, none⟩), .int .i64 (t : Int), .string s, .int .u64 (n : Int)] W fun e w' => e = .returned (.int .u16 0) ∧ ∃ bs', Ext W bs bs' ∧ Mut bs W w' ∧ Wn n₀ w w' bs' V r m seed long t (addW (sd seed (t / long)) s m r n (tF long now t f)) (tG long now t f g) := by
  have HT := Lib.hid (h.turn t h1 h2)
  have HBN := Lib.hid h.bsn
  clear h h1 h2
  go_enter Tryd.func28, Tryd.ntmps28
  go_wp2_with fail
  refine HT.out.mono ?_
  rintro e w1 ⟨rfl, bs1, hx, hm, hw⟩
  obtain ⟨a, b, c, S, A, G, cv, tot, hi, v1, v2, v3, v4, v5, v6, v7⟩ := hw.k
  have q3 := hi.own.cell 3 rfl
  have hA := add_any s n w1 hw.steps hi.sk hs hn
  have HA := Lib.hid hA
  have HX := Lib.hid hx
  have HM := Lib.hid hm
  have HW := Lib.hid hw
  have HI := Lib.hid hi
  clear hx hm hw hi hA
  go_wp2_with fail
  refine HA.out.mono ?_
  rintro e w2 ⟨rfl, hm2, hk2⟩
  have hi := HI.out
  have va := hi.va
  have ka := hi.ka
  have hSG : ∀ k ∈ [S, G], k ∈ bs1 := by simp; exact ⟨v2, v3⟩
  have hend : Wn n₀ w w2 bs1 V r m seed long t (addW (sd seed (t / long)) s m r n (tF long now t f)) (tG long now t f g) := HW.out.of (hm2.wider hSG) (fun k hk => Or.inl hk) ⟨a, b, c, S, A, G, cv, _, { hi with
      own := hi.own.same (hm2.block _ hi.own.lt (by simp; omega))
      ba := hi.ba.same (hm2.block _ hi.ba.lt (by simp; omega))
      bb := hi.bb.same (hm2.block _ hi.bb.lt (by simp; omega))
      bc := hi.bc.same (hm2.block _ hi.bc.lt (by simp; omega))
      sk := hk2
      old := hi.old.mut hm2 (fun k hk => Or.inl (by simp at hk; rcases hk with rfl | rfl <;> simp)) }, v1, v2, v3, v4, v5, v6, v7⟩
  have hmut : Mut bs W w2 := by
    refine ⟨hm2.os.trans HM.out.os, hm2.tape.trans HM.out.tape, hm2.output.trans HM.out.output, Nat.le_trans HM.out.size hm2.size, fun k hk hn => ?_⟩
    have h1 : k ∉ [S, G] := fun x => by
      rcases HX.out k (hSG k x) with y | y
      · exact hn y
      · omega
    exact (hm2.block k (Nat.lt_of_lt_of_le hk HM.out.size) h1).trans (HM.out.block k hk hn)
  have HEND := Lib.hid hend
  have HMUT := Lib.hid hmut
  clear hend hmut hm2 hk2 hi va ka hSG
  go_wp2_with fail
  go_ret
  exact ⟨rfl, bs1, HX.out, HMUT.out, HEND.out⟩

set_option maxRecDepth 100000 in
theorem Wn.closed_no {n₀ : Nat} {w W : World} {bs : List Nat} {V r m seed long now : Nat} {f g : Nat → Nat → Nat} (h : Wn n₀ w W bs V r m seed long now f g) (t : Int) (s : ByteArray) (ht : t < now ∨ 1099511627776 < t) :
    Calls Tryd.prog 27 #[.pointer (some ⟨V, 0, none⟩), .int .i64 t, .string s] W fun e w' => e = .returned (.tuple #[.int .u64 0, .int .u16 60]) ∧ Below W.heap.size W w' := by
  have HT := Lib.hid (h.turn_no t ht)
  clear h ht
  go_enter Tryd.func27, Tryd.ntmps27
  go_wp2_with fail
  refine HT.out.mono ?_
  rintro e w1 ⟨rfl, hb⟩
  go_wp2_with fail
  go_ret2
  exact ⟨rfl, hb⟩
theorem below_self (W : World) {W' : World} (e : W = W') : Below W.heap.size W W' := e ▸ Below.refl _ _
theorem Mut.and_below {bs : List Nat} {W W1 W2 : World} (h : Mut bs W W1) (hb : Below W1.heap.size W1 W2) : Mut bs W W2 := h.trans (Mut.of_below hb)
set_option maxRecDepth 100000 in
theorem Wn.closed {n₀ : Nat} {w W : World} {bs : List Nat} {V r m seed long now : Nat} {f g : Nat → Nat → Nat} (h : Wn n₀ w W bs V r m seed long now f g) (t : Nat) (s : ByteArray) (h1 : now ≤ t) (h2 : t ≤ 1099511627776) (hs : s.size ≤ 9223372036854775807) :
    Calls Tryd.prog 27 #[.pointer (some ⟨V, 0, none⟩), .int .i64 (t : Int), .string s] W fun e w' => e = .returned (.tuple #[.int .u64 (told (sdL seed (t / long)) s m r (tG long now t f g) : Int), .int .u16 0]) ∧ ∃ bs', Ext W bs bs' ∧ Mut bs W w' ∧ Wn n₀ w w' bs' V r m seed long t (tF long now t f) (tG long now t f g) := by
  have HT := Lib.hid (h.turn t h1 h2)
  clear h h1 h2
  obtain ⟨x, hx⟩ : ∃ x, told (sdL seed (t / long)) s m r (tG long now t f g) = x := ⟨_, rfl⟩
  rw [hx]
  have HXX := Lib.hid hx
  clear hx
  go_enter Tryd.func27, Tryd.ntmps27
  go_wp2_with fail
  refine HT.out.mono ?_
  rintro e w1 ⟨rfl, bs1, hx, hm, hw⟩
  obtain ⟨a, b, c, S, A, G, cv, tot, hi, v1, v2, v3, v4, v5, v6, v7⟩ := hw.k
  have q4 := hi.own.cell 4 rfl
  have hold := hi.old
  have hr1 := hi.sk.r1
  have HX := Lib.hid hx
  have HM := Lib.hid hm
  have HW := Lib.hid hw
  clear hx hm hw hi
  rcases hold with ⟨rfl, hz⟩ | ⟨S2, A2, G2, tot2, rfl, hk2, _⟩
  · have hx0 : x = 0 := by rw [← HXX.out, hz]; exact told_Z hr1
    subst hx0
    clear hz
    go_wp2_with fail
    go_ret2
    exact ⟨rfl, bs1, HX.out, HM.out, HW.out⟩
  · have hC := count_any s w1 HW.out.steps hk2 hs
    have hxx : least (placeOf (sdL seed (t / long)) s.data.toList m) (tG long now t f g) r = x := HXX.out
    rw [hxx] at hC
    have HC := Lib.hid hC
    clear hk2 hC hxx
    go_wp2_with fail
    refine HC.out.mono ?_
    rintro e w2 ⟨rfl, hb2⟩
    have HEND := Lib.hid (HW.out.later hb2)
    have HMUT := Lib.hid (HM.out.and_below hb2)
    clear hb2
    go_wp2_with fail
    go_ret2
    exact ⟨rfl, bs1, HX.out, HMUT.out, HEND.out⟩

set_option maxRecDepth 100000 in
theorem wn_new {n₀ : Nat} {w W : World} (r m seed long : Nat) (hS : Steps w) (hlt : 2 < n₀) (hle : n₀ ≤ W.heap.size) (hb : Below n₀ w W) (r1 : 1 ≤ r) (r8 : r ≤ 8) (m1 : 1 ≤ m) (m2 : m ≤ 1024) (hs : seed < 18446744073709551616) (l1 : 1 ≤ long) (l2 : long ≤ 1099511627776) :
    Calls Tryd.prog 25 #[.int .i64 (r : Int), .int .i64 (m : Int), .int .u64 (seed : Int), .int .i64 (long : Int)] W fun e w' => ∃ bs V, e = .returned (.pointer (some ⟨V, 0, none⟩)) ∧ Below W.heap.size W w' ∧ (∀ k ∈ bs, W.heap.size ≤ k) ∧ Wn n₀ w w' bs V r m seed long 0 Z Z := by
  have d1 : decide ((long : Int) < 1) = false := by simp; omega
  have d2 : decide (1099511627776 < (long : Int)) = false := by simp; omega
  have b1 := blk_new W #[.int .i64 (r : Int)] 3
  have c1 := box_below (W := W) (.cells #[.int .i64 (r : Int)] 3)
  obtain ⟨W1, hW1⟩ : ∃ W1, W.alloc (.cells #[.int .i64 (r : Int)] 3) = W1 := ⟨_, rfl⟩
  have s1 : W1.heap.size = W.heap.size + 1 := by rw [← hW1, World.size_alloc]
  have b2 := blk_new W1 #[.int .i64 (m : Int)] 3
  have c2 := box_below (W := W1) (.cells #[.int .i64 (m : Int)] 3)
  obtain ⟨W2, hW2⟩ : ∃ W2, W1.alloc (.cells #[.int .i64 (m : Int)] 3) = W2 := ⟨_, rfl⟩
  have s2 : W2.heap.size = W.heap.size + 1 + 1 := by rw [← hW2, World.size_alloc, s1]
  have b3 := blk_new W2 #[.int .u64 (seed : Int)] 22
  have c3 := box_below (W := W2) (.cells #[.int .u64 (seed : Int)] 22)
  rw [hW1] at b1 c1
  rw [hW2, s1] at b2 c2
  rw [s2] at b3 c3
  obtain ⟨W3, hW3⟩ : ∃ W3, W2.alloc (.cells #[.int .u64 (seed : Int)] 22) = W3 := ⟨_, rfl⟩
  have s3 : W3.heap.size = W.heap.size + 1 + 1 + 1 := by rw [← hW3, World.size_alloc, s2]
  rw [hW3] at b3 c3
  have a1 := (b1.later (s1 ▸ c2)).later (s2 ▸ c3)
  have a2 := b2.later (s2 ▸ c3)
  have bb := (c1.trans (c2.mono (by omega))).trans (c3.mono (by omega))
  have HBEG := begin_any 0 a1 a2 b3 r1 r8 m1 m2 (by omega)
  have HEND := Lib.hid (show ∀ (W4 : World) (S A G : Nat), Below W3.heap.size W3 W4 → W3.heap.size ≤ S → W3.heap.size ≤ A → W3.heap.size ≤ G → Sk W4 S A G r m (sd seed 0) Z 0 →
      Below W.heap.size W (W4.alloc (.cells #[beginV W.heap.size (W.heap.size + 1) (W.heap.size + 1 + 1), .int .i64 (long : Int), .int .i64 0, .pointer (some ⟨S, 0, none⟩), .pointer none] 76)) ∧ (∀ k ∈ [W4.heap.size, W.heap.size, W.heap.size + 1, W.heap.size + 1 + 1, S, A, G], W.heap.size ≤ k) ∧
      Wn n₀ w (W4.alloc (.cells #[beginV W.heap.size (W.heap.size + 1) (W.heap.size + 1 + 1), .int .i64 (long : Int), .int .i64 0, .pointer (some ⟨S, 0, none⟩), .pointer none] 76)) [W4.heap.size, W.heap.size, W.heap.size + 1, W.heap.size + 1 + 1, S, A, G] W4.heap.size r m seed long 0 Z Z from fun W4 S A G h4 hS' hA' hG' hk => by
    have hz := h4.size
    have hbx := box_below (W := W4) (.cells #[beginV W.heap.size (W.heap.size + 1) (W.heap.size + 1 + 1), .int .i64 (long : Int), .int .i64 0, .pointer (some ⟨S, 0, none⟩), .pointer none] 76)
    have l1' := hk.own.lt
    have l2' := hk.ltA
    have l3' := hk.ltG
    have hbl : Below W.heap.size W (W4.alloc (.cells #[beginV W.heap.size (W.heap.size + 1) (W.heap.size + 1 + 1), .int .i64 (long : Int), .int .i64 0, .pointer (some ⟨S, 0, none⟩), .pointer none] 76)) := (bb.trans (h4.mono (by omega))).trans (hbx.mono (by omega))
    refine ⟨hbl, by simp; omega, { st := hS, lt := hlt, le := Nat.le_trans hle hbl.size, b := hb.trans (hbl.mono hle), bsn := ?_, k := ⟨W.heap.size, W.heap.size + 1, W.heap.size + 1 + 1, S, A, G, .pointer none, 0, ?_, by simp, by simp, by simp, by simp, by simp, by simp, by simp⟩ }⟩
    · intro k hk'
      rw [World.size_alloc]
      simp only [List.mem_cons, List.not_mem_nil, or_false] at hk'
      rcases hk' with rfl | rfl | rfl | rfl | rfl | rfl | rfl <;> omega
    · exact { own := blk_new _ _ _, ba := (a1.later h4).later hbx, bb := (a2.later h4).later hbx, bc := (b3.later h4).later hbx, sk := by rw [Nat.zero_div]; exact hk.later hbx, old := Or.inl ⟨rfl, rfl⟩, va := by omega, ka := by omega, l1 := l1, l2 := l2, t2 := by omega, s2 := hs })
  rw [← hW3, ← hW2, ← hW1] at HBEG HEND
  have HBEG := Lib.hid HBEG
  clear a1 a2 b3 bb s3 b1 b2 c1 c2 c3 hW1 hW2 hW3 s1 s2 hb hS
  go_enter Tryd.func25, Tryd.ntmps25
  go_wp2_with fail
  refine HBEG.out.mono ?_
  rintro e w4 ⟨S, A, G, rfl, h4, g1, g2, g3, hk⟩
  have HE := Lib.hid (HEND.out w4 S A G h4 g1 g2 g3 hk)
  clear h4 g1 g2 g3 hk
  go_wp2_with fail
  go_ret
  exact ⟨_, _, rfl, HE.out⟩
/-- There is none: of such rows, or of such whiles. -/
theorem wn_none {W : World} (r m : Int) (seed : Nat) (long : Int) (h : (r < 1 ∨ 8 < r ∨ m < 1 ∨ 1024 < m) ∨ (1 ≤ r ∧ r ≤ 8 ∧ 1 ≤ m ∧ m ≤ 1024 ∧ (long < 1 ∨ 1099511627776 < long))) :
    Calls Tryd.prog 25 #[.int .i64 r, .int .i64 m, .int .u64 (seed : Int), .int .i64 long] W fun e w' => e = .returned (.pointer none) ∧ Below W.heap.size W w' := by
  have b1 := blk_new W #[.int .i64 r] 3
  have c1 := box_below (W := W) (.cells #[.int .i64 r] 3)
  obtain ⟨W1, hW1⟩ : ∃ W1, W.alloc (.cells #[.int .i64 r] 3) = W1 := ⟨_, rfl⟩
  have s1 : W1.heap.size = W.heap.size + 1 := by rw [← hW1, World.size_alloc]
  have b2 := blk_new W1 #[.int .i64 m] 3
  have c2 := box_below (W := W1) (.cells #[.int .i64 m] 3)
  obtain ⟨W2, hW2⟩ : ∃ W2, W1.alloc (.cells #[.int .i64 m] 3) = W2 := ⟨_, rfl⟩
  have s2 : W2.heap.size = W.heap.size + 1 + 1 := by rw [← hW2, World.size_alloc, s1]
  have b3 := blk_new W2 #[.int .u64 (seed : Int)] 22
  have c3 := box_below (W := W2) (.cells #[.int .u64 (seed : Int)] 22)
  rw [hW1] at b1 c1
  rw [hW2, s1] at b2 c2
  rw [s2] at b3 c3
  obtain ⟨W3, hW3⟩ : ∃ W3, W2.alloc (.cells #[.int .u64 (seed : Int)] 22) = W3 := ⟨_, rfl⟩
  have s3 : W3.heap.size = W.heap.size + 1 + 1 + 1 := by rw [← hW3, World.size_alloc, s2]
  rw [hW3] at b3 c3
  have a1 := (b1.later (s1 ▸ c2)).later (s2 ▸ c3)
  have a2 := b2.later (s2 ▸ c3)
  have bb := (c1.trans (c2.mono (by omega))).trans (c3.mono (by omega))
  rcases h with h | ⟨r1, r8, m1, m2, h⟩
  · have HBEG := begin_no 0 a1 a2 b3 h (by omega)
    rw [← hW3, ← hW2, ← hW1] at HBEG bb
    have HBEG := Lib.hid HBEG
    have HBB := Lib.hid bb
    clear a1 a2 b3 bb s3 b1 b2 c1 c2 c3 hW1 hW2 hW3 s1 s2 h
    go_enter Tryd.func25, Tryd.ntmps25
    go_wp2_with fail
    refine HBEG.out.mono ?_
    rintro e w4 ⟨rfl, rfl⟩
    go_wp2_with fail
    go_ret
    exact ⟨rfl, HBB.out⟩
  · obtain ⟨r, rfl⟩ : ∃ n : Nat, r = n := ⟨r.toNat, by omega⟩
    obtain ⟨m, rfl⟩ : ∃ n : Nat, m = n := ⟨m.toNat, by omega⟩
    have HBEG := begin_any 0 a1 a2 b3 (by omega) (by omega) (by omega) (by omega) (by omega)
    have HBB := Lib.hid (fun W4 (h4 : Below W3.heap.size W3 W4) => bb.trans (h4.mono (by omega)))
    rw [← hW3, ← hW2, ← hW1] at HBEG HBB
    have HBEG := Lib.hid HBEG
    clear a1 a2 b3 bb s3 b1 b2 c1 c2 c3 hW1 hW2 hW3 s1 s2
    by_cases hl : long < 1
    · have d1 : decide (long < 1) = true := by simp; omega
      go_enter Tryd.func25, Tryd.ntmps25
      go_wp2_with fail
      refine HBEG.out.mono ?_
      rintro e w4 ⟨S, A, G, rfl, h4, g1, g2, g3, hk⟩
      have HE := Lib.hid (HBB.out _ h4)
      clear h4 g1 g2 g3 hk
      go_wp2_with fail
      go_ret
      exact ⟨rfl, HE.out⟩
    · have d1 : decide (long < 1) = false := by simp; omega
      have d2 : decide (1099511627776 < long) = true := by simp; omega
      go_enter Tryd.func25, Tryd.ntmps25
      go_wp2_with fail
      refine HBEG.out.mono ?_
      rintro e w4 ⟨S, A, G, rfl, h4, g1, g2, g3, hk⟩
      have HE := Lib.hid (HBB.out _ h4)
      clear h4 g1 g2 g3 hk
      go_wp2_with fail
      go_ret
      exact ⟨rfl, HE.out⟩
end Go.Proofs.YtkhbodlffhfmnaaDoor
