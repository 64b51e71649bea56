/-
  How a window lies in memory: its own block, what its closure captured, the sketch of the while that is open, that of the one ahead, if there is one.
-/
import Derived.Test.YtkhbodlffhfmnaaDoorSkOn
namespace Go.Proofs.YtkhbodlffhfmnaaDoor
open Go.RowKit Go.Proofs.HashMath Go.Proofs.SkMath

/-- The first place of a block. -/
def ptr (g : Nat) : Value := .pointer (some ⟨g, 0, none⟩)
/-- What makes a while's sketch: it captured rows, width and seed. -/
def beginV (a b c : Nat) : Value := .func (.func 35) #[] #[.pointer (some ⟨a, 0, none⟩), .pointer (some ⟨b, 0, none⟩), .pointer (some ⟨c, 0, none⟩)]
/-- The k-th while's seed; the one ahead's. -/
def sd (seed k : Nat) : Nat := (seed + k) % 18446744073709551616
def sdL (seed k : Nat) : Nat := (seed + k + 18446744073709551615) % 18446744073709551616
theorem sd_lt (seed k : Nat) : sd seed k < 18446744073709551616 := Nat.mod_lt _ (by omega)
theorem sdL_lt (seed k : Nat) : sdL seed k < 18446744073709551616 := Nat.mod_lt _ (by omega)
theorem sdL_succ (seed k : Nat) : sdL seed (k + 1) = sd seed k := by unfold sd sdL; omega

def Z : Nat → Nat → Nat := fun _ _ => 0
/-- The sketch of the while ahead: none, and nothing was counted; or one in blocks that are none of the first list, and all of the second. -/
def Old (W : World) (no bs : List Nat) (r m seed : Nat) (g : Nat → Nat → Nat) (cv : Value) : Prop :=
  (cv = .pointer none ∧ g = Z) ∨ ∃ S A G tot, cv = .pointer (some ⟨S, 0, none⟩) ∧ Sk W S A G r m seed g tot ∧ (S ∉ no ∧ A ∉ no ∧ G ∉ no) ∧ S ∈ bs ∧ A ∈ bs ∧ G ∈ bs
theorem Old.mut {W W' : World} {no bs cs : List Nat} {r m seed : Nat} {g : Nat → Nat → Nat} {cv : Value} (h : Old W no bs r m seed g cv) (hb : Mut cs W W') (hs : ∀ k ∈ cs, k ∈ no ∨ k ∉ bs) : Old W' no bs r m seed g cv := by
  rcases h with h | ⟨S, A, G, tot, e, hk, ⟨h1, h2, h3⟩, b1, b2, b3⟩
  · exact Or.inl h
  · have far : ∀ k, k ∉ no → k ∈ bs → k ∉ cs := fun k hn hb hc => by
      rcases hs k hc with x | x
      · exact hn x
      · exact x hb
    exact Or.inr ⟨S, A, G, tot, e, hk.mut hb (far S h1 b1) (far A h2 b2) (far G h3 b3), ⟨h1, h2, h3⟩, b1, b2, b3⟩

/-- A window in memory. -/
structure Wi (W : World) (V a b c S A G r m seed long now : Nat) (cv : Value) (f g : Nat → Nat → Nat) (tot : Nat) (bs : List Nat) : Prop where
  own : Blk W V #[beginV a b c, .int .i64 (long : Int), .int .i64 (now : Int), .pointer (some ⟨S, 0, none⟩), cv] 76
  ba : Blk W a #[.int .i64 (r : Int)] 3
  bb : Blk W b #[.int .i64 (m : Int)] 3
  bc : Blk W c #[.int .u64 (seed : Int)] 22
  sk : Sk W S A G r m (sd seed (now / long)) f tot
  old : Old W [V, S, G] bs r m (sdL seed (now / long)) g cv
  va : V ≠ a ∧ V ≠ b ∧ V ≠ c ∧ V ≠ S ∧ V ≠ A ∧ V ≠ G
  ka : S ≠ a ∧ S ≠ b ∧ S ≠ c ∧ G ≠ a ∧ G ≠ b ∧ G ≠ c
  l1 : 1 ≤ long
  l2 : long ≤ 1099511627776
  t2 : now ≤ 1099511627776
  s2 : seed < 18446744073709551616
theorem Wi.mut {W W' : World} {V a b c S A G r m seed long now tot : Nat} {cv : Value} {f g : Nat → Nat → Nat} {bs cs : List Nat} (h : Wi W V a b c S A G r m seed long now cv f g tot bs) (hb : Mut cs W W') (hs : ∀ k ∈ cs, k ∉ bs) (v : V ∈ bs ∧ S ∈ bs ∧ G ∈ bs ∧ a ∈ bs ∧ b ∈ bs ∧ c ∈ bs ∧ A ∈ bs) : Wi W' V a b c S A G r m seed long now cv f g tot bs :=
  { h with
    own := h.own.same (hb.block _ h.own.lt fun x => hs _ x v.1)
    ba := h.ba.same (hb.block _ h.ba.lt fun x => hs _ x v.2.2.2.1)
    bb := h.bb.same (hb.block _ h.bb.lt fun x => hs _ x v.2.2.2.2.1)
    bc := h.bc.same (hb.block _ h.bc.lt fun x => hs _ x v.2.2.2.2.2.1)
    sk := h.sk.mut hb (fun x => hs _ x v.2.1) (fun x => hs _ x v.2.2.2.2.2.2) (fun x => hs _ x v.2.2.1)
    old := h.old.mut hb fun k hk => Or.inr (hs k hk) }

/-- In world W, which is as w was below n₀, there is this window, whose blocks are among bs. -/
structure Wn (n₀ : Nat) (w W : World) (bs : List Nat) (V r m seed long now : Nat) (f g : Nat → Nat → Nat) : Prop where
  st : Steps w
  lt : 2 < n₀
  le : n₀ ≤ W.heap.size
  b : Below n₀ w W
  bsn : ∀ k ∈ bs, n₀ ≤ k ∧ k < W.heap.size
  k : ∃ a b c S A G cv tot, Wi W V a b c S A G r m seed long now cv f g tot bs ∧ V ∈ bs ∧ S ∈ bs ∧ G ∈ bs ∧ a ∈ bs ∧ b ∈ bs ∧ c ∈ bs ∧ A ∈ bs
theorem Wn.steps {n₀ : Nat} {w W : World} {bs : List Nat} {V r m seed long now : Nat} {f g : Nat → Nat → Nat} (h : Wn n₀ w W bs V r m seed long now f g) : Steps W := h.st.below h.lt h.b
theorem Wn.mut {n₀ : Nat} {w W W' : World} {bs cs : List Nat} {V r m seed long now : Nat} {f g : Nat → Nat → Nat} (h : Wn n₀ w W bs V r m seed long now f g) (hm : Mut cs W W') (hs : ∀ k ∈ cs, k ∉ bs ∧ n₀ ≤ k) : Wn n₀ w W' bs V r m seed long now f g :=
  { h with
    le := Nat.le_trans h.le hm.size
    b := h.b.trans (hm.below h.le fun k hk => (hs k hk).2)
    bsn := fun k hk => ⟨(h.bsn k hk).1, Nat.lt_of_lt_of_le (h.bsn k hk).2 hm.size⟩
    k := by
      obtain ⟨a, b, c, S, A, G, cv, tot, hi, h1⟩ := h.k
      exact ⟨a, b, c, S, A, G, cv, tot, hi.mut hm (fun k hk => (hs k hk).1) h1, h1⟩ }
theorem Wn.later {n₀ : Nat} {w W W' : World} {bs : List Nat} {V r m seed long now : Nat} {f g : Nat → Nat → Nat} (h : Wn n₀ w W bs V r m seed long now f g) (hb : Below W.heap.size W W') : Wn n₀ w W' bs V r m seed long now f g :=
  h.mut (cs := []) (Mut.of_below hb) (by simp)
/-- The blocks of a later list are of the elder one, or new. -/
def Ext (W : World) (bs bs' : List Nat) : Prop := ∀ k ∈ bs', k ∈ bs ∨ W.heap.size ≤ k
theorem Ext.refl (W : World) (bs : List Nat) : Ext W bs bs := fun _ h => Or.inl h

/-- What is counted in the open while, and in the one ahead, at a later time. -/
def tF (long now t : Nat) (f : Nat → Nat → Nat) : Nat → Nat → Nat := if t / long = now / long then f else Z
def tG (long now t : Nat) (f g : Nat → Nat → Nat) : Nat → Nat → Nat := if t / long = now / long then g else if t / long = now / long + 1 then f else Z

set_option maxRecDepth 100000 in
set_option maxHeartbeats 1000000 in
theorem begin_any {W : World} {a b c r m seed : Nat} (k : Nat) (ha : Blk W a #[.int .i64 (r : Int)] 3) (hb : Blk W b #[.int .i64 (m : Int)] 3) (hc : Blk W c #[.int .u64 (seed : Int)] 22) (r1 : 1 ≤ r) (r8 : r ≤ 8) (m1 : 1 ≤ m) (m2 : m ≤ 1024) (hk : k ≤ 1099511627776) :
    Calls Tryd.prog 35 #[.int .i64 (k : Int), .pointer (some ⟨a, 0, none⟩), .pointer (some ⟨b, 0, none⟩), .pointer (some ⟨c, 0, none⟩)] W fun e w' => ∃ S A G, e = .returned (.pointer (some ⟨S, 0, none⟩)) ∧ Below W.heap.size W w' ∧ W.heap.size ≤ S ∧ W.heap.size ≤ A ∧ W.heap.size ≤ G ∧ Sk w' S A G r m (sd seed k) Z 0 := by
  have HN := Lib.hid (fun W => new_any r m (sd seed k) W r1 r8 m1 m2 (sd_lt _ _))
  have qa := ha.cell 0 rfl
  have qb := hb.cell 0 rfl
  have qc := hc.cell 0 rfl
  have e1 : IntKind.u64.wrap (k : Int) = (k : Int) := by rw [IntKind.wrap_u64]; omega
  have e2 : IntKind.u64.wrap ((seed : Int) + (k : Int)) = (sd seed k : Int) := by rw [IntKind.wrap_u64]; unfold sd; omega
  obtain ⟨x, hx⟩ : ∃ x, sd seed k = x := ⟨_, rfl⟩
  rw [hx] at HN e2 ⊢
  clear ha hb hc hx
  go_enter Tryd.func35, Tryd.ntmps35
  go_wp2_with fail
  refine (HN.out _).mono ?_
  rintro e w1 ⟨S, A, G, rfl, h⟩
  have H := Lib.hid h
  clear h
  go_wp2_with fail
  go_ret
  exact ⟨S, A, G, rfl, H.out⟩
/-- There is none of such rows. -/
theorem begin_no {W : World} {a b c : Nat} {r m : Int} {seed : Nat} (k : Nat) (ha : Blk W a #[.int .i64 r] 3) (hb : Blk W b #[.int .i64 m] 3) (hc : Blk W c #[.int .u64 (seed : Int)] 22) (h : r < 1 ∨ 8 < r ∨ m < 1 ∨ 1024 < m) (hk : k ≤ 1099511627776) :
    Calls Tryd.prog 35 #[.int .i64 (k : Int), .pointer (some ⟨a, 0, none⟩), .pointer (some ⟨b, 0, none⟩), .pointer (some ⟨c, 0, none⟩)] W fun e w' => e = .returned (.pointer none) ∧ W = w' := by
  have HN := Lib.hid (fun s W => new_no r m s W h)
  have qa := ha.cell 0 rfl
  have qb := hb.cell 0 rfl
  have qc := hc.cell 0 rfl
  have e1 : IntKind.u64.wrap (k : Int) = (k : Int) := by rw [IntKind.wrap_u64]; omega
  clear ha hb hc h
  go_enter Tryd.func35, Tryd.ntmps35
  go_wp2_with fail
  refine (HN.out _ _).mono ?_
  rintro e w1 ⟨rfl, rfl⟩
  go_wp2_with fail
  go_ret
  exact ⟨rfl, rfl⟩
end Go.Proofs.YtkhbodlffhfmnaaDoor
