/-
  The program's window and the document's do the same: added to at any time, asked at any time.
-/
import Derived.Test.YtgaoggniaajflaaDoorWinDocAdd
import Derived.Test.YtgaoggniaajflaaDoorWinKnown
namespace Go.Proofs.YtgaoggniaajflaaDoor
open Go.RowKit Go.Proofs.HashMath Go.Proofs.SkMath

/-- What the document's call does on any of its windows that has counted f and g: it tells er, and has then counted f' and g'. -/
def DocDoes (call : Array Value → Array Value) (fn : Nat) (r m seed long q : Nat) (f g : Nat → Nat → Nat) (er q' sL' sT' : Nat) (f' g' : Nat → Nat → Nat) : Prop :=
  ∀ (bs : List Nat) (W : World) (cL ccL sL tL cT ccT sT tT : Nat), Doc bs W r m f g cL ccL tL cT ccT tT → (∀ k ∈ bs, k < W.heap.size) → sL = sdL seed (q / long) → sT = sd seed (q / long) →
    Calls Tryd.prog fn (call #[.int .i64 (r : Int), .int .i64 (m : Int), .int .u64 (seed : Int), .int .i64 (long : Int), .int .i64 (q : Int), .slice (some ⟨cL, 0, none⟩) r ccL, .int .i64 (m : Int), .int .u64 (sL : Int), .int .u64 (tL : Int), .slice (some ⟨cT, 0, none⟩) r ccT, .int .i64 (m : Int), .int .u64 (sT : Int), .int .u64 (tT : Int)]) W fun e w' => ∃ cL2 ccL2 tL2 cT2 ccT2 tT2 : Nat, e = .returned (.tuple #[.agg #[.int .i64 (r : Int), .int .i64 (m : Int), .int .u64 (seed : Int), .int .i64 (long : Int), .int .i64 (q' : Int), .slice (some ⟨cL2, 0, none⟩) r ccL2, .int .i64 (m : Int), .int .u64 (sL' : Int), .int .u64 (tL2 : Int), .slice (some ⟨cT2, 0, none⟩) r ccT2, .int .i64 (m : Int), .int .u64 (sT' : Int), .int .u64 (tT2 : Int)], .int .i64 (er : Int)]) ∧ Doc bs w' r m f' g' cL2 ccL2 tL2 cT2 ccT2 tT2 ∧ Below W.heap.size W w'
/-- What the program's call does on any window that has counted f and g. -/
def WinDoes (fn : Nat) (args : Array Value) (v : Value) (V r m seed long q : Nat) (f g : Nat → Nat → Nat) (q' : Nat) (f' g' : Nat → Nat → Nat) : Prop :=
  ∀ (n₀ : Nat) (w W : World) (bs : List Nat), Wn n₀ w W bs V r m seed long q f g → Calls Tryd.prog fn args W fun e w' => e = .returned v ∧ ∃ bs', Ext W bs bs' ∧ Mut bs W w' ∧ Wn n₀ w w' bs' V r m seed long q' f' g'

theorem add_does (V r m seed long q : Nat) (f g : Nat → Nat → Nat) (t : Int) (s : ByteArray) (n : Nat) (hs : s.size ≤ 9223372036854775807) (hn : n < 18446744073709551616) (hq : q ≤ 1099511627776) (r1 : 1 ≤ r) (r8 : r ≤ 8) (m1 : 1 ≤ m) (m2 : m ≤ 1024) (hl : 1 ≤ long) :
    ∃ (er q' sL' sT' : Nat) (f' g' : Nat → Nat → Nat), er ≤ 60 ∧ q' ≤ 1099511627776 ∧ sL' = sdL seed (q' / long) ∧ sT' = sd seed (q' / long) ∧
      DocDoes (fun v => #[.agg v, .int .i64 t, .string s, .int .u64 (n : Int)]) 14 r m seed long q f g er q' sL' sT' f' g' ∧
      WinDoes 9 #[.pointer (some ⟨V, 0, none⟩), .int .i64 t, .string s, .int .u64 (n : Int)] (.int .u16 (er : Int)) V r m seed long q f g q' f' g' := by
  by_cases h : t < q ∨ 1099511627776 < t
  · exact ⟨60, q, _, _, f, g, by omega, hq, rfl, rfl, fun bs W cL ccL sL tL cT ccT sT tT hd hbs eL eT => by
      rw [← eL, ← eT]
      exact (refWAdd_no r m seed long q cL ccL sL tL cT ccT sT tT t s n W h).mono fun e w' ⟨he, hb⟩ => ⟨_, _, _, _, _, _, he, hd.later hb, hb⟩, fun n₀ w W bs hw => (hw.add_no t s n h).mono fun e w' ⟨he, hb⟩ => ⟨he, bs, Ext.refl _ _, Mut.of_below hb, hw.later hb⟩⟩
  · obtain ⟨T, rfl⟩ : ∃ T : Nat, t = T := ⟨t.toNat, by omega⟩
    exact ⟨0, T, _, _, _, _, by omega, by omega, rfl, rfl, fun bs W cL ccL sL tL cT ccT sT tT hd hbs eL eT => refWAdd_any r m seed long q cL ccL sL tL cT ccT sT tT T s n W eL eT hd hbs r1 r8 m1 m2 (by omega) (by omega) hl hn hs, fun n₀ w W bs hw => hw.add T s n (by omega) (by omega) hs hn⟩

theorem at_does (V r m seed long q : Nat) (f g : Nat → Nat → Nat) (t : Int) (s : ByteArray) (hs : s.size ≤ 9223372036854775807) (hq : q ≤ 1099511627776) (r1 : 1 ≤ r) (r8 : r ≤ 8) (m1 : 1 ≤ m) (m2 : m ≤ 1024) (hl : 1 ≤ long) :
    ∃ (er q' sL' sT' x y : Nat) (f' g' : Nat → Nat → Nat), er ≤ 60 ∧ q' ≤ 1099511627776 ∧ sL' = sdL seed (q' / long) ∧ sT' = sd seed (q' / long) ∧ (er = 0 → x = told sL' s m r g' ∧ y = told sT' s m r f') ∧ (er ≠ 0 → x = 0 ∧ y = 0) ∧ x < 18446744073709551616 ∧ y < 18446744073709551616 ∧
      DocDoes (fun v => #[.agg v, .int .i64 t]) 15 r m seed long q f g er q' sL' sT' f' g' ∧
      WinDoes 12 #[.pointer (some ⟨V, 0, none⟩), .int .i64 t, .string s] (.tuple #[.int .u64 (x : Int), .int .u16 (er : Int)]) V r m seed long q f g q' f' g' ∧
      WinDoes 11 #[.pointer (some ⟨V, 0, none⟩), .int .i64 t, .string s] (.tuple #[.int .u64 (y : Int), .int .u16 (er : Int)]) V r m seed long q' f' g' q' f' g' := by
  by_cases h : t < q ∨ 1099511627776 < t
  · exact ⟨60, q, _, _, 0, 0, f, g, by omega, hq, rfl, rfl, by omega, fun _ => ⟨rfl, rfl⟩, by omega, by omega, fun bs W cL ccL sL tL cT ccT sT tT hd hbs eL eT => by
      rw [← eL, ← eT]
      exact (at_no r m seed long q cL ccL sL tL cT ccT sT tT t W h).mono fun e w' ⟨he, hb⟩ => ⟨_, _, _, _, _, _, he, hd.later hb, hb⟩, fun n₀ w W bs hw => (hw.closed_no t s h).mono fun e w' ⟨he, hb⟩ => ⟨he, bs, Ext.refl _ _, Mut.of_below hb, hw.later hb⟩, fun n₀ w W bs hw => (hw.open_no t s h).mono fun e w' ⟨he, hb⟩ => ⟨he, bs, Ext.refl _ _, Mut.of_below hb, hw.later hb⟩⟩
  · obtain ⟨T, rfl⟩ : ∃ T : Nat, t = T := ⟨t.toNat, by omega⟩
    refine ⟨0, T, _, _, _, _, _, _, by omega, by omega, rfl, rfl, fun _ => ⟨rfl, rfl⟩, fun h => absurd rfl h, told_lt _ _ _ _ _, told_lt _ _ _ _ _, fun bs W cL ccL sL tL cT ccT sT tT hd hbs eL eT => refAt_any r m seed long q cL ccL sL tL cT ccT sT tT T W eL eT hd hbs r1 r8 m1 m2 (by omega) (by omega) hl, fun n₀ w W bs hw => hw.closed T s (by omega) (by omega) hs, fun n₀ w W bs hw => ?_⟩
    have h := hw.open T s (Nat.le_refl _) (by omega) hs
    rw [tF_same, tG_same] at h
    exact h

/-- Both side by side; the document's lies in the variable nr. -/
def Bt (n0 : Nat) (w : World) (V r m seed long nr q : Nat) (f g : Nat → Nat → Nat) (bs : List Nat) (cL ccL sL tL cT ccT sT tT : Nat) (W : World) : Prop :=
  Wn n0 w W bs V r m seed long q f g ∧ Doc (nr :: bs) W r m f g cL ccL tL cT ccT tT ∧ Blk W nr #[.int .i64 (r : Int), .int .i64 (m : Int), .int .u64 (seed : Int), .int .i64 (long : Int), .int .i64 (q : Int), .slice (some ⟨cL, 0, none⟩) r ccL, .int .i64 (m : Int), .int .u64 (sL : Int), .int .u64 (tL : Int), .slice (some ⟨cT, 0, none⟩) r ccT, .int .i64 (m : Int), .int .u64 (sT : Int), .int .u64 (tT : Int)] 38 ∧ nr ∉ bs ∧ n0 ≤ nr ∧ sL = sdL seed (q / long) ∧ sT = sd seed (q / long)
theorem Bt.later {n0 : Nat} {w : World} {V r m seed long nr q : Nat} {f g : Nat → Nat → Nat} {bs : List Nat} {cL ccL sL tL cT ccT sT tT : Nat} {W W' : World} (h : Bt n0 w V r m seed long nr q f g bs cL ccL sL tL cT ccT sT tT W) (hb : Below W.heap.size W W') : Bt n0 w V r m seed long nr q f g bs cL ccL sL tL cT ccT sT tT W' :=
  ⟨h.1.later hb, h.2.1.later hb, h.2.2.1.later hb, h.2.2.2⟩
theorem ext_new {W : World} {bs : List Nat} {n : Nat} (h : W.heap.size ≤ n) : Ext W bs (n :: bs) := fun k hk => by
  rcases List.mem_cons.1 hk with e | e
  · exact Or.inr (e ▸ h)
  · exact Or.inl e
theorem Ext.cons {W : World} {bs bs' : List Nat} (h : Ext W bs bs') (n : Nat) : Ext W (n :: bs) (n :: bs') := fun k hk => by
  rcases List.mem_cons.1 hk with e | e
  · exact Or.inl (by simp [e])
  · rcases h k e with x | x
    · exact Or.inl (by simp [x])
    · exact Or.inr x
theorem Doc.turn {bs bs' : List Nat} {W W' : World} {r m nr : Nat} {f g : Nat → Nat → Nat} {cL ccL tL cT ccT tT : Nat} (h : Doc (nr :: bs) W r m f g cL ccL tL cT ccT tT) (hm : Mut bs W W') (hx : Ext W bs bs') : Doc (nr :: bs') W' r m f g cL ccL tL cT ccT tT :=
  h.step (hm.wider fun _ h => List.mem_cons_of_mem _ h) (hx.cons nr)
theorem Bt.lt {n0 : Nat} {w : World} {V r m seed long nr q : Nat} {f g : Nat → Nat → Nat} {bs : List Nat} {cL ccL sL tL cT ccT sT tT : Nat} {W : World} (h : Bt n0 w V r m seed long nr q f g bs cL ccL sL tL cT ccT sT tT W) : ∀ k ∈ nr :: bs, k < W.heap.size := fun k hk => by
  rcases List.mem_cons.1 hk with e | e
  · rw [e]; exact h.2.2.1.lt
  · exact (h.1.bsn k e).2
/-- The document's next window is stored. -/
theorem bt_store {n0 : Nat} {w W : World} {V r m seed long nr q : Nat} {f g : Nat → Nat → Nat} {bs : List Nat} {cL ccL sL tL cT ccT sT tT : Nat} {C : Array Value} (h1 : Wn n0 w W bs V r m seed long q f g) (h2 : Doc (nr :: bs) W r m f g cL ccL tL cT ccT tT) (h3 : Blk W nr C 38) (h4 : nr ∉ bs) (h5 : n0 ≤ nr) (h6 : sL = sdL seed (q / long)) (h7 : sT = sd seed (q / long)) :
    Bt n0 w V r m seed long nr q f g bs cL ccL sL tL cT ccT sT tT (W.setRow nr #[.int .i64 (r : Int), .int .i64 (m : Int), .int .u64 (seed : Int), .int .i64 (long : Int), .int .i64 (q : Int), .slice (some ⟨cL, 0, none⟩) r ccL, .int .i64 (m : Int), .int .u64 (sL : Int), .int .u64 (tL : Int), .slice (some ⟨cT, 0, none⟩) r ccT, .int .i64 (m : Int), .int .u64 (sT : Int), .int .u64 (tT : Int)]) := by
  have hm := Mut.setRow W nr #[.int .i64 (r : Int), .int .i64 (m : Int), .int .u64 (seed : Int), .int .i64 (long : Int), .int .i64 (q : Int), .slice (some ⟨cL, 0, none⟩) r ccL, .int .i64 (m : Int), .int .u64 (sL : Int), .int .u64 (tL : Int), .slice (some ⟨cT, 0, none⟩) r ccT, .int .i64 (m : Int), .int .u64 (sT : Int), .int .u64 (tT : Int)]
  exact ⟨h1.mut hm (by simp [h4, h5]), h2.step (hm.wider (by simp)) (Ext.refl _ _), setRow_heap _ _ _ _ _ _ h3, h4, h5, h6, h7⟩
/-- The program's window has turned. -/
theorem bt_turn {n0 : Nat} {w W W' : World} {V r m seed long nr q : Nat} {f g : Nat → Nat → Nat} {bs bs' : List Nat} {cL ccL sL tL cT ccT sT tT : Nat} (h2 : Doc (nr :: bs) W r m f g cL ccL tL cT ccT tT) (h3 : Blk W nr #[.int .i64 (r : Int), .int .i64 (m : Int), .int .u64 (seed : Int), .int .i64 (long : Int), .int .i64 (q : Int), .slice (some ⟨cL, 0, none⟩) r ccL, .int .i64 (m : Int), .int .u64 (sL : Int), .int .u64 (tL : Int), .slice (some ⟨cT, 0, none⟩) r ccT, .int .i64 (m : Int), .int .u64 (sT : Int), .int .u64 (tT : Int)] 38) (h4 : nr ∉ bs) (h5 : n0 ≤ nr) (h6 : sL = sdL seed (q / long)) (h7 : sT = sd seed (q / long)) (hx : Ext W bs bs') (hm : Mut bs W W') (hw : Wn n0 w W' bs' V r m seed long q f g) :
    Bt n0 w V r m seed long nr q f g bs' cL ccL sL tL cT ccT sT tT W' :=
  ⟨hw, h2.turn hm hx, h3.same (hm.block nr h3.lt h4), fun x => by
    rcases hx nr x with y | y
    · exact h4 y
    · have := h3.lt; omega, h5, h6, h7⟩
end Go.Proofs.YtgaoggniaajflaaDoor
