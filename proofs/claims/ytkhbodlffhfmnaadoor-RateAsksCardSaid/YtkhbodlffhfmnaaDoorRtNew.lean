/-
  A rate of a law's own, from world to world: made, or none.
-/
import Derived.Test.YtkhbodlffhfmnaaDoorRate
import Derived.Test.YtkhbodlffhfmnaaDoorWinTold
namespace Go.Proofs.YtkhbodlffhfmnaaDoor
open Go.RowKit Go.Proofs.HashMath Go.Proofs.SkMath Go.Proofs.RtMath

/-- In world W, which is as w was below n₀, there is this rate in block RT; its window's blocks are among bs. -/
def Rt (n₀ : Nat) (w W : World) (bs : List Nat) (RT V r m seed long now target : Nat) (f g : Nat → Nat → Nat) : Prop :=
  Wn n₀ w W bs V r m seed long now f g ∧ Blk W RT #[.pointer (some ⟨V, 0, none⟩), .int .u64 (target : Int)] 61 ∧ RT ∉ bs ∧ n₀ ≤ RT
theorem Rt.later {n₀ : Nat} {w W W' : World} {bs : List Nat} {RT V r m seed long now target : Nat} {f g : Nat → Nat → Nat} (h : Rt n₀ w W bs RT V r m seed long now target f g) (hb : Below W.heap.size W W') : Rt n₀ w W' bs RT V r m seed long now target f g :=
  ⟨h.1.later hb, h.2.1.later hb, h.2.2⟩
theorem Rt.mut {n₀ : Nat} {w W W' : World} {bs cs : List Nat} {RT V r m seed long now target : Nat} {f g : Nat → Nat → Nat} (h : Rt n₀ w W bs RT V r m seed long now target f g) (hm : Mut cs W W') (hs : ∀ k ∈ cs, (k ∉ bs ∧ n₀ ≤ k) ∧ k ≠ RT) : Rt n₀ w W' bs RT V r m seed long now target f g :=
  ⟨h.1.mut hm fun k hk => (hs k hk).1, h.2.1.same (hm.block _ h.2.1.lt fun hk => (hs _ hk).2 rfl), h.2.2⟩
theorem Rt.turn {n₀ : Nat} {w W W' : World} {bs bs' : List Nat} {RT V r m seed long now t target : Nat} {f g f' g' : Nat → Nat → Nat} (h : Rt n₀ w W bs RT V r m seed long now target f g) (hx : Ext W bs bs') (hm : Mut bs W W') (hw : Wn n₀ w W' bs' V r m seed long t f' g') : Rt n₀ w W' bs' RT V r m seed long t target f' g' :=
  ⟨hw, h.2.1.same (hm.block _ h.2.1.lt h.2.2.1), fun x => by
    rcases hx RT x with y | y
    · exact h.2.2.1 y
    · have := h.2.1.lt; omega, h.2.2.2⟩
theorem Rt.lt {n₀ : Nat} {w W : World} {bs : List Nat} {RT V r m seed long now target : Nat} {f g : Nat → Nat → Nat} (h : Rt n₀ w W bs RT V r m seed long now target f g) : ∀ k ∈ RT :: bs, k < W.heap.size := fun k hk => by
  rcases List.mem_cons.1 hk with e | e
  · rw [e]; exact h.2.1.lt
  · exact (h.1.bsn k e).2
theorem Rt.to {n₀ : Nat} {w W : World} {bs : List Nat} {RT V r m seed long now target : Nat} {f g f' g' : Nat → Nat → Nat} (h : Rt n₀ w W bs RT V r m seed long now target f g) (e1 : f = f') (e2 : g = g') : Rt n₀ w W bs RT V r m seed long now target f' g' := e1 ▸ e2 ▸ h
theorem Ext.trans {W W1 : World} {bs bs1 bs2 : List Nat} (h : Ext W bs bs1) (hz : W.heap.size ≤ W1.heap.size) (h2 : Ext W1 bs1 bs2) : Ext W bs bs2 := fun k hk => by
  rcases h2 k hk with x | x
  · exact h k x
  · exact Or.inr (by omega)
theorem Mut.ext {W W1 W2 : World} {bs bs1 : List Nat} (h : Mut bs W W1) (hx : Ext W bs bs1) (h2 : Mut bs1 W1 W2) : Mut bs W W2 :=
  ⟨h2.os.trans h.os, h2.tape.trans h.tape, h2.output.trans h.output, Nat.le_trans h.size h2.size, fun k hk hn => (h2.block k (Nat.lt_of_lt_of_le hk h.size) fun x => by
    rcases hx k x with y | y
    · exact hn y
    · omega).trans (h.block k hk hn)⟩

set_option maxRecDepth 100000 in
theorem rt_new {n₀ : Nat} {w W : World} (r m seed long target : Nat) (hS : Steps w) (hlt : 2 < n₀) (hle : n₀ ≤ W.heap.size) (hb : Below n₀ w W) (r1 : 1 ≤ r) (r8 : r ≤ 8) (m1 : 1 ≤ m) (m2 : m ≤ 1024) (hs : seed < 18446744073709551616) (l1 : 1 ≤ long) (l2 : long ≤ 1099511627776) (t1 : 1 ≤ target) :
    Calls Tryd.prog 16 #[.int .i64 (r : Int), .int .i64 (m : Int), .int .u64 (seed : Int), .int .i64 (long : Int), .int .u64 (target : Int)] W fun e w' => ∃ bs V RT, e = .returned (.pointer (some ⟨RT, 0, none⟩)) ∧ Below W.heap.size W w' ∧ (∀ k ∈ bs, W.heap.size ≤ k) ∧ Rt n₀ w w' bs RT V r m seed long 0 target Z Z := by
  have HN := Lib.hid (wn_new (n₀ := n₀) (w := w) (W := W) r m seed long hS hlt hle hb r1 r8 m1 m2 hs l1 l2)
  have d1 : ((target : Int) == 0) = false := by simp; omega
  clear hS hb
  go_enter Tryd.func16, Tryd.ntmps16
  go_wp2_with fail
  refine HN.out.mono ?_
  rintro e w1 ⟨bs, V, rfl, hb1, hbs, hw⟩
  have hx := box_below (W := w1) (.cells #[.pointer (some ⟨V, 0, none⟩), .int .u64 (target : Int)] 61)
  have HEND := Lib.hid (show Below W.heap.size W (w1.alloc (.cells #[.pointer (some ⟨V, 0, none⟩), .int .u64 (target : Int)] 61)) ∧ (∀ k ∈ bs, W.heap.size ≤ k) ∧ Rt n₀ w (w1.alloc (.cells #[.pointer (some ⟨V, 0, none⟩), .int .u64 (target : Int)] 61)) bs w1.heap.size V r m seed long 0 target Z Z from
    ⟨hb1.trans (hx.mono hb1.size), hbs, hw.later hx, blk_new _ _ _, fun hk => absurd (hw.bsn _ hk).2 (Nat.lt_irrefl _), Nat.le_trans hle hb1.size⟩)
  clear hx hb1 hbs hw
  go_wp2_with fail
  go_ret
  exact ⟨bs, V, _, rfl, HEND.out⟩
set_option maxRecDepth 100000 in
theorem rt_zero {W : World} (r m seed long : Nat) (hS : Steps W) (r1 : 1 ≤ r) (r8 : r ≤ 8) (m1 : 1 ≤ m) (m2 : m ≤ 1024) (hs : seed < 18446744073709551616) (l1 : 1 ≤ long) (l2 : long ≤ 1099511627776) :
    Calls Tryd.prog 16 #[.int .i64 (r : Int), .int .i64 (m : Int), .int .u64 (seed : Int), .int .i64 (long : Int), .int .u64 0] W fun e w' => e = .returned (.pointer none) ∧ Below W.heap.size W w' := by
  have HN := Lib.hid (wn_new (n₀ := W.heap.size) (w := W) (W := W) r m seed long hS hS.lt (Nat.le_refl _) (Below.refl _ _) r1 r8 m1 m2 hs l1 l2)
  clear hS
  go_enter Tryd.func16, Tryd.ntmps16
  go_wp2_with fail
  refine HN.out.mono ?_
  rintro e w1 ⟨bs, V, rfl, hb1, hbs, hw⟩
  have HB := Lib.hid hb1
  clear hb1 hbs hw
  go_wp2_with fail
  go_ret
  exact ⟨rfl, HB.out⟩
end Go.Proofs.YtkhbodlffhfmnaaDoor
