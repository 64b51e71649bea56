/-
  The program's rate and the document's do the same, whatever the time.
-/
import Derived.Test.YtkhbodlffhfmnaaDoorRtAsk
import Derived.Test.YtkhbodlffhfmnaaDoorRtRefAsk
import Derived.Test.YtkhbodlffhfmnaaDoorWinDoes
namespace Go.Proofs.YtkhbodlffhfmnaaDoor
open Go.RowKit Go.Proofs.HashMath Go.Proofs.SkMath Go.Proofs.RtMath

/-- What the document's Ask does on any of its rates that has counted f and g. -/
def DocAsk (t : Int) (s : ByteArray) (r m seed long tg q : Nat) (f g : Nat → Nat → Nat) (x er q2 sL2 sT2 : Nat) (f' g' : Nat → Nat → Nat) : Prop :=
  ∀ (bs : List Nat) (W : World) (cL ccL sL tL cT ccT sT tT : Nat), Doc bs W r m f g cL ccL tL cT ccT tT → (∀ k ∈ bs, k < W.heap.size) → sL = sdL seed (q / long) → sT = sd seed (q / long) →
    Calls Tryd.prog 20 #[.agg #[.int .i64 (r : Int), .int .i64 (m : Int), .int .u64 (seed : Int), .int .i64 (long : Int), .int .i64 (q : Int), .slice (some ⟨cL, 0, none⟩) r ccL, .int .i64 (m : Int), .int .u64 (sL : Int), .int .u64 (tL : Int), .slice (some ⟨cT, 0, none⟩) r ccT, .int .i64 (m : Int), .int .u64 (sT : Int), .int .u64 (tT : Int), .int .u64 (tg : Int)], .int .i64 t, .string s] W fun e w' => ∃ cL2 ccL2 tL2 cT2 ccT2 tT2 : Nat, e = .returned (.tuple #[.agg #[.int .i64 (r : Int), .int .i64 (m : Int), .int .u64 (seed : Int), .int .i64 (long : Int), .int .i64 (q2 : Int), .slice (some ⟨cL2, 0, none⟩) r ccL2, .int .i64 (m : Int), .int .u64 (sL2 : Int), .int .u64 (tL2 : Int), .slice (some ⟨cT2, 0, none⟩) r ccT2, .int .i64 (m : Int), .int .u64 (sT2 : Int), .int .u64 (tT2 : Int), .int .u64 (tg : Int)], .int .u64 (x : Int), .int .i64 (er : Int)]) ∧ Doc bs w' r m f' g' cL2 ccL2 tL2 cT2 ccT2 tT2 ∧ Below W.heap.size W w'
/-- What the program's Ask does on any rate that has counted f and g. -/
def RtAsk (t : Int) (s : ByteArray) (RT V r m seed long tg q : Nat) (f g : Nat → Nat → Nat) (x er q2 : Nat) (f' g' : Nat → Nat → Nat) : Prop :=
  ∀ (n₀ : Nat) (w W : World) (bs : List Nat), Rt n₀ w W bs RT V r m seed long q tg f g → Calls Tryd.prog 18 #[.pointer (some ⟨RT, 0, none⟩), .int .i64 t, .string s] W fun e w' => e = .returned (.tuple #[.int .u64 (x : Int), .int .u16 (er : Int)]) ∧ ∃ bs', Ext W bs bs' ∧ Mut bs W w' ∧ Rt n₀ w w' bs' RT V r m seed long q2 tg f' g'

theorem ask_does (RT V r m seed long tg q : Nat) (f g : Nat → Nat → Nat) (t : Int) (s : ByteArray) (hs : s.size ≤ 9223372036854775807) (hq : q ≤ 1099511627776) (r1 : 1 ≤ r) (r8 : r ≤ 8) (m1 : 1 ≤ m) (m2 : m ≤ 1024) (hl : 1 ≤ long) :
    ∃ (er q2 sL2 sT2 x : Nat) (f' g' : Nat → Nat → Nat), er ≤ 60 ∧ q2 ≤ 1099511627776 ∧ x ≤ 72057594037927936 ∧ sL2 = sdL seed (q2 / long) ∧ sT2 = sd seed (q2 / long) ∧ DocAsk t s r m seed long tg q f g x er q2 sL2 sT2 f' g' ∧ RtAsk t s RT V r m seed long tg q f g x er q2 f' g' := by
  by_cases h : t < q ∨ 1099511627776 < t
  · exact ⟨60, q, _, _, 0, f, g, by omega, hq, by omega, rfl, rfl, fun bs W cL ccL sL tL cT ccT sT tT hd hbs eL eT => by
      rw [← eL, ← eT]
      exact (rask_no r m seed long q cL ccL sL tL cT ccT sT tT tg t s W h).mono fun e w' ⟨he, hb⟩ => ⟨_, _, _, _, _, _, he, hd.later hb, hb⟩, fun n₀ w W bs hr => (hr.ask_no t s h).mono fun e w' ⟨he, hb⟩ => ⟨he, bs, Ext.refl _ _, Mut.of_below hb, hr.later hb⟩⟩
  · obtain ⟨T, rfl⟩ : ∃ T : Nat, t = T := ⟨t.toNat, by omega⟩
    exact ⟨0, T, _, _, _, _, _, by omega, by omega, byN_le _ _, rfl, rfl, fun bs W cL ccL sL tL cT ccT sT tT hd hbs eL eT => rask_any r m seed long q cL ccL sL tL cT ccT sT tT tg T s W eL eT hd hbs r1 r8 m1 m2 (by omega) (by omega) hl hs, fun n₀ w W bs hr => hr.ask T s (by omega) (by omega) hs⟩

/-- Both side by side; the document's lies in the variable nr. -/
structure Bp (n0 : Nat) (w : World) (RT V r m seed long tg nr qp : Nat) (fp gp : Nat → Nat → Nat) (q : Nat) (f g : Nat → Nat → Nat) (bs : List Nat) (cL ccL sL tL cT ccT sT tT : Nat) (W : World) : Prop where
  p : Rt n0 w W bs RT V r m seed long qp tg fp gp
  d : Doc (nr :: bs) W r m f g cL ccL tL cT ccT tT
  b : Blk W nr #[.int .i64 (r : Int), .int .i64 (m : Int), .int .u64 (seed : Int), .int .i64 (long : Int), .int .i64 (q : Int), .slice (some ⟨cL, 0, none⟩) r ccL, .int .i64 (m : Int), .int .u64 (sL : Int), .int .u64 (tL : Int), .slice (some ⟨cT, 0, none⟩) r ccT, .int .i64 (m : Int), .int .u64 (sT : Int), .int .u64 (tT : Int), .int .u64 (tg : Int)] 42
  n1 : nr ∉ bs
  n2 : nr ≠ RT
  n3 : n0 ≤ nr
  eL : sL = sdL seed (q / long)
  eT : sT = sd seed (q / long)
variable {n0 : Nat} {w : World} {RT V r m seed long tg nr qp : Nat} {fp gp : Nat → Nat → Nat} {q : Nat} {f g : Nat → Nat → Nat} {bs : List Nat} {cL ccL sL tL cT ccT sT tT : Nat} {W W' : World}
theorem Bp.later (h : Bp n0 w RT V r m seed long tg nr qp fp gp q f g bs cL ccL sL tL cT ccT sT tT W) (hb : Below W.heap.size W W') : Bp n0 w RT V r m seed long tg nr qp fp gp q f g bs cL ccL sL tL cT ccT sT tT W' :=
  { h with p := h.p.later hb, d := h.d.later hb, b := h.b.later hb }
theorem Bp.lt (h : Bp n0 w RT V r m seed long tg nr qp fp gp q f g bs cL ccL sL tL cT ccT sT tT W) : ∀ k ∈ nr :: bs, k < W.heap.size := fun k hk => by
  rcases List.mem_cons.1 hk with e | e
  · rw [e]; exact h.b.lt
  · exact (h.p.1.bsn k e).2
/-- The program's rate was asked. -/
theorem Bp.turn {bs' : List Nat} {qp' : Nat} {fp' gp' : Nat → Nat → Nat} (h : Bp n0 w RT V r m seed long tg nr qp fp gp q f g bs cL ccL sL tL cT ccT sT tT W) (hx : Ext W bs bs') (hm : Mut bs W W') (hr : Rt n0 w W' bs' RT V r m seed long qp' tg fp' gp') : Bp n0 w RT V r m seed long tg nr qp' fp' gp' q f g bs' cL ccL sL tL cT ccT sT tT W' :=
  { h with
    p := hr
    d := h.d.step (hm.wider fun _ h => List.mem_cons_of_mem _ h) (fun k hk => by
      rcases List.mem_cons.1 hk with e | e
      · exact Or.inl (by simp [e])
      · rcases hx k e with x | x
        · exact Or.inl (by simp [x])
        · exact Or.inr x)
    b := h.b.same (hm.block nr h.b.lt h.n1)
    n1 := fun x => by
      rcases hx nr x with y | y
      · exact h.n1 y
      · have := h.b.lt; omega }
/-- The document's next rate is stored. -/
theorem Bp.store {q2 : Nat} {f' g' : Nat → Nat → Nat} {cL2 ccL2 sL2 tL2 cT2 ccT2 sT2 tT2 : Nat} (h : Bp n0 w RT V r m seed long tg nr qp fp gp q f g bs cL ccL sL tL cT ccT sT tT W) (hd : Doc (nr :: bs) W r m f' g' cL2 ccL2 tL2 cT2 ccT2 tT2) (e1 : sL2 = sdL seed (q2 / long)) (e2 : sT2 = sd seed (q2 / long)) :
    Bp n0 w RT V r m seed long tg nr qp fp gp q2 f' g' bs cL2 ccL2 sL2 tL2 cT2 ccT2 sT2 tT2 (W.setRow nr #[.int .i64 (r : Int), .int .i64 (m : Int), .int .u64 (seed : Int), .int .i64 (long : Int), .int .i64 (q2 : Int), .slice (some ⟨cL2, 0, none⟩) r ccL2, .int .i64 (m : Int), .int .u64 (sL2 : Int), .int .u64 (tL2 : Int), .slice (some ⟨cT2, 0, none⟩) r ccT2, .int .i64 (m : Int), .int .u64 (sT2 : Int), .int .u64 (tT2 : Int), .int .u64 (tg : Int)]) :=
  { h with
    p := h.p.mut (Mut.setRow W nr _) (by simp [h.n1, h.n2, h.n3])
    d := hd.step ((Mut.setRow W nr _).wider (by simp)) (Ext.refl _ _)
    b := setRow_heap _ _ _ _ _ _ h.b
    eL := e1
    eT := e2 }
/-- A block that is new behind W, for the document's next rate; all else is as it was in W. -/
structure Fr (n nr : Nat) (bs : List Nat) (r m : Nat) (f g : Nat → Nat → Nat) (cL ccL tL cT ccT tT : Nat) (W W' : World) : Prop where
  b : Blk W' n #[.int .i64 0, .int .i64 0, .int .u64 0, .int .i64 0, .int .i64 0, .slice none 0 0, .int .i64 0, .int .u64 0, .int .u64 0, .slice none 0 0, .int .i64 0, .int .u64 0, .int .u64 0, .int .u64 0] 42
  d : Doc (n :: nr :: bs) W' r m f g cL ccL tL cT ccT tT
  lt : ∀ k ∈ n :: nr :: bs, k < W'.heap.size
  w : Below W.heap.size W W'
theorem Fr.later {n : Nat} {W'' : World} (h : Fr n nr bs r m f g cL ccL tL cT ccT tT W W') (hb : Below W'.heap.size W' W'') : Fr n nr bs r m f g cL ccL tL cT ccT tT W W'' :=
  { b := h.b.later hb, d := h.d.later hb, lt := fun k hk => Nat.lt_of_lt_of_le (h.lt k hk) hb.size, w := h.w.trans (hb.mono h.w.size) }
theorem Bp.fresh (h : Bp n0 w RT V r m seed long tg nr qp fp gp q f g bs cL ccL sL tL cT ccT sT tT W) : Fr W.heap.size nr bs r m f g cL ccL tL cT ccT tT W (W.alloc (.cells #[.int .i64 0, .int .i64 0, .int .u64 0, .int .i64 0, .int .i64 0, .slice none 0 0, .int .i64 0, .int .u64 0, .int .u64 0, .slice none 0 0, .int .i64 0, .int .u64 0, .int .u64 0, .int .u64 0] 42)) :=
  { b := blk_new W _ _
    d := h.d.step (Mut.of_below (box_below _)) (ext_cons (Nat.le_refl _))
    lt := fun k hk => by
      rw [World.size_alloc]
      rcases List.mem_cons.1 hk with e | e
      · omega
      · have := h.lt k e; omega
    w := box_below _ }
end Go.Proofs.YtkhbodlffhfmnaaDoor
