/-
  The document's window as it lies, in blocks that are none of the program's window's; what At tells at any time.
-/
import Derived.Test.YtkhbodlffhfmnaaDoorWinAt
import Derived.Test.YtkhbodlffhfmnaaDoorWinAtFar
namespace Go.Proofs.YtkhbodlffhfmnaaDoor
open Go.RowKit Go.Proofs.HashMath Go.Proofs.SkMath

/-- The document's sketch, in blocks that are none of these. -/
def RefA (bs : List Nat) (W : World) (c cc r m : Nat) (f : Nat → Nat → Nat) : Prop :=
  (c ∉ bs ∧ c < W.heap.size) ∧ r ≤ cc ∧ cc ≤ 9223372036854775807 ∧ ∀ i, i < r → ∃ g ci, W.cell? ⟨c, i, none⟩ = some (.slice (some ⟨g, 0, none⟩) m ci) ∧ (g ∉ bs ∧ g < W.heap.size) ∧ m ≤ ci ∧ ci ≤ 9223372036854775807 ∧ ∀ j, j < m → W.cell? ⟨g, j, none⟩ = some (n64 (f i j))
theorem RefA.refS {bs : List Nat} {W : World} {c cc r m : Nat} {f : Nat → Nat → Nat} (h : RefA bs W c cc r m f) : RefS 0 W.heap.size W c cc r m f := by
  obtain ⟨h1, h2, h3, h4⟩ := h
  refine ⟨⟨Nat.zero_le _, h1.2⟩, h2, h3, fun i hi => ?_⟩
  obtain ⟨g, ci, e1, e2, e3, e4, e5⟩ := h4 i hi
  exact ⟨g, ci, e1, ⟨Nat.zero_le _, e2.2⟩, e3, e4, e5⟩
theorem RefS.refA {bs : List Nat} {lo n₀ : Nat} {W : World} {c cc r m : Nat} {f : Nat → Nat → Nat} (h : RefS lo n₀ W c cc r m f) (hn : n₀ ≤ W.heap.size) (hb : ∀ k ∈ bs, k < lo) : RefA bs W c cc r m f := by
  obtain ⟨h1, h2, h3, h4⟩ := h
  have far : ∀ k, lo ≤ k → k ∉ bs := fun k hk hm => by have := hb k hm; omega
  refine ⟨⟨far c h1.1, by omega⟩, h2, h3, fun i hi => ?_⟩
  obtain ⟨g, ci, e1, e2, e3, e4, e5⟩ := h4 i hi
  exact ⟨g, ci, e1, ⟨far g e2.1, by omega⟩, e3, e4, e5⟩
theorem RefA.step {bs bs' : List Nat} {W W' : World} {c cc r m : Nat} {f : Nat → Nat → Nat} (h : RefA bs W c cc r m f) (hm : Mut bs W W') (hx : Ext W bs bs') : RefA bs' W' c cc r m f := by
  obtain ⟨h1, h2, h3, h4⟩ := h
  have far : ∀ k, k ∉ bs → k < W.heap.size → k ∉ bs' := fun k hk hl hm => by
    rcases hx k hm with x | x
    · exact hk x
    · omega
  have hz := hm.size
  refine ⟨⟨far c h1.1 h1.2, by omega⟩, h2, h3, fun i hi => ?_⟩
  obtain ⟨g, ci, e1, e2, e3, e4, e5⟩ := h4 i hi
  exact ⟨g, ci, (World.cell?_of_block (w := W) (a := ⟨c, i, none⟩) (hm.block c h1.2 h1.1)).trans e1, ⟨far g e2.1 e2.2, by omega⟩, e3, e4, fun j hj => (World.cell?_of_block (w := W) (a := ⟨g, j, none⟩) (hm.block g e2.2 e2.1)).trans (e5 j hj)⟩
theorem RefA.sub {bs bs' : List Nat} {W : World} {c cc r m : Nat} {f : Nat → Nat → Nat} (h : RefA bs W c cc r m f) (hs : ∀ k ∈ bs', k ∈ bs) : RefA bs' W c cc r m f := by
  obtain ⟨h1, h2, h3, h4⟩ := h
  refine ⟨⟨fun x => h1.1 (hs _ x), h1.2⟩, h2, h3, fun i hi => ?_⟩
  obtain ⟨g, ci, e1, e2, e3, e4, e5⟩ := h4 i hi
  exact ⟨g, ci, e1, ⟨fun x => e2.1 (hs _ x), e2.2⟩, e3, e4, e5⟩

/-- The document's window, whose open sketch has counted f, the one ahead g. -/
structure Doc (bs : List Nat) (W : World) (r m : Nat) (f g : Nat → Nat → Nat) (cL ccL tL cT ccT tT : Nat) : Prop where
  l : RefA bs W cL ccL r m g
  t : RefA bs W cT ccT r m f
  lL : tL < 18446744073709551616
  lT : tT < 18446744073709551616
  fl : ∀ i j, f i j < 18446744073709551616
  gl : ∀ i j, g i j < 18446744073709551616
theorem Doc.step {bs bs' : List Nat} {W W' : World} {r m : Nat} {f g : Nat → Nat → Nat} {cL ccL tL cT ccT tT : Nat} (h : Doc bs W r m f g cL ccL tL cT ccT tT) (hm : Mut bs W W') (hx : Ext W bs bs') : Doc bs' W' r m f g cL ccL tL cT ccT tT :=
  { h with l := h.l.step hm hx, t := h.t.step hm hx }
theorem Doc.later {bs : List Nat} {W W' : World} {r m : Nat} {f g : Nat → Nat → Nat} {cL ccL tL cT ccT tT : Nat} (h : Doc bs W r m f g cL ccL tL cT ccT tT) (hb : Below W.heap.size W W') : Doc bs W' r m f g cL ccL tL cT ccT tT := h.step (Mut.of_below hb) (Ext.refl _ _)
theorem Doc.sub {bs bs' : List Nat} {W : World} {r m : Nat} {f g : Nat → Nat → Nat} {cL ccL tL cT ccT tT : Nat} (h : Doc bs W r m f g cL ccL tL cT ccT tT) (hs : ∀ k ∈ bs', k ∈ bs) : Doc bs' W r m f g cL ccL tL cT ccT tT :=
  { h with l := h.l.sub hs, t := h.t.sub hs }

theorem refAt_any {bs : List Nat} {f g : Nat → Nat → Nat} (r m seed long now cL ccL sL tL cT ccT sT tT : Nat) (t : Nat) (w : World) (eL : sL = sdL seed (now / long)) (eT : sT = sd seed (now / long)) (hd : Doc bs w r m f g cL ccL tL cT ccT tT) (hbs : ∀ k ∈ bs, k < w.heap.size) (r1 : 1 ≤ r) (r8 : r ≤ 8) (m1 : 1 ≤ m) (m2 : m ≤ 1024) (h1 : now ≤ t) (h2 : t ≤ 1099511627776) (hl : 1 ≤ long) :
    Calls Tryd.prog 29 #[.agg #[.int .i64 (r : Int), .int .i64 (m : Int), .int .u64 (seed : Int), .int .i64 (long : Int), .int .i64 (now : Int), .slice (some ⟨cL, 0, none⟩) r ccL, .int .i64 (m : Int), .int .u64 (sL : Int), .int .u64 (tL : Int), .slice (some ⟨cT, 0, none⟩) r ccT, .int .i64 (m : Int), .int .u64 (sT : Int), .int .u64 (tT : Int)], .int .i64 (t : Int)] w fun e w' => ∃ cL2 ccL2 tL2 cT2 ccT2 tT2 : Nat, e = .returned (.tuple #[.agg #[.int .i64 (r : Int), .int .i64 (m : Int), .int .u64 (seed : Int), .int .i64 (long : Int), .int .i64 (t : Int), .slice (some ⟨cL2, 0, none⟩) r ccL2, .int .i64 (m : Int), .int .u64 (sdL seed (t / long) : Int), .int .u64 (tL2 : Int), .slice (some ⟨cT2, 0, none⟩) r ccT2, .int .i64 (m : Int), .int .u64 (sd seed (t / long) : Int), .int .u64 (tT2 : Int)], .int .i64 0]) ∧ Doc bs w' r m (tF long now t f) (tG long now t f g) cL2 ccL2 tL2 cT2 ccT2 tT2 ∧ Below w.heap.size w w' := by
  have hle : now / long ≤ t / long := Nat.div_le_div_right h1
  by_cases e0 : t / long = now / long
  · have eF : tF long now t f = f := if_pos e0
    have eG : tG long now t f g = g := if_pos e0
    rw [eF, eG, e0, ← eL, ← eT]
    exact (at_same r m seed long now cL ccL sL tL cT ccT sT tT t w h1 h2 hl e0).mono fun e w' ⟨he, hb⟩ => ⟨cL, ccL, tL, cT, ccT, tT, he, hd.later hb, hb⟩
  have eF : tF long now t f = Z := if_neg e0
  by_cases e1 : t / long = now / long + 1
  · have eG : tG long now t f g = f := by unfold tG; rw [if_neg e0, if_pos e1]
    have eS : sdL seed (t / long) = sT := by rw [e1, sdL_succ, eT]
    rw [eF, eG, eS]
    exact (at_next r m seed long now cL ccL sL tL cT ccT sT tT t w r1 r8 m1 m2 h1 h2 hl e1).mono fun e w' ⟨c, cc, he, hR, hb⟩ => ⟨cT, ccT, tT, c, cc, 0, he, { l := hd.t.step (Mut.of_below hb) (Ext.refl _ _), t := hR.refA (Nat.le_refl _) hbs, lL := hd.lT, lT := by omega, fl := fun _ _ => by unfold Z; omega, gl := hd.fl }, hb⟩
  · have eG : tG long now t f g = Z := by unfold tG; rw [if_neg e0, if_neg e1]
    rw [eF, eG]
    exact (at_far r m seed long now cL ccL sL tL cT ccT sT tT t w r1 r8 m1 m2 h1 h2 hl (by omega)).mono fun e w' ⟨c1, cc1, c, cc, he, hR1, hR, hb⟩ => ⟨c1, cc1, 0, c, cc, 0, he, { l := hR1.refA (Nat.le_refl _) hbs, t := hR.refA (Nat.le_refl _) hbs, lL := by omega, lT := by omega, fl := fun _ _ => by unfold Z; omega, gl := fun _ _ => by unfold Z; omega }, hb⟩
end Go.Proofs.YtkhbodlffhfmnaaDoor
