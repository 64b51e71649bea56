/-
  A law's own row of marks beside its heap; a slice of numbers that came in.
-/
import Derived.Laws.MakeOwn
import Derived.Deep.RegionHeld
import Derived.Test.YtlbopajnnbnolaaHpLaw
namespace Go.Proofs.Ytlbopajnnbnolaa
open Go.ChangeShapes Go.WideShapes Go.ChangeAt Go.RowKit Go.Maps Go.Proofs.HeapMath

/-- A mark's value. -/
def mk1 (b : Bool) : Int := if b then 1 else 0
/-- A row of marks of the call's own. -/
def Mk (W : World) (T m : Nat) (th : Nat → Bool) : Prop := T < W.heap.size ∧ ∀ j, j < m → W.cell? ⟨T, j, none⟩ = some (.int .i64 (mk1 (th j))) ∧ W.frozen? ⟨T, j, none⟩ = false
theorem Mk.set {W : World} {T m : Nat} {th th' : Nat → Bool} (h : Mk W T m th) {k : Nat} (hk : k < m) {b : Bool} (hb : th' k = b) (hg : ∀ j, j ≠ k → th' j = th j) : Mk (W.setCell ⟨T, k, none⟩ (.int .i64 (mk1 b))) T m th' := by
  obtain ⟨h1, h2⟩ := h
  refine ⟨by rw [World.size_setCell]; exact h1, fun j hj => ⟨?_, by rw [World.frozen?_setCell]; exact (h2 j hj).2⟩⟩
  by_cases e : j = k
  · subst e
    rw [World.cell?_setCell_same _ _ _ (h2 j hj).1, hb]
  · rw [World.cell?_setCell_other _ _ _ _ (by intro h; injection h with _ h2; exact e h2.symm), hg j e]
    exact (h2 j hj).1
theorem Mk.mut {W W' : World} {T m : Nat} {th : Nat → Bool} {bs : List Nat} (h : Mk W T m th) (hb : Mut bs W W') (hT : T ∉ bs) : Mk W' T m th := by
  obtain ⟨h1, h2⟩ := h
  have hs := hb.block T h1 hT
  exact ⟨Nat.lt_of_lt_of_le h1 hb.size, fun j hj => ⟨(World.cell?_of_block (w := W) hs).trans (h2 j hj).1, (World.frozen?_of_block (w := W) hs).trans (h2 j hj).2⟩⟩
theorem Mk.later {W W' : World} {T m : Nat} {th : Nat → Bool} (h : Mk W T m th) (hb : Below W.heap.size W W') : Mk W' T m th := h.mut (bs := []) (Mut.of_below hb) (by simp)
theorem Mk.congr {W : World} {T m : Nat} {th th' : Nat → Bool} (h : Mk W T m th) (he : ∀ j, j < m → th j = th' j) : Mk W T m th' := ⟨h.1, fun j hj => he j hj ▸ h.2 j hj⟩
theorem info_int : (Try.prog.info? 3).map (fun i => (i.zero, i.size, i.bytes)) = some (some (.int .i64 0), 1, 8) := by kernel_rfl
def zeI (n : Nat) : Array Value := madeCells #[.int .i64 0] n
theorem made_at {v : Value} {n i : Nat} (h : i < n) : (madeCells #[v] n)[i]? = some v := by
  rw [← Array.getElem?_toList, toList_madeCells_one]
  simp [h]
theorem make_ints (n : Nat) (h : n ≤ 100000) (W : World) : (Instr.makeSlice 26 (.int .i64 (n : Int)) (.int .i64 (n : Int))).run Try.prog W = .ok (.slice (some ⟨W.heap.size, 0, none⟩) n n) (W.alloc (.cells (zeI n) 3)) := by
  obtain ⟨i0, hi, hz0, hz1, hz2⟩ := info_parts info_int
  have := run_make (P := Try.prog) W 26 3 i0 (.int .i64 0) Try.underlying26 hi hz0 .i64 .i64 (n : Int) (n : Int) (by omega) (by omega) (by rw [hz2]; omega) (by omega)
  rw [this, hz1]
  simp only [Int.toNat_natCast, Nat.mul_one]
  rfl
theorem mk_new (W : World) (n : Nat) : Mk (W.alloc (.cells (zeI n) 3)) W.heap.size n (fun _ => false) := by
  have hb := blk_new W (zeI n) 3
  exact ⟨hb.lt, fun j hj => ⟨hb.cell j (made_at hj), hb.free j⟩⟩

/-- A heap of a law's own with its row of marks beside it. -/
structure Om (w₀ W : World) (S most : Nat) (s : List Tm) (T m : Nat) (th : Nat → Bool) (bs : List Nat) : Prop where
  o : Ow w₀ W S most s bs
  k : Mk W T m th
  far : T ∉ bs
  base : w₀.heap.size ≤ T
theorem Om.next {w₀ W W' : World} {S most T m : Nat} {s s' : List Tm} {th : Nat → Bool} {bs bs' : List Nat} (h : Om w₀ W S most s T m th bs) (ho : Ow w₀ W' S most s' bs') (hm : Mut bs W W') (hx : Ext W bs bs') : Om w₀ W' S most s' T m th bs' :=
  ⟨ho, h.k.mut hm h.far, far_ext hx h.far h.k.1, h.base⟩
theorem Om.later {w₀ W W' : World} {S most T m : Nat} {s : List Tm} {th : Nat → Bool} {bs : List Nat} (h : Om w₀ W S most s T m th bs) (hb : Below W.heap.size W W') : Om w₀ W' S most s T m th bs := ⟨h.o.later hb, h.k.later hb, h.far, h.base⟩
theorem Om.set {w₀ W : World} {S most T m : Nat} {s : List Tm} {th th' : Nat → Bool} {bs : List Nat} (h : Om w₀ W S most s T m th bs) {k : Nat} (hk : k < m) {b : Bool} (hb : th' k = b) (hg : ∀ j, j ≠ k → th' j = th j) : Om w₀ (W.setCell ⟨T, k, none⟩ (.int .i64 (mk1 b))) S most s T m th' bs := by
  have hm : Mut [T] W (W.setCell ⟨T, k, none⟩ (.int .i64 (mk1 b))) := (Mut.refl _ _).setCell (by simp) _
  refine ⟨⟨h.o.1.mut hm fun x hx hc => ?_, h.o.2.1.trans (hm.below h.o.2.1.size (fun x hx => by rw [List.mem_singleton.1 hx]; exact h.base)), h.o.2.2⟩, h.k.set hk hb hg, h.far, h.base⟩
  rw [List.mem_singleton.1 hc] at hx
  exact h.far hx
end Go.Proofs.Ytlbopajnnbnolaa
