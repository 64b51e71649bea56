/-
  How a sketch lies in memory: its own block, its rows, its cells; what it is in a later world; a world in which some blocks alone have turned.
-/
import Derived.Laws.Rows
import Derived.Laws.CopyOwn
import Derived.Test.YtkhbodlffhfmnaaDoorHashOf
import Derived.Test.YtkhbodlffhfmnaaDoorSkMath
namespace Go.Proofs.YtkhbodlffhfmnaaDoor
open Go.RowKit Go.Proofs.HashMath Go.Proofs.SkMath

/-- But for these blocks the world is as it was. -/
structure Mut (bs : List Nat) (w w' : World) : Prop where
  os : w'.os = w.os
  tape : w'.tape = w.tape
  output : w'.output = w.output
  size : w.heap.size ≤ w'.heap.size
  block : ∀ k, k < w.heap.size → k ∉ bs → w'.heap[k]? = w.heap[k]?
theorem Mut.refl (bs : List Nat) (w : World) : Mut bs w w := ⟨rfl, rfl, rfl, Nat.le_refl _, fun _ _ _ => rfl⟩
theorem Mut.trans {bs : List Nat} {a b c : World} (h : Mut bs a b) (k : Mut bs b c) : Mut bs a c :=
  ⟨k.os.trans h.os, k.tape.trans h.tape, k.output.trans h.output, Nat.le_trans h.size k.size, fun i hi hn => (k.block i (Nat.lt_of_lt_of_le hi h.size) hn).trans (h.block i hi hn)⟩
theorem Mut.of_below {bs : List Nat} {w w' : World} (h : Below w.heap.size w w') : Mut bs w w' := ⟨h.os, h.tape, h.output, h.size, fun k hk _ => h.block k hk⟩
theorem Mut.below {bs : List Nat} {w w' : World} {B : Nat} (h : Mut bs w w') (hB : B ≤ w.heap.size) (hbs : ∀ k ∈ bs, B ≤ k) : Below B w w' :=
  ⟨h.os, h.tape, h.output, h.size, fun k hk => h.block k (by omega) fun hm => by have := hbs k hm; omega⟩
theorem Mut.setCell {bs : List Nat} {a w : World} (h : Mut bs a w) {p : Addr} (hp : p.block ∈ bs) (u : Value) : Mut bs a (w.setCell p u) :=
  h.trans ⟨rfl, rfl, rfl, by simp [World.setCell], fun k _ hn => Below.heap_setCell _ _ _ _ (fun e => hn (e ▸ hp))⟩
theorem Mut.wider {bs cs : List Nat} {w w' : World} (h : Mut bs w w') (hs : ∀ k ∈ bs, k ∈ cs) : Mut cs w w' := ⟨h.os, h.tape, h.output, h.size, fun k hk hn => h.block k hk fun hm => hn (hs k hm)⟩
/-- A table that lay stays, if its block is none of them. -/
theorem Steps.mut {bs : List Nat} {W W' : World} (h : Steps W) (hn : 2 ∉ bs) (hb : Mut bs W W') : Steps W' := by
  have hlt := h.lt
  obtain ⟨t, fr, e⟩ := h
  exact ⟨t, fr, (hb.block _ hlt hn).trans e⟩

/-- Blocks of cells. -/
def Blk (W : World) (g : Nat) (C : Array Value) (T : TypeId) : Prop := W.heap[g]? = some (.cells C T)
theorem Blk.same {W W' : World} {g : Nat} {C : Array Value} {T : TypeId} (h : Blk W g C T) (hb : W'.heap[g]? = W.heap[g]?) : Blk W' g C T := hb.trans h
theorem Blk.lt {W : World} {g : Nat} {C : Array Value} {T : TypeId} (h : Blk W g C T) : g < W.heap.size := (Array.getElem?_eq_some_iff.1 h).1
theorem Blk.later {W W' : World} {g : Nat} {C : Array Value} {T : TypeId} (h : Blk W g C T) (hb : Below W.heap.size W W') : Blk W' g C T := h.same (hb.block _ h.lt)
theorem Blk.cell {W : World} {g : Nat} {C : Array Value} {T : TypeId} (h : Blk W g C T) (j : Nat) {v : Value} (hv : C[j]? = some v) : W.cell? ⟨g, j, none⟩ = some v := by
  unfold Blk at h
  simp [World.cell?, h, hv]
theorem Blk.free {W : World} {g : Nat} {C : Array Value} {T : TypeId} (h : Blk W g C T) (j : Nat) : W.frozen? ⟨g, j, none⟩ = false := by
  unfold Blk at h
  simp [World.frozen?, h]
theorem blk_new (W : World) (C : Array Value) (T : TypeId) : Blk (W.alloc (.cells C T)) W.heap.size C T := by
  show (W.heap.push _)[W.heap.size]? = _
  simp
theorem Blk.set {W : World} {g : Nat} {C : Array Value} {T : TypeId} (h : Blk W g C T) (j : Nat) (u : Value) : Blk (W.setCell ⟨g, j, none⟩ u) g (C.setIfInBounds j u) T := by
  have hlt := h.lt
  unfold Blk at *
  have h' : W.heap[g] = .cells C T := by simpa [Array.getElem?_eq_getElem hlt] using h
  show (W.heap.modify g _)[g]? = _
  rw [Array.getElem?_eq_getElem (by simpa using hlt), Array.getElem_modify_self, h']
  simp

/-- A number of 64 digits as a value. -/
def n64 (n : Nat) : Value := .int .u64 (n : Int)

/-- A sketch: its block S, the row of its rows A, its cells G. -/
structure Sk (W : World) (S A G r m seed : Nat) (f : Nat → Nat → Nat) (tot : Nat) : Prop where
  own : Blk W S #[.int .u64 (seed : Int), .slice (some ⟨A, 0, none⟩) r r, .int .u64 (tot : Int)] 91
  row : ∀ i, i < r → W.cell? ⟨A, i, none⟩ = some (.slice (some ⟨G, i * m, none⟩) m m)
  cell : ∀ i j, i < r → j < m → W.cell? ⟨G, i * m + j, none⟩ = some (n64 (f i j)) ∧ W.frozen? ⟨G, i * m + j, none⟩ = false
  blk : ∃ C t, Blk W G C t ∧ C.size = r * m
  ltA : A < W.heap.size
  ltG : G < W.heap.size
  sa : S ≠ A
  sg : S ≠ G
  ag : A ≠ G
  r1 : 1 ≤ r
  r8 : r ≤ 8
  m1 : 1 ≤ m
  m2 : m ≤ 1024
  seedLt : seed < 18446744073709551616
  totLt : tot < 18446744073709551616
  fLt : ∀ i j, f i j < 18446744073709551616

theorem Sk.mut {W W' : World} {S A G r m seed tot : Nat} {f : Nat → Nat → Nat} (h : Sk W S A G r m seed f tot) {bs : List Nat} (hb : Mut bs W W') (hS : S ∉ bs) (hA : A ∉ bs) (hG : G ∉ bs) : Sk W' S A G r m seed f tot :=
  { h with
    own := h.own.same (hb.block _ h.own.lt hS)
    row := fun i hi => (World.cell?_of_block (w := W) (hb.block _ h.ltA hA)).trans (h.row i hi)
    cell := fun i j hi hj => ⟨(World.cell?_of_block (w := W) (hb.block _ h.ltG hG)).trans (h.cell i j hi hj).1, (World.frozen?_of_block (w := W) (hb.block _ h.ltG hG)).trans (h.cell i j hi hj).2⟩
    blk := by obtain ⟨C, t, h1, h2⟩ := h.blk; exact ⟨C, t, h1.same (hb.block _ h.ltG hG), h2⟩
    ltA := Nat.lt_of_lt_of_le h.ltA hb.size
    ltG := Nat.lt_of_lt_of_le h.ltG hb.size }
theorem Sk.later {W W' : World} {S A G r m seed tot : Nat} {f : Nat → Nat → Nat} (h : Sk W S A G r m seed f tot) (hb : Below W.heap.size W W') : Sk W' S A G r m seed f tot :=
  h.mut (bs := []) (Mut.of_below hb) (by simp) (by simp) (by simp)

/-- A store into one of its cells. -/
theorem Sk.store {W : World} {S A G r m seed tot : Nat} {f g : Nat → Nat → Nat} (h : Sk W S A G r m seed f tot) {k q x : Nat} (hk : k < r) (hq : q < m) (hx : g k q = x) (hg : ∀ i j, ¬ (i = k ∧ j = q) → g i j = f i j) (hl : x < 18446744073709551616) : Sk (W.setCell ⟨G, k * m + q, none⟩ (n64 x)) S A G r m seed g tot :=
  { h with
    own := h.own.same (Below.heap_setCell _ _ _ _ (by simpa using h.sg))
    row := fun i hi => (World.cell?_of_block (w := W) (Below.heap_setCell _ _ _ _ (by simpa using h.ag))).trans (h.row i hi)
    cell := fun i j hi hj => by
      refine ⟨?_, by rw [World.frozen?_setCell]; exact (h.cell i j hi hj).2⟩
      by_cases e : i = k ∧ j = q
      · obtain ⟨rfl, rfl⟩ := e
        rw [World.cell?_setCell_same _ _ _ (h.cell i j hi hj).1, hx]
      · rw [World.cell?_setCell_other _ _ _ _ (by intro h; injection h with _ h2; exact e (spot_one hj hq h2.symm)), hg i j e]
        exact (h.cell i j hi hj).1
    blk := by obtain ⟨C, t, h1, h2⟩ := h.blk; exact ⟨_, t, h1.set _ _, by simpa using h2⟩
    ltA := by rw [World.size_setCell]; exact h.ltA
    ltG := by rw [World.size_setCell]; exact h.ltG
    fLt := fun i j => by
      by_cases e : i = k ∧ j = q
      · obtain ⟨rfl, rfl⟩ := e
        rw [hx]; exact hl
      · rw [hg i j e]; exact h.fLt i j }
/-- A store of what all were added. -/
theorem Sk.total {W : World} {S A G r m seed tot : Nat} {f : Nat → Nat → Nat} (h : Sk W S A G r m seed f tot) {x : Nat} (hx : x < 18446744073709551616) : Sk (W.setCell ⟨S, 2, none⟩ (.int .u64 (x : Int))) S A G r m seed f x :=
  { h with
    own := h.own.set 2 _
    row := fun i hi => (World.cell?_of_block (w := W) (Below.heap_setCell _ _ _ _ (by simpa using h.sa.symm))).trans (h.row i hi)
    cell := fun i j hi hj => ⟨(World.cell?_of_block (w := W) (Below.heap_setCell _ _ _ _ (by simpa using h.sg.symm))).trans (h.cell i j hi hj).1, (World.frozen?_of_block (w := W) (Below.heap_setCell _ _ _ _ (by simpa using h.sg.symm))).trans (h.cell i j hi hj).2⟩
    blk := by obtain ⟨C, t, h1, h2⟩ := h.blk; exact ⟨C, t, h1.same (Below.heap_setCell _ _ _ _ (by simpa using h.sg.symm)), h2⟩
    ltA := by rw [World.size_setCell]; exact h.ltA
    ltG := by rw [World.size_setCell]; exact h.ltG
    totLt := hx }

/-- Where a key's cells are. -/
def placeOf (seed : Nat) (key : List UInt8) (m i : Nat) : Nat := inText ((seed + i) % 18446744073709551616) key (m : Int)
theorem place_lt (seed : Nat) (key : List UInt8) {m : Nat} (hm : 1 ≤ m) (i : Nat) : placeOf seed key m i < m := by
  unfold placeOf
  rw [in_yes (by omega)]
  exact Nat.mod_lt _ (by omega)
/-- The places as an array of eight: the first k of them. -/
def pv (p : Nat → Nat) (k i : Nat) : Value := .int .i64 (if i < k then (p i : Int) else 0)
def pArr (p : Nat → Nat) (k : Nat) : Array Value := #[pv p k 0, pv p k 1, pv p k 2, pv p k 3, pv p k 4, pv p k 5, pv p k 6, pv p k 7]
theorem pArr_at {p : Nat → Nat} {k i : Nat} (hi : i < k) (h8 : i < 8) : (pArr p k)[i]? = some (.int .i64 (p i : Int)) := by
  have e : pv p k i = .int .i64 (p i : Int) := by unfold pv; rw [if_pos hi]
  match i, h8 with
  | 0, _ => exact congrArg some e
  | 1, _ => exact congrArg some e
  | 2, _ => exact congrArg some e
  | 3, _ => exact congrArg some e
  | 4, _ => exact congrArg some e
  | 5, _ => exact congrArg some e
  | 6, _ => exact congrArg some e
  | 7, _ => exact congrArg some e
theorem pv_next {p : Nat → Nat} {k i : Nat} (h : i ≠ k) : pv p (k + 1) i = pv p k i := by
  unfold pv
  by_cases e : i < k
  · rw [if_pos e, if_pos (by omega)]
  · rw [if_neg e, if_neg (by omega)]
theorem pv_same (p : Nat → Nat) (k : Nat) : pv p (k + 1) k = .int .i64 (p k : Int) := by unfold pv; rw [if_pos (by omega)]
theorem pArr_set {p : Nat → Nat} {k : Nat} (h8 : k < 8) : (pArr p k).setIfInBounds k (.int .i64 (p k : Int)) = pArr p (k + 1) := by
  rw [← pv_same]
  unfold pArr
  match k, h8 with
  | 0, _ => simp [pv_next]
  | 1, _ => simp [pv_next]
  | 2, _ => simp [pv_next]
  | 3, _ => simp [pv_next]
  | 4, _ => simp [pv_next]
  | 5, _ => simp [pv_next]
  | 6, _ => simp [pv_next]
  | 7, _ => simp [pv_next]
theorem pArr_0 (p : Nat → Nat) : pArr p 0 = #[.int .i64 0, .int .i64 0, .int .i64 0, .int .i64 0, .int .i64 0, .int .i64 0, .int .i64 0, .int .i64 0] := rfl
end Go.Proofs.YtkhbodlffhfmnaaDoor
