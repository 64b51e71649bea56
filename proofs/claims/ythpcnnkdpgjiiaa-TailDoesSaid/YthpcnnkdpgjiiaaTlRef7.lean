/-
  The document's traces in memory: rows of them of the call's own; what its Offer and Due know on their way.
-/
import Derived.Laws.Tables
import Derived.Test.YthpcnnkdpgjiiaaTlRef6
namespace Go.Proofs.Ythpcnnkdpgjiiaa
open Go.RowKit Go.Maps Go.Proofs.HeapMath Go.Proofs.TailMath

variable {P : Nat → Prop}

abbrev Tx := Gr × Option Addr × Nat
/-- The cells of a trace, as the document keeps it. -/
def dtL (x : Tx) : List Value := [.int .i64 (x.1.due : Int), .int .i64 (x.1.no : Int), .int .u64 (x.1.hi : Int), .int .u64 (x.1.lo : Int), .slice x.2.1 x.1.spans.length x.2.2]
def dtC (l : List Tx) : List Value := l.flatMap dtL
theorem dtC_append (a b : List Tx) : dtC (a ++ b) = dtC a ++ dtC b := by simp [dtC]
theorem dtC_one (x : Tx) : dtC [x] = dtL x := by simp [dtC]
theorem dtC_length (l : List Tx) : (dtC l).length = l.length * 5 := by
  induction l with
  | nil => rfl
  | cons k l ih => simp [dtC] at ih ⊢; rw [ih]; simp [dtL]; omega
theorem dtC_at {l : List Tx} : ∀ {i : Nat} (h : i < l.length) {j : Nat} (_ : j < 5), (dtC l)[i * 5 + j]? = (dtL l[i])[j]? := by
  induction l with
  | nil => intro i h; simp at h
  | cons k l ih =>
    intro i h j hj
    have e : dtC (k :: l) = dtL k ++ dtC l := by simp [dtC]
    have hl : (dtL k).length = 5 := rfl
    match i, h with
    | 0, _ =>
      rw [e, List.getElem?_append_left (by omega), Nat.zero_mul, Nat.zero_add]
      rfl
    | i + 1, h =>
      have := ih (i := i) (by simpa using h) (j := j) hj
      rw [e, List.getElem?_append_right (by omega), hl, show (i + 1) * 5 + j - 5 = i * 5 + j by omega]
      simpa using this
theorem dtL_one (x : Tx) : ∀ u ∈ dtL x, u.oneCell' = true := fun u hu => by
  simp [dtL] at hu
  rcases hu with h | h | h | h | h <;> subst h <;> rfl
theorem dtC_ones (l : List Tx) : ∀ u ∈ dtC l, u.oneCell' = true := fun u hu => by
  obtain ⟨x, _, hx⟩ := List.mem_flatMap.1 hu
  exact dtL_one x u hx
def OkT (W : World) (x : Tx) : Prop := x.1.spans.length ≤ x.2.2 ∧ Sps W x.2.1 x.1.spans
theorem OkT.later {W W' : World} {x : Tx} (h : OkT W x) (hb : Below W.heap.size W W') : OkT W' x := ⟨h.1, h.2.later hb⟩
theorem Sps.mut {W W' : World} {A : Option Addr} {l : List Sp} (h : Sps W A l) {bs : List Nat} (hm : Mut bs W W') (hA : ∀ g, A.map (·.block) = some g → g ∉ bs) : Sps W' A l := fun h0 => by
  obtain ⟨g, rfl, hg, hc⟩ := h h0
  exact ⟨g, rfl, Nat.lt_of_lt_of_le hg hm.size, fun j hj k hk => (World.cell?_of_block (hm.block g hg (hA g rfl))).trans (hc j hj k hk)⟩
theorem dts_own {W : World} {base n cap : Nat} {A : Option Addr} {l : List Tx} (h : W.ownsRow base 102 5 (.slice A n cap) n (dtC l)) (hn : l.length = n) (ho : ∀ x ∈ l, OkT W x) : Trs W A l := fun h0 => by
  obtain ⟨g, cap', e, _, hg⟩ := h.form (by omega)
  injection e with e1 _ e2
  subst e1 e2
  refine ⟨g, rfl, hg, fun i hi => ?_⟩
  have hc : ∀ j, j < 5 → W.cell? ⟨g, i * 5 + j, none⟩ = (dtL l[i])[j]? := fun j hj => by rw [h.cellAt _ (by omega), dtC_at hi hj]
  exact ⟨hc 0 (by omega), hc 1 (by omega), hc 2 (by omega), hc 3 (by omega), hc 4 (by omega), ho _ (List.getElem_mem hi)⟩
theorem info_dt : (Try.prog.info? 102).map (fun i => (i.zero, i.size, i.bytes)) = some (some (.agg #[.int .i64 0, .int .i64 0, .int .u64 0, .int .u64 0, .slice none 0 0]), 5, 56) := by kernel_rfl
theorem sps_news {W : World} {g : Nat} {l : List Sp} (h : Sps W (some ⟨g, 0, none⟩) l) : ∀ j u, (spC l)[j]? = some u → W.cell? ((⟨g, 0, none⟩ : Addr).add j) = some u := fun j u hu => by
  have hj : j < l.length * 10 := by
    have := (List.getElem?_eq_some_iff.1 hu).1
    rw [spC_length] at this
    exact this
  have hp : (⟨g, 0, none⟩ : Addr).add j = ⟨g, j, none⟩ := by unfold Addr.add; split <;> simp_all
  rw [hp]
  obtain ⟨g', e, _, hc⟩ := h (by omega)
  injection e with e
  injection e with e
  subst e
  have h1 : j / 10 < l.length := by omega
  have h2 := hc (j / 10) h1 (j % 10) (Nat.mod_lt _ (by omega))
  rw [← spC_at h1 (Nat.mod_lt _ (by omega))] at h2
  have e : j / 10 * 10 + j % 10 = j := by omega
  rw [e, hu] at h2
  exact h2
theorem spC_ones (l : List Sp) : ∀ u ∈ spC l, u.oneCell' = true := fun u hu => by
  obtain ⟨x, _, hx⟩ := List.mem_flatMap.1 hu
  exact spL_one x u hx
theorem RfIn.at_t {W : World} {b : St} {r : Rf} (h : RfIn P W b r) (t : Nat) : RfIn P W (TailMath.at_ b t) r := ⟨h.L, h.K, h.n, h.m, h.cap, h.capB, h.KP⟩
/-- The three blocks of the document's Offer. -/
structure OfI (n0 : Nat) (w W : World) (b : St) (r : Rf) (s : Sp) : Prop where
  below : Below n0 w W
  blk : Blk W n0 (rfC b r) 50
  blk1 : Blk W (n0 + 1) (spA s) 35
  blk2 : Blk W (n0 + 2) (rfC (new 0 0 0) rf0) 50
theorem OfI.later {n0 : Nat} {w W W' : World} {b : St} {r : Rf} {s : Sp} (h : OfI n0 w W b r s) (hb : Below W.heap.size W W') : OfI n0 w W' b r s := ⟨h.below.trans (hb.mono (by have := h.blk.lt; omega)), h.blk.later hb, h.blk1.later hb, h.blk2.later hb⟩
/-- What lies above the three blocks has turned. -/
theorem OfI.above {n0 : Nat} {w W W' : World} {b : St} {r : Rf} {s : Sp} (h : OfI n0 w W b r s) {bs : List Nat} (hm : Mut bs W W') (hbs : ∀ k ∈ bs, n0 + 3 ≤ k) : OfI n0 w W' b r s := by
  have hf : ∀ j, j < n0 + 3 → j ∉ bs := fun j hj hm => by have := hbs j hm; omega
  exact ⟨h.below.trans (hm.below (by have := h.blk.lt; omega) (fun k hk => by have := hbs k hk; omega)), h.blk.mut hm (hf _ (by omega)), h.blk1.mut hm (hf _ (by omega)), h.blk2.mut hm (hf _ (by omega))⟩
theorem OfI.size {n0 : Nat} {w W : World} {b : St} {r : Rf} {s : Sp} (h : OfI n0 w W b r s) : n0 + 3 ≤ W.heap.size := h.blk2.lt
theorem of_end {n0 : Nat} {w W : World} {b : St} {r : Rf} {s : Sp} (h : OfI n0 w W b r s) (C : Array Value) : Blk (W.setRow (n0 + 2) C) (n0 + 2) C 50 ∧ Below n0 w (W.setRow (n0 + 2) C) ∧ Mut [n0 + 2] W (W.setRow (n0 + 2) C) :=
  ⟨setRow_heap _ _ _ _ _ _ h.blk2, Go.below_setRow h.below (by omega) C, ⟨rfl, rfl, rfl, by simp [World.setRow], fun k _ hk => setRow_other _ _ _ _ (by simpa using hk)⟩⟩
/-- A trace whose spans lie apart from the three blocks. -/
def Okx (P : Nat → Prop) (n0 : Nat) (W : World) (x : Tx) : Prop := OkT W x ∧ ∀ g, x.2.1.map (·.block) = some g → (g < n0 ∧ P g) ∨ n0 + 3 ≤ g
theorem Okx.mut {n0 : Nat} {W W' : World} {x : Tx} (h : Okx P n0 W x) {bs : List Nat} (hm : Mut bs W W') (hb : ∀ k ∈ bs, n0 ≤ k ∧ k < n0 + 3) : Okx P n0 W' x := ⟨⟨h.1.1, h.1.2.mut hm fun g hg hc => by
  have h1 := hb g hc
  have h2 := h.2 g hg
  omega⟩, h.2⟩
theorem Okx.later {n0 : Nat} {W W' : World} {x : Tx} (h : Okx P n0 W x) (hb : Below W.heap.size W W') : Okx P n0 W' x := ⟨h.1.later hb, h.2⟩
/-- What Offer is to tell. -/
def OfTo (P : Nat → Prop) (w : World) (fo : St × Nat × Nat) (e : Ending) (w' : World) : Prop := ∃ r', e = .returned (.tuple #[rfV fo.1 r', .int .u8 (fo.2.1 : Int), .int .i64 (fo.2.2 : Int)]) ∧ Hid (RfIn P w' fo.1 r') ∧ Hid (Below w.heap.size w w')
end Go.Proofs.Ythpcnnkdpgjiiaa
