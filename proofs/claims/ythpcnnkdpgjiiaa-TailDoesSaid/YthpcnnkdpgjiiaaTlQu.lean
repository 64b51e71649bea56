/-
  A row of traces that is cut at the front: where it lies, one more behind, the first one gone.
-/
import Derived.Deep.RegionLaw
import Derived.Deep.AppendLies
import Derived.Lib.SliceRun
import Derived.Test.YthpcnnkdpgjiiaaHp0
namespace Go.Proofs.Ythpcnnkdpgjiiaa
open Go.RowKit

abbrev Tr := Nat × Nat
def trC (q : List Tr) : List Value := q.flatMap fun t => [.int .u64 (t.1 : Int), .int .u64 (t.2 : Int)]
theorem trC_cons (t : Tr) (q : List Tr) : trC (t :: q) = .int .u64 (t.1 : Int) :: .int .u64 (t.2 : Int) :: trC q := rfl
theorem trC_append (a b : List Tr) : trC (a ++ b) = trC a ++ trC b := by simp [trC]
theorem trC_length (q : List Tr) : (trC q).length = q.length * 2 := by
  induction q with
  | nil => rfl
  | cons t q ih => rw [trC_cons]; simp [ih]; omega
theorem trC_one (q : List Tr) : ∀ u ∈ trC q, u.oneCell' = true := fun u hu => by
  obtain ⟨t, _, h⟩ := List.mem_flatMap.1 hu
  simp at h
  rcases h with rfl | rfl <;> rfl
theorem trC_at {q : List Tr} : ∀ {i : Nat} (h : i < q.length), (trC q)[i * 2]? = some (.int .u64 (q[i].1 : Int)) ∧ (trC q)[i * 2 + 1]? = some (.int .u64 (q[i].2 : Int)) := by
  induction q with
  | nil => intro i hi; simp at hi
  | cons t q ih =>
    intro i hi
    match i, hi with
    | 0, _ => exact ⟨rfl, rfl⟩
    | i + 1, hi =>
      have := ih (i := i) (by simpa using hi)
      rw [trC_cons, show (i + 1) * 2 = i * 2 + 1 + 1 by omega]
      simpa using this
/-- The slice value v has the traces q, wherever in its block they begin. -/
def Qu (W : World) (v : Value) (q : List Tr) : Prop :=
  (v = .slice none 0 0 ∧ q = []) ∨ ∃ (g o cap : Nat) (cur : Array Value), v = .slice (some ⟨g, o, none⟩) q.length cap ∧ W.heap[g]? = some (.cells cur 83 (0, 0)) ∧ q.length ≤ cap ∧ cap ≤ maxLen ∧ o + cap * 2 ≤ cur.size ∧ ∀ t u, (trC q)[t]? = some u → cur[o + t]? = some u
theorem Qu.nil (W : World) : Qu W (.slice none 0 0) [] := .inl ⟨rfl, rfl⟩
theorem Qu.same {W W' : World} {v : Value} {q : List Tr} (h : Qu W v q) (hb : ∀ g, v.ownBlock = some g → W'.heap[g]? = W.heap[g]?) : Qu W' v q := by
  rcases h with h | ⟨g, o, cap, cur, rfl, h1, h2⟩
  · exact .inl h
  · exact .inr ⟨g, o, cap, cur, rfl, (hb g rfl).trans h1, h2⟩
theorem Qu.lt {W : World} {v : Value} {q : List Tr} (h : Qu W v q) : ∀ g, v.ownBlock = some g → g < W.heap.size := fun k hk => by
  rcases h with ⟨rfl, _⟩ | ⟨g, o, cap, cur, rfl, h1, h2⟩
  · simp [Value.ownBlock] at hk
  · simp [Value.ownBlock] at hk
    subst hk
    exact (Array.getElem?_eq_some_iff.1 h1).1
theorem Qu.mut {W W' : World} {v : Value} {q : List Tr} (h : Qu W v q) {bs : List Nat} (hb : Mut bs W W') (hv : ∀ g, v.ownBlock = some g → g ∉ bs) : Qu W' v q := h.same fun g hg => hb.block g (h.lt g hg) (hv g hg)
theorem Qu.len {W : World} {v : Value} {q : List Tr} (h : Qu W v q) : ∃ A cap, v = .slice A q.length cap ∧ q.length ≤ cap ∧ cap ≤ maxLen := by
  rcases h with ⟨rfl, rfl⟩ | ⟨g, o, cap, cur, rfl, h1, h2, h3, _⟩
  · exact ⟨none, 0, rfl, Nat.le_refl _, by unfold maxLen; omega⟩
  · exact ⟨_, cap, rfl, h2, h3⟩
/-- Where the row is, if one is there. -/
theorem Qu.some_ {W : World} {v : Value} {q : List Tr} (h : Qu W v q) (h0 : 0 < q.length) : ∃ g o cap, v = .slice (some ⟨g, o, none⟩) q.length cap ∧ q.length ≤ cap ∧ cap ≤ maxLen ∧ g < W.heap.size := by
  rcases h with ⟨rfl, rfl⟩ | ⟨g, o, cap, cur, rfl, h1, h2, h3, _⟩
  · simp at h0
  · exact ⟨g, o, cap, rfl, h2, h3, (Array.getElem?_eq_some_iff.1 h1).1⟩
theorem Qu.cells {W : World} {g o n cap : Nat} {q : List Tr} (h : Qu W (.slice (some ⟨g, o, none⟩) n cap) q) : ∀ t u, (trC q)[t]? = some u → W.cell? ⟨g, o + t, none⟩ = some u ∧ W.frozen? ⟨g, o + t, none⟩ = false := fun t u hu => by
  rcases h with ⟨e, _⟩ | ⟨g', o', cap', cur, e, h1, h2, h3, h4, h5⟩
  · cases e
  · injection e with e1 _ _
    injection e1 with e1
    injection e1 with e1 e2 _
    subst e1 e2
    have := h5 t u hu
    exact ⟨by simp [World.cell?, h1, this], by simp [World.frozen?, h1]⟩
theorem Qu.cell {W : World} {g o n cap : Nat} {q : List Tr} (h : Qu W (.slice (some ⟨g, o, none⟩) n cap) q) {i : Nat} (hi : i < q.length) : W.cell? ⟨g, o + i * 2, none⟩ = some (.int .u64 (q[i].1 : Int)) ∧ W.cell? ⟨g, o + i * 2 + 1, none⟩ = some (.int .u64 (q[i].2 : Int)) :=
  ⟨(h.cells _ _ (trC_at hi).1).1, by rw [Nat.add_assoc]; exact (h.cells _ _ (trC_at hi).2).1⟩
/-- The first one is cut off. -/
theorem Qu.tail {W : World} {g o n cap : Nat} {t : Tr} {q : List Tr} (h : Qu W (.slice (some ⟨g, o, none⟩) (n + 1) cap) (t :: q)) : Qu W (.slice (some ⟨g, if cap = 1 then o else o + 2, none⟩) n (cap - 1)) q := by
  rcases h with ⟨e, _⟩ | ⟨g', o', cap', cur, e, h1, h2, h3, h4, h5⟩
  · cases e
  · injection e with e1 e3 e4
    injection e1 with e1
    injection e1 with e1 e2 _
    subst e1 e2 e4
    simp at e3 h2
    subst e3
    refine .inr ⟨g, _, cap - 1, cur, rfl, h1, by omega, by omega, ?_, fun k u hu => ?_⟩
    · split <;> omega
    · by_cases hc : cap = 1
      · have : q = [] := List.eq_nil_of_length_eq_zero (by omega)
        subst this
        simp [trC] at hu
      · rw [if_neg hc]
        have := h5 (k + 2) u (by rw [trC_cons]; simpa using hu)
        rw [show o + 2 + k = o + (k + 2) by omega]
        exact this

theorem setCells_mut (g : Nat) : ∀ (vs : List Value) (k : Nat) (W : World), Mut [g] W (W.setCells g k vs)
  | [], _, W => Mut.refl _ W
  | v :: r, k, W => ((Mut.refl [g] W).setCell (p := ⟨g, k, none⟩) (by simp) v).trans (setCells_mut g r (k + 1) _)
theorem setCells_blk {T : TypeId} (g : Nat) : ∀ (vs : List Value) (k : Nat) (W : World) (cur : Array Value), W.heap[g]? = some (.cells cur T (0, 0)) → ∃ cur' : Array Value, (W.setCells g k vs).heap[g]? = some (.cells cur' T (0, 0)) ∧ cur'.size = cur.size ∧ (∀ x, x < k ∨ k + vs.length ≤ x → cur'[x]? = cur[x]?) ∧ ∀ x, x < vs.length → k + x < cur.size → cur'[k + x]? = vs[x]?
  | [], _, W, cur, h => ⟨cur, h, rfl, fun _ _ => rfl, fun x hx => by simp at hx⟩
  | v :: r, k, W, cur, h => by
    have h1 : (W.setCell ⟨g, k, none⟩ v).heap[g]? = some (.cells (cur.setIfInBounds k v) T (0, 0)) := Blk.set (show Blk W g cur T from h) k v
    obtain ⟨cur', a1, a2, a3, a4⟩ := setCells_blk g r (k + 1) _ _ h1
    refine ⟨cur', a1, by rw [a2]; simp, fun x hx => ?_, fun x hx hk => ?_⟩
    · simp at hx
      rw [a3 x (by omega), Array.getElem?_setIfInBounds]
      rw [if_neg (by omega)]
    · match x, hx with
      | 0, _ =>
        rw [Nat.add_zero, a3 k (by omega), Array.getElem?_setIfInBounds, if_pos rfl]
        simp
        omega
      | x + 1, hx =>
        have := a4 x (by simpa using hx) (by simp; omega)
        rw [show k + (x + 1) = k + 1 + x by omega, this]
        simp
theorem info_tr : (Try.prog.info? 83).map (fun i => (i.zero, i.size, i.bytes)) = some (some (.agg #[.int .u64 0, .int .u64 0]), 2, 16) := by kernel_rfl

/-- One more behind all. -/
theorem Qu.push {w : World} {v : Value} {q : List Tr} {t : Tr} (ty : TypeId) (h : Qu w v q) (ad : Addr) (c : Nat) (hnews : ∀ j u, (trC [t])[j]? = some u → w.cell? (ad.add j) = some u) (hl : q.length ≤ 5000) :
    ∃ (A : Option Addr) (cap : Nat) (w' : World), (Builtin.append_ #[69, 69] ty #[v, .slice (some ad) 1 c]).run Try.prog w = .ok (.slice A (q.length + 1) cap) w' ∧ Qu w' (.slice A (q.length + 1) cap) (q ++ [t]) ∧ w.grownBy w' v.ownBlock ∧ ∀ g, (Value.slice A (q.length + 1) cap).ownBlock = some g → v.ownBlock = some g ∨ w.heap.size ≤ g := by
  obtain ⟨i, hi, hz, hz1, hz2⟩ := info_parts info_tr
  have ht := Try.underlying69
  have hl1 : (trC [t]).length = 1 * i.size := by rw [hz1]; rfl
  have h1 := trC_one [t]
  have hsize : (Value.agg #[.int .u64 0, .int .u64 0]).cells.size = 2 := rfl
  rcases h with ⟨rfl, rfl⟩ | ⟨g, o, cap, cur, rfl, g1, g2, g3, g4, g5⟩
  · have hr := run_append_nil (P := Try.prog) w 69 ty 83 i _ ht hi hz ad 1 c (trC [t]) hl1 hnews (by omega) (by omega) (by rw [hz2]; omega)
    have hge := grownCap_ge w 1 0 83
    have hcm := grownCap_le_maxLen w 1 0 83 (by unfold maxLen; omega)
    refine ⟨_, _, _, hr, .inr ⟨w.heap.size, 0, _, _, rfl, heap_alloc_new w.drew _, hge, hcm, ?_, fun k u hu => ?_⟩, ⟨rfl, rfl, rfl, by simp, fun k hk _ => heap_alloc_old w.drew _ hk⟩, fun g hg => ?_⟩
    · simp only [Array.size_append, List.size_toArray, size_zeroCells, hsize, trC_length]
      simp
      omega
    · rw [Nat.zero_add]
      have hk := (List.getElem?_eq_some_iff.1 hu).1
      rw [List.nil_append] at hu hk
      rw [Array.getElem?_append_left (by simpa using hk)]
      simpa using hu
    · simp [Value.ownBlock] at hg
      exact .inr (by omega)
  · by_cases hroom : q.length + 1 ≤ cap
    · have hr := run_append_room_cells (P := Try.prog) w 69 ty 83 i ht hi g o q.length cap ad 1 c (trC [t]) hl1 hnews h1 hroom
        (fun j hj => by rw [trC_length] at hj; simp only [List.length_singleton] at hj; rw [hz1]; simp [World.cell?, g1]; omega) (fun j hj => by simp [World.frozen?, g1])
      rw [hz1] at hr
      obtain ⟨cur', a1, a2, a3, a4⟩ := setCells_blk g (trC [t]) (o + q.length * 2) w cur g1
      have hm := setCells_mut g (trC [t]) (o + q.length * 2) w
      refine ⟨_, _, _, hr, .inr ⟨g, o, cap, cur', by simp, a1, by simpa using hroom, g3, by omega, fun k u hu => ?_⟩, ⟨hm.os, hm.tape, hm.output, hm.size, fun k hk hn => hm.block k hk (by simp [Value.ownBlock] at hn; simpa using hn)⟩, fun g' hg' => .inl hg'⟩
      rw [trC_append] at hu
      by_cases hk : k < (trC q).length
      · rw [List.getElem?_append_left hk] at hu
        rw [a3 _ (by rw [trC_length] at hk; omega)]
        exact g5 k u hu
      · rw [List.getElem?_append_right (by omega)] at hu
        have hk2 := (List.getElem?_eq_some_iff.1 hu).1
        rw [trC_length] at hk hk2 hu
        have hk3 : k - q.length * 2 < 2 := hk2
        have := a4 (k - q.length * 2) hk2 (by omega)
        rw [show o + k = o + q.length * 2 + (k - q.length * 2) by omega, this]
        exact hu
    · have hr := run_append_grow (P := Try.prog) w 69 ty 83 i _ ht hi hz ⟨g, o, none⟩ q.length cap (trC q) (by rw [trC_length, hz1])
        (fun j u hu => by rw [Addr.add_lit]; simp [World.cell?, g1, g5 j u hu]) ad 1 c (trC [t]) hl1 hnews (by omega) (by omega) (growslice_fits (by omega) (by rw [hz2]; omega))
      have hge := grownCap_ge w (q.length + 1) cap 83
      have hcm := grownCap_le_maxLen w (q.length + 1) cap 83 (by unfold maxLen; omega)
      refine ⟨_, _, _, hr, .inr ⟨w.heap.size, 0, _, _, by simp, heap_alloc_new w.drew _, by simpa using hge, hcm, ?_, fun k u hu => ?_⟩, ⟨rfl, rfl, rfl, by simp, fun k hk _ => heap_alloc_old w.drew _ hk⟩, fun g hg => ?_⟩
      · simp only [Array.size_append, List.size_toArray, size_zeroCells, hsize, trC_length]
        simp
        omega
      · rw [Nat.zero_add]
        have hk := (List.getElem?_eq_some_iff.1 hu).1
        rw [trC_append] at hu hk
        rw [Array.getElem?_append_left (by simpa using hk)]
        simpa using hu
      · simp [Value.ownBlock] at hg
        exact .inr (by omega)
end Go.Proofs.Ythpcnnkdpgjiiaa
