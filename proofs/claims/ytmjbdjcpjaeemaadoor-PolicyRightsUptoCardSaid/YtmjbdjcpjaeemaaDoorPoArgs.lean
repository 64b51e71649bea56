/-
  Rules, rows of rules and spans that came in: what they hold.
-/
import Derived.Deep.Slices
import Derived.Deep.Fields
import Derived.ChangeSame
import Derived.Test.YtmjbdjcpjaeemaaDoorPoApp
namespace Go.Proofs.YtmjbdjcpjaeemaaDoor
open Go.ChangeShapes Go.WideShapes Go.Deep Go.ChangeAt Go.RowKit

theorem some_at {α : Type} {xs : List α} {n i : Nat} (h : xs.length = n) (hi : i < n) : ∃ y, xs[i]? = some y := ⟨xs[i]'(by omega), List.getElem?_eq_getElem (by omega)⟩
theorem add_off (b off k : Nat) : (⟨b, off, none⟩ : Addr).add k = ⟨b, off + k, none⟩ := by unfold Addr.add; split <;> simp_all
theorem in_world {W : World} {x : Addr} {i : Nat} {u : Value} (h1 : W.cell? (x.add i) = some u) : x.block < W.heap.size := by
  have h2 : (x.add i).block = x.block := by unfold Addr.add; split <;> rfl
  rcases Nat.lt_or_ge x.block W.heap.size with h3 | h3
  · exact h3
  · simp [World.cell?, h2, Array.getElem?_eq_none h3] at h1
theorem getD_range {α : Type} (q : Nat → α) {len j : Nat} (d : α) (hj : j < len) : ((List.range len).map q).getD j d = q j := by simp [List.getD, hj]
/-- A rule that came in: its numbers in their bounds. -/
def RuOk (r : Ru) : Prop := r.kind ≤ 255 ∧ In64 r.a ∧ r.key.size ≤ 9223372036854775807 ∧ r.val.size ≤ 9223372036854775807
theorem four_of {l : List Value} (h : l.length = 4) : ∃ a b c d, l = [a, b, c, d] := by
  match l, h with
  | [a, b, c, d], _ => exact ⟨a, b, c, d, rfl⟩
theorem ten_of {l : List Value} (h : l.length = 10) : ∃ a b c d e f g i j k, l = [a, b, c, d, e, f, g, i, j, k] := by
  match l, h with
  | [a, b, c, d, e, f, g, i, j, k], _ => exact ⟨a, b, c, d, e, f, g, i, j, k, rfl⟩
section
variable {H : Type} {enc : TypeId × Value → H}

set_option maxRecDepth 100000 in
theorem read_rule {W : World} {base : Nat} {held : Bool} {fuel : Nat} {cs : List Value} {x : DataW H × List MemPlace} (hcl : cs.length = 4) (h : DataW.trod enc Tryd.prog W base (fun _ => true) held fuel 39 cs = some x) :
    ∃ r : Ru, cs = (ruCells r).toList ∧ RuOk r := by
  have K0 : Tryd.prog.cellsOf 5 = 1 := by kernel_rfl
  have K1 : Tryd.prog.cellsOf 3 = 1 := by kernel_rfl
  have K2 : Tryd.prog.cellsOf 9 = 1 := by kernel_rfl
  obtain ⟨ys, n', hn', hy, hlen, hyl, hf⟩ := DataW.trod_struct Tryd.underlying39 h
  obtain ⟨c0, c1, c2, c3, rfl⟩ := four_of hcl
  obtain ⟨y0, hy0⟩ := some_at hyl (i := 0) (by simp)
  obtain ⟨y1, hy1⟩ := some_at hyl (i := 1) (by simp)
  obtain ⟨y2, hy2⟩ := some_at hyl (i := 2) (by simp)
  obtain ⟨y3, hy3⟩ := some_at hyl (i := 3) (by simp)
  have f0 := (hf 0 _ rfl).trans hy0
  have f1 := (hf 1 _ rfl).trans hy1
  have f2 := (hf 2 _ rfl).trans hy2
  have f3 := (hf 3 _ rfl).trans hy3
  clear hf
  simp [K0, K1, K2] at f0 f1 f2 f3
  obtain ⟨z0, q0, _, w0⟩ := DataW.trod_int Tryd.underlying5 f0
  simp at q0
  subst q0
  have b0 := wf_u8 w0
  obtain ⟨x0, rfl⟩ := Int.eq_ofNat_of_zero_le b0.1
  obtain ⟨x1, q1, _, w1⟩ := DataW.trod_int Tryd.underlying3 f1
  simp at q1
  subst q1
  have b1 := wf_i64 w1
  obtain ⟨x2, q2, _, b2⟩ := DataW.trod_string Tryd.underlying9 f2
  simp at q2
  subst q2
  obtain ⟨x3, q3, _, b3⟩ := DataW.trod_string Tryd.underlying9 f3
  simp at q3
  subst q3
  unfold maxLen at b2 b3
  exact ⟨⟨x0, x1, x2, x3⟩, rfl, by show x0 ≤ 255; omega, ⟨b1.1, b1.2⟩, b2, b3⟩

set_option maxRecDepth 100000 in
theorem read_rules {W : World} {base : Nat} {held : Bool} {fuel : Nat} {v : Value} {x : DataW H × List MemPlace} (h : DataW.trod enc Tryd.prog W base (fun _ => true) held fuel 30 [v] = some x) :
    ∃ (A : Option Addr) (l : List Ru) (cap : Nat), v = .slice A l.length cap ∧ l.length ≤ cap ∧ cap ≤ 9223372036854775807 ∧ HoldsR W.heap.size W A l ∧ ∀ i, i < l.length → RuOk (l.getD i ru0) := by
  rcases open_slice Tryd.underlying30 h with ⟨hcs, _⟩ | ⟨a, len, cap, m, n, D, Pl, hcs, hb, hl, hm, hmm, hx, hi⟩
  · simp at hcs
    subst hcs
    exact ⟨none, [], 0, rfl, by simp, by omega, fun h => absurd h (by simp), fun i h => absurd h (by simp)⟩
  · simp at hcs
    subst hcs
    simp only [if_true] at hmm
    subst hmm
    unfold maxLen at hm
    have hC : Tryd.prog.cellsOf 39 = 4 := by kernel_rfl
    have key2 : ∀ i, ∃ q : Ru, i < m → RuOk q ∧ ∀ k, k < 4 → W.cell? ((a.add (i * 4)).add k) = (ruCells q)[k]? := fun i => by
      by_cases him : i < m
      · obtain ⟨cs', hc, ht⟩ := hi i him
        rw [hC] at hc
        obtain ⟨_, hcl, hat⟩ := World.cells?_some hc
        obtain ⟨r, rfl, hr⟩ := read_rule hcl ht
        exact ⟨r, fun _ => ⟨hr, fun k hk => (hat k (by omega)).trans (by simp)⟩⟩
      · exact ⟨ru0, fun h => absurd h him⟩
    obtain ⟨q, hq⟩ := Classical.axiomOfChoice key2
    have hlen : ((List.range len).map q).length = len := by simp
    refine ⟨some a, (List.range len).map q, m, by rw [hlen], by rw [hlen]; exact hl, hm, fun h0 => ?_, fun i hi' => ?_⟩
    · rw [hlen] at h0
      obtain ⟨b, off, spot⟩ := a
      have h00 := (hq 0 (by omega)).2 0 (by omega)
      have hspot : spot = none := by
        have h1 : W.cell? (((⟨b, off, spot⟩ : Addr).add (0 * 4)).add 0) = some (.int .u8 ((q 0).kind : Int)) := h00
        simpa [Addr.add] using World.cell?_spot h1
      subst hspot
      have hlt : b < W.heap.size := by
        rw [add_off] at h00
        exact in_world (x := ⟨b, off + 0 * 4, none⟩) (u := .int .u8 ((q 0).kind : Int)) h00
      refine ⟨b, off, rfl, hlt, fun j hj => ?_⟩
      rw [hlen] at hj
      have hk := (hq j (by omega)).2
      rw [getD_range q ru0 hj]
      have t : ∀ k, k < 4 → W.cell? ⟨b, off + j * 4 + k, none⟩ = (ruCells (q j))[k]? := fun k hk' => by rw [← hk k hk', add_off, add_off]
      exact ⟨t 0 (by omega), t 1 (by omega), t 2 (by omega), t 3 (by omega)⟩
    · rw [hlen] at hi'
      rw [getD_range q ru0 hi']
      exact (hq i (by omega)).1

/-- Rows of rules that came in. -/
def RrOk (ls : List (List Ru)) : Prop := ∀ i, i < ls.length → (ls.getD i []).length ≤ 9223372036854775807 ∧ ∀ j, j < (ls.getD i []).length → RuOk ((ls.getD i []).getD j ru0)
theorem RrOk.ok {ls : List (List Ru)} (h : RrOk ls) (hl : ls.length ≤ 9223372036854775807) : OkRows ls := ⟨hl, fun i hi => ⟨(h i hi).1, fun j hj => ((h i hi).2 j hj).2.1⟩⟩

set_option maxRecDepth 100000 in
theorem arg_rrules {W : World} {base : Nat} {v : Value} {d : DataW H} {p : List MemPlace} (hval : Value.okWide Tryd.prog W .any base 25 v) (h : DataW.Trod enc Tryd.prog W 0 (fun _ => true) true 25 v d p) :
    ∃ (A : Option Addr) (l : List (List Ru)) (cap : Nat), v = .slice A l.length cap ∧ l.length ≤ cap ∧ cap ≤ 9223372036854775807 ∧ HoldsRR W.heap.size W A l ∧ RrOk l := by
  obtain ⟨a0, len0, cap0, rfl⟩ := okWide_slice Tryd.underlying25 hval
  obtain ⟨fuel, hf⟩ := h
  rcases open_slice Tryd.underlying25 hf with ⟨hcs, _⟩ | ⟨a, len, cap, m, n, D, Pl, hcs, hb, hl, hm, hmm, hx, hi⟩
  · simp [Value.cells] at hcs
    obtain ⟨rfl, rfl, rfl⟩ := hcs
    exact ⟨none, [], 0, rfl, by simp, by omega, fun h => absurd h (by simp), fun i h => absurd h (by simp)⟩
  · simp [Value.cells] at hcs
    obtain ⟨rfl, rfl, rfl⟩ := hcs
    simp only [if_true] at hmm
    subst hmm
    unfold maxLen at hm
    have hC : Tryd.prog.cellsOf 30 = 1 := by kernel_rfl
    have key2 : ∀ i, ∃ q : List Ru, i < m → ∃ B c, W.cell? (a.add i) = some (.slice B q.length c) ∧ q.length ≤ 9223372036854775807 ∧ HoldsR W.heap.size W B q ∧ ∀ j, j < q.length → RuOk (q.getD j ru0) := fun i => by
      by_cases him : i < m
      · obtain ⟨cs', hc, ht⟩ := hi i him
        rw [hC, Nat.mul_one] at hc
        obtain ⟨_, hcl, hat⟩ := World.cells?_some hc
        obtain ⟨c0, rfl⟩ : ∃ c0, cs' = [c0] := by
          match cs', hcl with
          | [c0], _ => exact ⟨c0, rfl⟩
        obtain ⟨B, l, c, rfl, k1, k2, k3, k4⟩ := read_rules ht
        have h1 := hat 0 (by omega)
        refine ⟨l, fun _ => ⟨B, c, ?_, by omega, k3, k4⟩⟩
        have e : (a.add i).add 0 = a.add i := by unfold Addr.add; split <;> simp_all
        rw [← e]; exact h1
      · exact ⟨[], fun h => absurd h him⟩
    obtain ⟨q, hq⟩ := Classical.axiomOfChoice key2
    have hlen : ((List.range len0).map q).length = len0 := by simp
    refine ⟨some a, (List.range len0).map q, m, by rw [hlen], by rw [hlen]; exact hl, hm, fun h0 => ?_, fun i hi' => ?_⟩
    · rw [hlen] at h0
      obtain ⟨b, off, spot⟩ := a
      obtain ⟨B, c, h00, _⟩ := hq 0 (by omega)
      have hspot : spot = none := by simpa [Addr.add] using World.cell?_spot h00
      subst hspot
      refine ⟨b, off, rfl, in_world (x := ⟨b, off, none⟩) h00, fun j hj => ?_⟩
      rw [hlen] at hj
      obtain ⟨B, c, h1, _, h2, _⟩ := hq j (by omega)
      rw [getD_range q [] hj]
      exact ⟨B, c, by rw [← h1, add_off], h2⟩
    · rw [hlen] at hi'
      rw [getD_range q [] hi']
      obtain ⟨B, c, _, h1, _, h2⟩ := hq i (by omega)
      exact ⟨h1, h2⟩

set_option maxRecDepth 100000 in
theorem read_attrs {W : World} {base : Nat} {held : Bool} {fuel : Nat} {v : Value} {x : DataW H × List MemPlace} (h : DataW.trod enc Tryd.prog W base (fun _ => true) held fuel 34 [v] = some x) :
    ∃ (A : Option Addr) (l : List Attr) (cap : Nat), v = .slice A l.length cap ∧ l.length ≤ 9223372036854775807 ∧ HoldsA W.heap.size W A l := by
  rcases open_slice Tryd.underlying34 h with ⟨hcs, _⟩ | ⟨a, len, cap, m, n, D, Pl, hcs, hb, hl, hm, hmm, hx, hi⟩
  · simp at hcs
    subst hcs
    exact ⟨none, [], 0, rfl, by simp, fun h => absurd h (by simp)⟩
  · simp at hcs
    subst hcs
    simp only [if_true] at hmm
    subst hmm
    unfold maxLen at hm
    have hC : Tryd.prog.cellsOf 65 = 2 := by kernel_rfl
    have hC1 : Tryd.prog.cellsOf 9 = 1 := by kernel_rfl
    have key2 : ∀ i, ∃ q : Attr, i < m → W.cell? (a.add (i * 2)) = some (.string q.1) ∧ W.cell? ((a.add (i * 2)).add 1) = some (.string q.2) := fun i => by
      by_cases him : i < m
      · obtain ⟨cs', hc, ht⟩ := hi i him
        rw [hC] at hc
        obtain ⟨ys, n', hn', hy, hlen, hyl, hf⟩ := DataW.trod_struct Tryd.underlying65 ht
        obtain ⟨_, hcl, hat⟩ := World.cells?_some hc
        obtain ⟨y0, hy0⟩ := some_at hyl (i := 0) (by simp)
        obtain ⟨y1, hy1⟩ := some_at hyl (i := 1) (by simp)
        have f0 := (hf 0 _ rfl).trans hy0
        have f1 := (hf 1 _ rfl).trans hy1
        obtain ⟨c0, c1, rfl⟩ : ∃ a b, cs' = [a, b] := by
          match cs', hcl with
          | [a, b], _ => exact ⟨a, b, rfl⟩
        simp [hC1] at f0 f1
        obtain ⟨s1, e1, _, b1⟩ := DataW.trod_string Tryd.underlying9 f0
        obtain ⟨s2, e2, _, b2⟩ := DataW.trod_string Tryd.underlying9 f1
        simp at e1 e2
        subst e1 e2
        exact ⟨(s1, s2), fun _ => ⟨hat 0 (by omega), hat 1 (by omega)⟩⟩
      · exact ⟨(none8, none8), fun h => absurd h him⟩
    obtain ⟨q, hq⟩ := Classical.axiomOfChoice key2
    have hlen : ((List.range len).map q).length = len := by simp
    refine ⟨some a, (List.range len).map q, m, by rw [hlen], by rw [hlen]; omega, fun h0 => ?_⟩
    rw [hlen] at h0
    obtain ⟨b, off, spot⟩ := a
    have hspot : spot = none := by simpa [Addr.add] using World.cell?_spot (hq 0 (by omega)).1
    subst hspot
    refine ⟨b, off, rfl, in_world (x := ⟨b, off, none⟩) (hq 0 (by omega)).1, fun j hj => ?_⟩
    rw [hlen] at hj
    obtain ⟨k1, k2⟩ := hq j (by omega)
    rw [getD_range q (none8, none8) hj]
    rw [add_off] at k1 k2
    rw [add_off] at k2
    exact ⟨k1, k2⟩

set_option maxRecDepth 100000 in
theorem read_span {W : World} {base : Nat} {held : Bool} {fuel : Nat} {cs : List Value} {x : DataW H × List MemPlace} (hcl : cs.length = 10) (h : DataW.trod enc Tryd.prog W base (fun _ => true) held fuel 36 cs = some x) :
    ∃ (s : Sp) (B : Option Addr) (c : Nat), cs = [.int .u64 (s.hi : Int), .int .u64 (s.lo : Int), .int .u64 (s.id : Int), .int .u64 (s.par : Int), .string s.name, .int .i64 s.start, .int .i64 s.stop, .bool s.bad, .slice B s.attrs.length c, .int .u64 (s.rv : Int)] ∧ s.attrs.length ≤ 9223372036854775807 ∧ HoldsA W.heap.size W B s.attrs := by
  have K1 : Tryd.prog.cellsOf 24 = 1 := by kernel_rfl
  have K2 : Tryd.prog.cellsOf 9 = 1 := by kernel_rfl
  have K3 : Tryd.prog.cellsOf 3 = 1 := by kernel_rfl
  have K4 : Tryd.prog.cellsOf 4 = 1 := by kernel_rfl
  have K5 : Tryd.prog.cellsOf 34 = 1 := by kernel_rfl
  obtain ⟨ys, n', hn', hy, hlen, hyl, sh⟩ := DataW.trod_struct Tryd.underlying36 h
  obtain ⟨c0, c1, c2, c3, c4, c5, c6, c7, c8, c9, rfl⟩ := ten_of hcl
  obtain ⟨y0, e0⟩ := some_at hyl (i := 0) (by simp)
  have f0 := (sh 0 _ rfl).trans e0
  obtain ⟨y1, e1⟩ := some_at hyl (i := 1) (by simp)
  have f1 := (sh 1 _ rfl).trans e1
  obtain ⟨y2, e2⟩ := some_at hyl (i := 2) (by simp)
  have f2 := (sh 2 _ rfl).trans e2
  obtain ⟨y3, e3⟩ := some_at hyl (i := 3) (by simp)
  have f3 := (sh 3 _ rfl).trans e3
  obtain ⟨y4, e4⟩ := some_at hyl (i := 4) (by simp)
  have f4 := (sh 4 _ rfl).trans e4
  obtain ⟨y5, e5⟩ := some_at hyl (i := 5) (by simp)
  have f5 := (sh 5 _ rfl).trans e5
  obtain ⟨y6, e6⟩ := some_at hyl (i := 6) (by simp)
  have f6 := (sh 6 _ rfl).trans e6
  obtain ⟨y7, e7⟩ := some_at hyl (i := 7) (by simp)
  have f7 := (sh 7 _ rfl).trans e7
  obtain ⟨y8, e8⟩ := some_at hyl (i := 8) (by simp)
  have f8 := (sh 8 _ rfl).trans e8
  obtain ⟨y9, e9⟩ := some_at hyl (i := 9) (by simp)
  have f9 := (sh 9 _ rfl).trans e9
  clear sh
  simp [K1, K2, K3, K4, K5] at f0 f1 f2 f3 f4 f5 f6 f7 f8 f9
  obtain ⟨z0, q0, _, w0⟩ := DataW.trod_int Tryd.underlying24 f0
  simp at q0
  subst q0
  have b0 := wf_u64 w0
  obtain ⟨x0, rfl⟩ := Int.eq_ofNat_of_zero_le b0.1
  obtain ⟨z1, q1, _, w1⟩ := DataW.trod_int Tryd.underlying24 f1
  simp at q1
  subst q1
  have b1 := wf_u64 w1
  obtain ⟨x1, rfl⟩ := Int.eq_ofNat_of_zero_le b1.1
  obtain ⟨z2, q2, _, w2⟩ := DataW.trod_int Tryd.underlying24 f2
  simp at q2
  subst q2
  have b2 := wf_u64 w2
  obtain ⟨x2, rfl⟩ := Int.eq_ofNat_of_zero_le b2.1
  obtain ⟨z3, q3, _, w3⟩ := DataW.trod_int Tryd.underlying24 f3
  simp at q3
  subst q3
  have b3 := wf_u64 w3
  obtain ⟨x3, rfl⟩ := Int.eq_ofNat_of_zero_le b3.1
  obtain ⟨z9, q9, _, w9⟩ := DataW.trod_int Tryd.underlying24 f9
  simp at q9
  subst q9
  have b9 := wf_u64 w9
  obtain ⟨x9, rfl⟩ := Int.eq_ofNat_of_zero_le b9.1
  obtain ⟨x4, q4, _, b4⟩ := DataW.trod_string Tryd.underlying9 f4
  simp at q4
  subst q4
  obtain ⟨x5, q5, _, w5⟩ := DataW.trod_int Tryd.underlying3 f5
  simp at q5
  subst q5
  obtain ⟨x6, q6, _, w6⟩ := DataW.trod_int Tryd.underlying3 f6
  simp at q6
  subst q6
  obtain ⟨x7, q7, _⟩ := DataW.trod_bool Tryd.underlying4 f7
  simp at q7
  subst q7
  obtain ⟨B, l, c, rfl, hl, hh⟩ := read_attrs f8
  exact ⟨⟨x0, x1, x2, x3, x4, x5, x6, x7, l, x9⟩, B, c, rfl, hl, hh⟩

/-- Spans that came in. -/
def SsOk (l : List Sp) : Prop := ∀ i, i < l.length → (l.getD i sp0).attrs.length ≤ 9223372036854775807
set_option maxRecDepth 100000 in
theorem arg_spans {W : World} {base : Nat} {v : Value} {d : DataW H} {p : List MemPlace} (hval : Value.okWide Tryd.prog W .any base 28 v) (h : DataW.Trod enc Tryd.prog W 0 (fun _ => true) true 28 v d p) :
    ∃ (A : Option Addr) (l : List Sp) (cap : Nat), v = .slice A l.length cap ∧ l.length ≤ cap ∧ cap ≤ 9223372036854775807 ∧ HoldsS W.heap.size W A l ∧ SsOk l := by
  obtain ⟨a0, len0, cap0, rfl⟩ := okWide_slice Tryd.underlying28 hval
  obtain ⟨fuel, hf⟩ := h
  rcases open_slice Tryd.underlying28 hf with ⟨hcs, _⟩ | ⟨a, len, cap, m, n, D, Pl, hcs, hb, hl, hm, hmm, hx, hi⟩
  · simp [Value.cells] at hcs
    obtain ⟨rfl, rfl, rfl⟩ := hcs
    exact ⟨none, [], 0, rfl, by simp, by omega, fun h => absurd h (by simp), fun i h => absurd h (by simp)⟩
  · simp [Value.cells] at hcs
    obtain ⟨rfl, rfl, rfl⟩ := hcs
    simp only [if_true] at hmm
    subst hmm
    unfold maxLen at hm
    have hC : Tryd.prog.cellsOf 36 = 10 := by kernel_rfl
    have key2 : ∀ i, ∃ q : Sp, i < m → q.attrs.length ≤ 9223372036854775807 ∧ ∃ B c, HoldsA W.heap.size W B q.attrs ∧ ∀ k, k < 10 → W.cell? ((a.add (i * 10)).add k) = (#[.int .u64 (q.hi : Int), .int .u64 (q.lo : Int), .int .u64 (q.id : Int), .int .u64 (q.par : Int), .string q.name, .int .i64 q.start, .int .i64 q.stop, .bool q.bad, .slice B q.attrs.length c, .int .u64 (q.rv : Int)] : Array Value)[k]? := fun i => by
      by_cases him : i < m
      · obtain ⟨cs', hc, ht⟩ := hi i him
        rw [hC] at hc
        obtain ⟨_, hcl, hat⟩ := World.cells?_some hc
        obtain ⟨s, B, c, rfl, hl', hr⟩ := read_span hcl ht
        exact ⟨s, fun _ => ⟨hl', B, c, hr, fun k hk => (hat k (by omega)).trans (by simp)⟩⟩
      · exact ⟨sp0, fun h => absurd h him⟩
    obtain ⟨q, hq⟩ := Classical.axiomOfChoice key2
    have hlen : ((List.range len0).map q).length = len0 := by simp
    refine ⟨some a, (List.range len0).map q, m, by rw [hlen], by rw [hlen]; exact hl, hm, fun h0 => ?_, fun i hi' => ?_⟩
    · rw [hlen] at h0
      obtain ⟨b, off, spot⟩ := a
      obtain ⟨_, B0, c0, _, h00⟩ := hq 0 (by omega)
      have h1 : W.cell? (((⟨b, off, spot⟩ : Addr).add (0 * 10)).add 0) = some (.int .u64 ((q 0).hi : Int)) := h00 0 (by omega)
      have hspot : spot = none := by simpa [Addr.add] using World.cell?_spot h1
      subst hspot
      have hlt : b < W.heap.size := by
        rw [add_off] at h1
        exact in_world (x := ⟨b, off + 0 * 10, none⟩) h1
      refine ⟨b, off, rfl, hlt, fun j hj => ?_⟩
      rw [hlen] at hj
      obtain ⟨_, B, c, hA, hk⟩ := hq j (by omega)
      rw [getD_range q sp0 hj]
      have t : ∀ k, k < 10 → W.cell? ⟨b, off + j * 10 + k, none⟩ = (#[.int .u64 ((q j).hi : Int), .int .u64 ((q j).lo : Int), .int .u64 ((q j).id : Int), .int .u64 ((q j).par : Int), .string (q j).name, .int .i64 (q j).start, .int .i64 (q j).stop, .bool (q j).bad, .slice B (q j).attrs.length c, .int .u64 ((q j).rv : Int)] : Array Value)[k]? := fun k hk' => by rw [← hk k hk', add_off, add_off]
      exact ⟨B, c, t 0 (by omega), t 1 (by omega), t 2 (by omega), t 3 (by omega), t 4 (by omega), t 5 (by omega), t 6 (by omega), t 7 (by omega), t 8 (by omega), t 9 (by omega), hA⟩
    · rw [hlen] at hi'
      rw [getD_range q sp0 hi']
      exact (hq i (by omega)).1

set_option maxRecDepth 100000 in
/-- A rule that came in. -/
theorem arg_rule {W : World} {base : Nat} {v : Value} {d : DataW H} {p : List MemPlace} (hval : Value.okWide Tryd.prog W .any base 39 v) (h : DataW.Trod enc Tryd.prog W 0 (fun _ => true) true 39 v d p) :
    ∃ r : Ru, v = .agg (ruCells r) ∧ RuOk r := by
  simp only [Value.okWide, Tryd.underlying39] at hval
  obtain ⟨cs, rfl, hs, _⟩ := hval
  rw [show Tryd.prog.cellsOf 39 = 4 by kernel_rfl] at hs
  obtain ⟨fuel, hf⟩ := h
  simp only [Value.cells] at hf
  obtain ⟨r, hr, ho⟩ := read_rule (by simpa using hs) hf
  refine ⟨r, ?_, ho⟩
  rw [show cs = ruCells r from Array.toList_inj.1 hr]
end
end Go.Proofs.YtmjbdjcpjaeemaaDoor
