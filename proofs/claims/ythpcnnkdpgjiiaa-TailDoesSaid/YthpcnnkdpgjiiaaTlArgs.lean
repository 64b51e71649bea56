/-
  Slices of deeds that came in: what they hold; what Of makes of a deed.
-/
import Derived.Deep.Slices
import Derived.Deep.Fields
import Derived.ChangeSame
import Derived.Test.YthpcnnkdpgjiiaaTlRow
namespace Go.Proofs.Ythpcnnkdpgjiiaa
open Go.ChangeShapes Go.WideShapes Go.Deep Go.ChangeAt Go.RowKit Go.Proofs.HeapMath Go.Proofs.TailMath

theorem some_at {α : Type} {xs : List α} {n i : Nat} (h : xs.length = n) (hi : i < n) : ∃ y, xs[i]? = some y := ⟨xs[i]'(by omega), List.getElem?_eq_getElem (by omega)⟩
theorem wf_u8' {n : Int} (h : (Lit.int .u8 n).wf = true) : 0 ≤ n ∧ n ≤ 255 := by
  have e1 : IntKind.u8.min = 0 := rfl
  have e2 : IntKind.u8.max = 255 := rfl
  simp only [Lit.wf, Bool.and_eq_true, decide_eq_true_eq] at h
  omega
/-- A deed. -/
structure De where
  what : Nat
  after : Nat
  trace : Nat
  more : Nat
def De.ok (d : De) : Prop := d.what ≤ 255 ∧ d.after ≤ 255 ∧ d.trace ≤ 255 ∧ d.more ≤ 255
def de0 : De := ⟨0, 0, 0, 0⟩
def deL (d : De) : List Value := [.int .u8 (d.what : Int), .int .u8 (d.after : Int), .int .u8 (d.trace : Int), .int .u8 (d.more : Int)]
/-- The slice value holds the deeds l, below B. -/
def Dds (B : Nat) (W : World) (A : Option Addr) (l : List De) : Prop :=
  0 < l.length → ∃ g off, A = some ⟨g, off, none⟩ ∧ g < B ∧ ∀ j, j < l.length → W.cell? ⟨g, off + j * 4, none⟩ = some (.int .u8 ((l.getD j de0).what : Int)) ∧ W.cell? ⟨g, off + j * 4 + 1, none⟩ = some (.int .u8 ((l.getD j de0).after : Int)) ∧ W.cell? ⟨g, off + j * 4 + 2, none⟩ = some (.int .u8 ((l.getD j de0).trace : Int)) ∧ W.cell? ⟨g, off + j * 4 + 3, none⟩ = some (.int .u8 ((l.getD j de0).more : Int)) ∧ (l.getD j de0).ok
section
variable {H : Type} {enc : TypeId × Value → H}
set_option maxRecDepth 100000 in
theorem arg_deeds {W : World} {base : Nat} {v : Value} {d : DataW H} {p : List MemPlace} (hval : Value.okWide Try.prog W .any base 46 v) (h : DataW.Trod enc Try.prog W 0 (fun _ => true) true 46 v d p) :
    ∃ (A : Option Addr) (l : List De) (cap : Nat), v = .slice A l.length cap ∧ l.length ≤ cap ∧ cap ≤ 9223372036854775807 ∧ Dds W.heap.size W A l := by
  obtain ⟨a0, len0, cap0, rfl⟩ := okWide_slice Try.underlying46 hval
  obtain ⟨fuel, hf⟩ := h
  rcases open_slice Try.underlying46 hf with ⟨hcs, _⟩ | ⟨a, len, cap, m, n, D, Pl, hcs, hb, hl, hm, hmm, hx, hi⟩
  · simp [Value.cells] at hcs
    obtain ⟨rfl, rfl, rfl⟩ := hcs
    exact ⟨none, [], 0, rfl, by simp, by omega, fun h => absurd h (by simp)⟩
  · simp [Value.cells] at hcs
    obtain ⟨rfl, rfl, rfl⟩ := hcs
    simp only [if_true] at hmm
    subst hmm
    have hC : Try.prog.cellsOf 54 = 4 := by kernel_rfl
    have hC1 : Try.prog.cellsOf 5 = 1 := by kernel_rfl
    have key2 : ∀ i, ∃ q : De, i < m → W.cell? (a.add (i * 4)) = some (.int .u8 (q.what : Int)) ∧ W.cell? ((a.add (i * 4)).add 1) = some (.int .u8 (q.after : Int)) ∧ W.cell? ((a.add (i * 4)).add 2) = some (.int .u8 (q.trace : Int)) ∧ W.cell? ((a.add (i * 4)).add 3) = some (.int .u8 (q.more : Int)) ∧ q.ok := fun i => by
      by_cases him : i < m
      · obtain ⟨cs', hc, ht⟩ := hi i him
        rw [hC] at hc
        obtain ⟨ys, n', hn', hy, hlen, hyl, hf⟩ := DataW.trod_struct Try.underlying54 ht
        obtain ⟨_, hcl, hat⟩ := World.cells?_some hc
        obtain ⟨y0, hy0⟩ := some_at hyl (i := 0) (by simp)
        obtain ⟨y1, hy1⟩ := some_at hyl (i := 1) (by simp)
        obtain ⟨y2, hy2⟩ := some_at hyl (i := 2) (by simp)
        obtain ⟨y3, hy3⟩ := some_at hyl (i := 3) (by simp)
        have f0 := (hf 0 _ rfl).trans hy0
        have f1 := (hf 1 _ rfl).trans hy1
        have f2 := (hf 2 _ rfl).trans hy2
        have f3 := (hf 3 _ rfl).trans hy3
        obtain ⟨c0, c1, c2, c3, rfl⟩ : ∃ a b c d, cs' = [a, b, c, d] := by
          match cs', hcl with
          | [a, b, c, d], _ => exact ⟨a, b, c, d, rfl⟩
        simp [hC1] at f0 f1 f2 f3
        obtain ⟨z0, q0, _, w0⟩ := DataW.trod_int Try.underlying5 f0
        obtain ⟨z1, q1, _, w1⟩ := DataW.trod_int Try.underlying5 f1
        obtain ⟨z2, q2, _, w2⟩ := DataW.trod_int Try.underlying5 f2
        obtain ⟨z3, q3, _, w3⟩ := DataW.trod_int Try.underlying5 f3
        simp at q0 q1 q2 q3
        subst q0 q1 q2 q3
        have b0 := wf_u8' w0
        have b1 := wf_u8' w1
        have b2 := wf_u8' w2
        have b3 := wf_u8' w3
        obtain ⟨x0, rfl⟩ := Int.eq_ofNat_of_zero_le b0.1
        obtain ⟨x1, rfl⟩ := Int.eq_ofNat_of_zero_le b1.1
        obtain ⟨x2, rfl⟩ := Int.eq_ofNat_of_zero_le b2.1
        obtain ⟨x3, rfl⟩ := Int.eq_ofNat_of_zero_le b3.1
        exact ⟨⟨x0, x1, x2, x3⟩, fun _ => ⟨hat 0 (by omega), hat 1 (by omega), hat 2 (by omega), hat 3 (by omega), by show x0 ≤ 255; omega, by show x1 ≤ 255; omega, by show x2 ≤ 255; omega, by show x3 ≤ 255; omega⟩⟩
      · exact ⟨de0, fun h => absurd h him⟩
    obtain ⟨q, hq⟩ := Classical.axiomOfChoice key2
    have hlen : ((List.range len0).map q).length = len0 := by simp
    refine ⟨some a, (List.range len0).map q, m, by rw [hlen], by rw [hlen]; exact hl, hm, fun h0 => ?_⟩
    rw [hlen] at h0
    obtain ⟨b, off, spot⟩ := a
    have hspot : spot = none := by simpa [Addr.add] using World.cell?_spot (hq 0 (by omega)).1
    subst hspot
    have hlt : b < W.heap.size := by
      have h1 := (hq 0 (by omega)).1
      have h2 : ((⟨b, off, none⟩ : Addr).add (0 * 4)).block = b := by unfold Addr.add; split <;> rfl
      rcases Nat.lt_or_ge b W.heap.size with h3 | h3
      · exact h3
      · simp [World.cell?, h2, Array.getElem?_eq_none h3] at h1
    refine ⟨b, off, rfl, hlt, fun j hj => ?_⟩
    rw [hlen] at hj
    obtain ⟨k1, k2, k3, k4, k5⟩ := hq j (by omega)
    have e1 : ((List.range len0).map q).getD j de0 = q j := by simp [List.getD, hj]
    simp only [Addr.add_lit] at k1 k2 k3 k4
    rw [e1]
    exact ⟨k1, k2, k3, k4, k5⟩
end
def ofHi (d : De) : Nat := d.trace / 5 % 2
def ofLo (d : De) : Nat := d.trace % 5 + 1
def ofSp (d : De) : Sp := ⟨ofHi d, ofLo d, d.more + 1, 0, ⟨#[110]⟩, 0, (d.more : Int), false, 0⟩
theorem ofU (d : De) : u64 (ofSp d).hi ∧ u64 (ofSp d).lo := by
  refine ⟨?_, ?_⟩
  · show d.trace / 5 % 2 < 18446744073709551616; omega
  · show d.trace % 5 + 1 < 18446744073709551616; omega
set_option linter.unusedSimpArgs false in
set_option maxRecDepth 100000 in
set_option maxHeartbeats 1000000 in
theorem of_any (d : De) (w : World) (hd : d.ok) : Calls Try.prog 21 #[.agg #[.int .u8 (d.what : Int), .int .u8 (d.after : Int), .int .u8 (d.trace : Int), .int .u8 (d.more : Int)]] w fun e w' => e = .returned (spV (ofSp d)) ∧ Below w.heap.size w w' := by
  obtain ⟨hi, hhi⟩ : ∃ x, ofHi d = x := ⟨_, rfl⟩
  obtain ⟨lo, hlo⟩ : ∃ x, ofLo d = x := ⟨_, rfl⟩
  obtain ⟨a, b, c, m⟩ := d
  obtain ⟨d1, d2, d3, d4⟩ := hd
  simp only at d1 d2 d3 d4
  obtain ⟨c5, hc5, hc5'⟩ : ∃ x : Nat, (c : Int) % 5 = (x : Int) ∧ x ≤ 4 := ⟨c % 5, by omega, by omega⟩
  obtain ⟨q5, hq5, hq5'⟩ : ∃ x : Nat, (c : Int) / 5 = (x : Int) ∧ x ≤ 51 := ⟨c / 5, by omega, by omega⟩
  have hq5t : (c : Int).tdiv 5 = (q5 : Int) := by rw [Int.tdiv_eq_ediv_of_nonneg (by omega)]; exact hq5
  have hlo2 : (c5 : Int) + 1 = (lo : Int) := by unfold ofLo at hlo; simp only at hlo; omega
  have hhi2 : (q5 : Int) % 2 = (hi : Int) := by unfold ofHi at hhi; simp only at hhi; omega
  have hhi3 : hi ≤ 1 := by unfold ofHi at hhi; simp only at hhi; omega
  obtain ⟨m1, hm1, hm1'⟩ : ∃ x : Nat, (m : Int) + 1 = (x : Int) ∧ x = m + 1 := ⟨m + 1, by omega, rfl⟩
  have hspv : spV (ofSp ⟨a, b, c, m⟩) = .agg #[.int .u64 (hi : Int), .int .u64 (lo : Int), .int .u64 (m1 : Int), .int .u64 0, .string ⟨#[110]⟩, .int .i64 0, .int .i64 (m : Int), .bool false, .slice none 0 0, .int .u64 0] := by
    unfold spV ofSp
    rw [hhi, hlo, hm1']
    rfl
  rw [hspv]
  have hm256 : m1 ≤ 256 := by omega
  have hB : Below w.heap.size w ((w.alloc (.cells #[.int .u8 (a : Int), .int .u8 (b : Int), .int .u8 (c : Int), .int .u8 (m : Int)] 54)).alloc (.cells #[.int .u64 (hi : Int), .int .u64 (lo : Int), .int .u64 (m1 : Int), .int .u64 0, .string ⟨#[110]⟩, .int .i64 0, .int .i64 (m : Int), .bool false, .slice none 0 0, .int .u64 0] 35)) := (box_below _).alloc (by simp) _
  have hk := blk_new (w.alloc (.cells #[.int .u8 (a : Int), .int .u8 (b : Int), .int .u8 (c : Int), .int .u8 (m : Int)] 54)) #[.int .u64 (hi : Int), .int .u64 (lo : Int), .int .u64 (m1 : Int), .int .u64 0, .string ⟨#[110]⟩, .int .i64 0, .int .i64 (m : Int), .bool false, .slice none 0 0, .int .u64 0] 35
  rw [World.size_alloc] at hk
  obtain ⟨n0, hn0⟩ : ∃ n, w.heap.size = n := ⟨_, rfl⟩
  rw [hn0] at hk hB ⊢
  have HB := Lib.hid hB
  have HK := Lib.hid hk
  have hlo3 : lo ≤ 5 := by omega
  clear hB hk hhi hlo hm1' hspv
  go_enter Try.func21, Try.ntmps21
  go_wp2_with fail
  have q0 := HK.out.cell 0 rfl
  have q1 := HK.out.cell 1 rfl
  have q2 := HK.out.cell 2 rfl
  have q3 := HK.out.cell 3 rfl
  have q4 := HK.out.cell 4 rfl
  have q5 := HK.out.cell 5 rfl
  have q6 := HK.out.cell 6 rfl
  have q7 := HK.out.cell 7 rfl
  have q8 := HK.out.cell 8 rfl
  have q9 := HK.out.cell 9 rfl
  exact bodyPost_ret (v := .agg #[.int .u64 (hi : Int), .int .u64 (lo : Int), .int .u64 (m1 : Int), .int .u64 0, .string ⟨#[110]⟩, .int .i64 0, .int .i64 (m : Int), .bool false, .slice none 0 0, .int .u64 0]) (by simp [results, Try.results21, go_sem, q0, q1, q2, q3, q4, q5, q6, q7, q8, q9]) rfl ⟨rfl, HB.out⟩
end Go.Proofs.Ythpcnnkdpgjiiaa
