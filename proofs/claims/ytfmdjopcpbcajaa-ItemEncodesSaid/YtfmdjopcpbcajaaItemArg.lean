/-
  An api.Item that came in: its fifteen cells, typed; its attributes as they lie. No condition.
-/
import Derived.Test.YtfmdjopcpbcajaaItemAll
import Derived.Test.YtfmdjopcpbcajaaBytesLift
import Derived.Deep.Slices
import Derived.Deep.Fields
import Derived.ChangeSame
namespace Go.Proofs.Ytfmdjopcpbcajaa
open Go.ChangeShapes Go.WideShapes Go.Deep Go.ChangeAt Go.RowKit Go.Proofs.NumMath Go.Proofs.ItemMath

section
variable {H : Type} {enc : TypeId × Value → H} {P : Program} {w : World} {base : Nat} {spare : Nat → Bool} {held : Bool}

/-- A field of one cell, out of a struct's reading. -/
theorem some_at {α : Type} {xs : List α} {n i : Nat} (h : xs.length = n) (hi : i < n) : ∃ y, xs[i]? = some y := ⟨xs[i]'(by omega), List.getElem?_eq_getElem (by omega)⟩
end

theorem fifteen_of {l : List Value} (h : l.length = 15) : ∃ a b c d e f g i j k m n o p q, l = [a, b, c, d, e, f, g, i, j, k, m, n, o, p, q] := by
  match l, h with
  | [a, b, c, d, e, f, g, i, j, k, m, n, o, p, q], _ => exact ⟨a, b, c, d, e, f, g, i, j, k, m, n, o, p, q, rfl⟩

section
variable {H : Type} {enc : TypeId × Value → H}

set_option maxRecDepth 100000 in
/-- A slice of attributes, read: what it holds. -/
theorem read_attrs {W : World} {base : Nat} {held : Bool} {fuel : Nat} {v : Value} {x : DataW H × List MemPlace} (h : DataW.trod enc Try.prog W base (fun _ => true) held fuel 24 [v] = some x) :
    ∃ (A : Option Addr) (l : List Attr) (cap : Nat), v = .slice A l.length cap ∧ l.length ≤ cap ∧ cap ≤ 9223372036854775807 ∧ HoldsA W.heap.size W A l := by
  rcases open_slice Try.underlying24 h with ⟨hcs, _⟩ | ⟨a, len, cap, m, n, D, Pl, hcs, hb, hl, hm, hmm, hx, hi⟩
  · simp at hcs
    subst hcs
    exact ⟨none, [], 0, rfl, by simp, by omega, fun h => absurd h (by simp)⟩
  · simp at hcs
    subst hcs
    simp only [if_true] at hmm
    subst hmm
    have hC : Try.prog.cellsOf 36 = 2 := by kernel_rfl
    have hC1 : Try.prog.cellsOf 9 = 1 := by kernel_rfl
    have key : ∀ i, i < m → ∃ s1 s2 : ByteArray, W.cell? (a.add (i * 2)) = some (.string s1) ∧ W.cell? ((a.add (i * 2)).add 1) = some (.string s2) ∧ s1.size ≤ maxLen ∧ s2.size ≤ maxLen := fun i him => by
      obtain ⟨cs', hc, ht⟩ := hi i him
      rw [hC] at hc
      obtain ⟨ys, n', hn', hy, hlen, hyl, hf⟩ := DataW.trod_struct Try.underlying36 ht
      obtain ⟨_, hcl, hat⟩ := World.cells?_some hc
      obtain ⟨y0, hy0⟩ := some_at hyl (i := 0) (by simp)
      obtain ⟨y1, hy1⟩ := some_at hyl (i := 1) (by simp)
      have f0 := (hf 0 _ rfl).trans hy0
      have f1 := (hf 1 _ rfl).trans hy1
      obtain ⟨c0, c1, rfl⟩ : ∃ a b, cs' = [a, b] := by
        match cs', hcl with
        | [a, b], _ => exact ⟨a, b, rfl⟩
      simp [hC1] at f0 f1
      obtain ⟨s1, e1, _, b1⟩ := DataW.trod_string Try.underlying9 f0
      obtain ⟨s2, e2, _, b2⟩ := DataW.trod_string Try.underlying9 f1
      simp at e1 e2
      subst e1 e2
      exact ⟨s1, s2, hat 0 (by omega), hat 1 (by omega), b1, b2⟩
    have key2 : ∀ i, ∃ q : Attr, i < m → W.cell? (a.add (i * 2)) = some (.string q.1) ∧ W.cell? ((a.add (i * 2)).add 1) = some (.string q.2) ∧ q.1.size ≤ maxLen ∧ q.2.size ≤ maxLen := fun i => by
      by_cases him : i < m
      · obtain ⟨s1, s2, h⟩ := key i him
        exact ⟨(s1, s2), fun _ => h⟩
      · exact ⟨(none8, none8), fun h => absurd h him⟩
    obtain ⟨q, hq⟩ := Classical.axiomOfChoice key2
    have hlen : ((List.range len).map q).length = len := by simp
    refine ⟨some a, (List.range len).map q, m, by rw [hlen], by rw [hlen]; exact hl, hm, fun h0 => ?_⟩
    rw [hlen] at h0
    obtain ⟨b, off, spot⟩ := a
    have hspot : spot = none := by simpa [Addr.add] using World.cell?_spot (hq 0 (by omega)).1
    subst hspot
    have hlt : b < W.heap.size := by
      have h1 := (hq 0 (by omega)).1
      have h2 : ((⟨b, off, none⟩ : Addr).add (0 * 2)).block = b := by unfold Addr.add; split <;> rfl
      rcases Nat.lt_or_ge b W.heap.size with h3 | h3
      · exact h3
      · simp [World.cell?, h2, Array.getElem?_eq_none h3] at h1
    refine ⟨b, off, rfl, hlt, fun j hj => ?_⟩
    rw [hlen] at hj
    obtain ⟨k1, k2, k3, k4⟩ := hq j (by omega)
    have e1 : ((List.range len).map q).getD j (none8, none8) = q j := by simp [List.getD, hj]
    have e2 : (⟨b, off, none⟩ : Addr).add (j * 2) = ⟨b, off + j * 2, none⟩ := by unfold Addr.add; split <;> simp_all
    have e3 : (⟨b, off + j * 2, none⟩ : Addr).add 1 = ⟨b, off + j * 2 + 1, none⟩ := by unfold Addr.add; split <;> simp_all
    unfold maxLen at k3 k4
    rw [e2] at k1 k2
    rw [e3] at k2
    rw [e1]
    exact ⟨k1, k2, k3, k4⟩

set_option maxRecDepth 100000 in
/-- An item that came in. -/
theorem arg_item {W : World} {base : Nat} {v : Value} {d : DataW H} {p : List MemPlace} (hval : Value.okWide Try.prog W .any base 38 v) (h : DataW.Trod enc Try.prog W 0 (fun _ => true) true 38 v d p) :
    ∃ (k hi lo id par rv weight : Nat) (name key body : ByteArray) (start stop at_ : Int) (bad : Bool) (A : Option Addr) (l : List Attr) (cap : Nat),
      v = .agg #[.int .u8 (k : Int), .int .u64 (hi : Int), .int .u64 (lo : Int), .int .u64 (id : Int), .int .u64 (par : Int), .string name, .int .i64 start, .int .i64 stop, .bool bad, .slice A l.length cap, .int .u64 (rv : Int), .string key, .int .u64 (weight : Int), .int .i64 at_, .string body] ∧
      k < 256 ∧ hi < 18446744073709551616 ∧ lo < 18446744073709551616 ∧ id < 18446744073709551616 ∧ par < 18446744073709551616 ∧ rv < 18446744073709551616 ∧ weight < 18446744073709551616 ∧ name.size ≤ 9223372036854775807 ∧ key.size ≤ 9223372036854775807 ∧ body.size ≤ 9223372036854775807 ∧
      (-9223372036854775808 ≤ start ∧ start ≤ 9223372036854775807) ∧ (-9223372036854775808 ≤ stop ∧ stop ≤ 9223372036854775807) ∧ (-9223372036854775808 ≤ at_ ∧ at_ ≤ 9223372036854775807) ∧
      l.length ≤ cap ∧ cap ≤ 9223372036854775807 ∧ HoldsA W.heap.size W A l := by
  simp only [Value.okWide, Try.underlying38] at hval
  obtain ⟨cs, rfl, hs, _⟩ := hval
  rw [show Try.prog.cellsOf 38 = 15 by kernel_rfl] at hs
  obtain ⟨l⟩ := cs
  obtain ⟨c0, c1, c2, c3, c4, c5, c6, c7, c8, c9, c10, c11, c12, c13, c14, rfl⟩ := fifteen_of (l := l) (by simpa using hs)
  obtain ⟨fuel, hf⟩ := h
  simp only [Value.cells] at hf
  obtain ⟨ys, n', hn', hy, hlen, hyl, hg⟩ := DataW.trod_struct Try.underlying38 hf
  obtain ⟨y0, hy0⟩ := some_at hyl (i := 0) (by simp)
  obtain ⟨y1, hy1⟩ := some_at hyl (i := 1) (by simp)
  obtain ⟨y2, hy2⟩ := some_at hyl (i := 2) (by simp)
  have f0 := (hg 0 _ rfl).trans hy0
  have f1 := (hg 1 _ rfl).trans hy1
  have f2 := (hg 2 _ rfl).trans hy2
  clear hg
  have C1 : Try.prog.cellsOf 26 = 10 := by kernel_rfl
  have C2 : Try.prog.cellsOf 29 = 4 := by kernel_rfl
  have K0 : Try.prog.cellsOf 5 = 1 := by kernel_rfl
  have K1 : Try.prog.cellsOf 23 = 1 := by kernel_rfl
  have K2 : Try.prog.cellsOf 9 = 1 := by kernel_rfl
  have K3 : Try.prog.cellsOf 3 = 1 := by kernel_rfl
  have K4 : Try.prog.cellsOf 4 = 1 := by kernel_rfl
  have K5 : Try.prog.cellsOf 24 = 1 := by kernel_rfl
  simp [K0, C1, C2] at f0 f1 f2
  obtain ⟨ss, sn, _, _, _, sl, sh⟩ := DataW.trod_struct Try.underlying26 f1
  obtain ⟨sy0, se0⟩ := some_at sl (i := 0) (by simp)
  have sf0 := (sh 0 _ rfl).trans se0
  obtain ⟨sy1, se1⟩ := some_at sl (i := 1) (by simp)
  have sf1 := (sh 1 _ rfl).trans se1
  obtain ⟨sy2, se2⟩ := some_at sl (i := 2) (by simp)
  have sf2 := (sh 2 _ rfl).trans se2
  obtain ⟨sy3, se3⟩ := some_at sl (i := 3) (by simp)
  have sf3 := (sh 3 _ rfl).trans se3
  obtain ⟨sy4, se4⟩ := some_at sl (i := 4) (by simp)
  have sf4 := (sh 4 _ rfl).trans se4
  obtain ⟨sy5, se5⟩ := some_at sl (i := 5) (by simp)
  have sf5 := (sh 5 _ rfl).trans se5
  obtain ⟨sy6, se6⟩ := some_at sl (i := 6) (by simp)
  have sf6 := (sh 6 _ rfl).trans se6
  obtain ⟨sy7, se7⟩ := some_at sl (i := 7) (by simp)
  have sf7 := (sh 7 _ rfl).trans se7
  obtain ⟨sy8, se8⟩ := some_at sl (i := 8) (by simp)
  have sf8 := (sh 8 _ rfl).trans se8
  obtain ⟨sy9, se9⟩ := some_at sl (i := 9) (by simp)
  have sf9 := (sh 9 _ rfl).trans se9
  obtain ⟨gs, gn, _, _, _, gl, gh⟩ := DataW.trod_struct Try.underlying29 f2
  obtain ⟨gy0, ge0⟩ := some_at gl (i := 0) (by simp)
  have gf0 := (gh 0 _ rfl).trans ge0
  obtain ⟨gy1, ge1⟩ := some_at gl (i := 1) (by simp)
  have gf1 := (gh 1 _ rfl).trans ge1
  obtain ⟨gy2, ge2⟩ := some_at gl (i := 2) (by simp)
  have gf2 := (gh 2 _ rfl).trans ge2
  obtain ⟨gy3, ge3⟩ := some_at gl (i := 3) (by simp)
  have gf3 := (gh 3 _ rfl).trans ge3
  clear sh gh
  simp [K1, K2, K3, K4, K5] at sf0 sf1 sf2 sf3 sf4 sf5 sf6 sf7 sf8 sf9 gf0 gf1 gf2 gf3
  obtain ⟨z0, q0, _, w0⟩ := DataW.trod_int Try.underlying5 f0
  simp at q0
  subst q0
  have b0 := wf_u8 w0
  obtain ⟨x0, rfl⟩ := Int.eq_ofNat_of_zero_le b0.1
  obtain ⟨z1, q1, _, w1⟩ := DataW.trod_int Try.underlying23 sf0
  simp at q1
  subst q1
  have b1 := wf_u64 w1
  obtain ⟨x1, rfl⟩ := Int.eq_ofNat_of_zero_le b1.1
  obtain ⟨z2, q2, _, w2⟩ := DataW.trod_int Try.underlying23 sf1
  simp at q2
  subst q2
  have b2 := wf_u64 w2
  obtain ⟨x2, rfl⟩ := Int.eq_ofNat_of_zero_le b2.1
  obtain ⟨z3, q3, _, w3⟩ := DataW.trod_int Try.underlying23 sf2
  simp at q3
  subst q3
  have b3 := wf_u64 w3
  obtain ⟨x3, rfl⟩ := Int.eq_ofNat_of_zero_le b3.1
  obtain ⟨z4, q4, _, w4⟩ := DataW.trod_int Try.underlying23 sf3
  simp at q4
  subst q4
  have b4 := wf_u64 w4
  obtain ⟨x4, rfl⟩ := Int.eq_ofNat_of_zero_le b4.1
  obtain ⟨x5, q5, _, b5⟩ := DataW.trod_string Try.underlying9 sf4
  simp at q5
  subst q5
  unfold maxLen at b5
  obtain ⟨x6, q6, _, w6⟩ := DataW.trod_int Try.underlying3 sf5
  simp at q6
  subst q6
  have b6 := wf_i64 w6
  obtain ⟨x7, q7, _, w7⟩ := DataW.trod_int Try.underlying3 sf6
  simp at q7
  subst q7
  have b7 := wf_i64 w7
  obtain ⟨x8, q8, _⟩ := DataW.trod_bool Try.underlying4 sf7
  simp at q8
  subst q8
  obtain ⟨A, at9, cap, rfl, hl, hm, hr⟩ := read_attrs sf8
  obtain ⟨z10, q10, _, w10⟩ := DataW.trod_int Try.underlying23 sf9
  simp at q10
  subst q10
  have b10 := wf_u64 w10
  obtain ⟨x10, rfl⟩ := Int.eq_ofNat_of_zero_le b10.1
  obtain ⟨x11, q11, _, b11⟩ := DataW.trod_string Try.underlying9 gf0
  simp at q11
  subst q11
  unfold maxLen at b11
  obtain ⟨z12, q12, _, w12⟩ := DataW.trod_int Try.underlying23 gf1
  simp at q12
  subst q12
  have b12 := wf_u64 w12
  obtain ⟨x12, rfl⟩ := Int.eq_ofNat_of_zero_le b12.1
  obtain ⟨x13, q13, _, w13⟩ := DataW.trod_int Try.underlying3 gf2
  simp at q13
  subst q13
  have b13 := wf_i64 w13
  obtain ⟨x14, q14, _, b14⟩ := DataW.trod_string Try.underlying9 gf3
  simp at q14
  subst q14
  unfold maxLen at b14
  exact ⟨x0, x1, x2, x3, x4, x10, x12, x5, x11, x14, x6, x7, x13, x8, A, at9, cap, rfl, by omega, by omega, by omega, by omega, by omega, by omega, by omega, b5, b11, b14, b6, b7, b13, hl, hm, hr⟩
end

end Go.Proofs.Ytfmdjopcpbcajaa
