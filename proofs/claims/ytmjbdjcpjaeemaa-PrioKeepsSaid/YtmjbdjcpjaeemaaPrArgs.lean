/-
  Slices of offers that came in: what they hold.
-/
import Derived.Deep.Slices
import Derived.Deep.Fields
import Derived.ChangeSame
import Derived.Test.YtmjbdjcpjaeemaaLift0
namespace Go.Proofs.Ytmjbdjcpjaeemaa
open Go.ChangeShapes Go.WideShapes Go.Deep Go.ChangeAt Go.RowKit

theorem some_at {α : Type} {xs : List α} {n i : Nat} (h : xs.length = n) (hi : i < n) : ∃ y, xs[i]? = some y := ⟨xs[i]'(by omega), List.getElem?_eq_getElem (by omega)⟩
/-- An offer that came in, as two numbers. -/
abbrev Oa := Nat × Nat
/-- The slice value holds the offers l, below B. -/
def Ofs (B : Nat) (W : World) (A : Option Addr) (l : List Oa) : Prop :=
  0 < l.length → ∃ g off, A = some ⟨g, off, none⟩ ∧ g < B ∧ ∀ j, j < l.length → W.cell? ⟨g, off + j * 2, none⟩ = some (.int .u8 ((l.getD j (0, 0)).1 : Int)) ∧ W.cell? ⟨g, off + j * 2 + 1, none⟩ = some (.int .u8 ((l.getD j (0, 0)).2 : Int)) ∧ (l.getD j (0, 0)).1 ≤ 255 ∧ (l.getD j (0, 0)).2 ≤ 255
section
variable {H : Type} {enc : TypeId × Value → H}

set_option maxRecDepth 100000 in
theorem arg_offers {W : World} {base : Nat} {v : Value} {d : DataW H} {p : List MemPlace} (hval : Value.okWide Try.prog W .any base 23 v) (h : DataW.Trod enc Try.prog W 0 (fun _ => true) true 23 v d p) :
    ∃ (A : Option Addr) (l : List Oa) (cap : Nat), v = .slice A l.length cap ∧ l.length ≤ cap ∧ cap ≤ 9223372036854775807 ∧ Ofs W.heap.size W A l := by
  obtain ⟨a0, len0, cap0, rfl⟩ := okWide_slice Try.underlying23 hval
  obtain ⟨fuel, hf⟩ := h
  rcases open_slice Try.underlying23 hf with ⟨hcs, _⟩ | ⟨a, len, cap, m, n, D, Pl, hcs, hb, hl, hm, hmm, hx, hi⟩
  · simp [Value.cells] at hcs
    obtain ⟨rfl, rfl, rfl⟩ := hcs
    exact ⟨none, [], 0, rfl, by simp, by omega, fun h => absurd h (by simp)⟩
  · simp [Value.cells] at hcs
    obtain ⟨rfl, rfl, rfl⟩ := hcs
    simp only [if_true] at hmm
    subst hmm
    have hC : Try.prog.cellsOf 46 = 2 := by kernel_rfl
    have hC1 : Try.prog.cellsOf 5 = 1 := by kernel_rfl
    have key : ∀ i, i < m → ∃ x y : Nat, W.cell? (a.add (i * 2)) = some (.int .u8 (x : Int)) ∧ W.cell? ((a.add (i * 2)).add 1) = some (.int .u8 (y : Int)) ∧ x ≤ 255 ∧ y ≤ 255 := fun i him => by
      obtain ⟨cs', hc, ht⟩ := hi i him
      rw [hC] at hc
      obtain ⟨ys, n', hn', hy, hlen, hyl, hf⟩ := DataW.trod_struct Try.underlying46 ht
      obtain ⟨_, hcl, hat⟩ := World.cells?_some hc
      obtain ⟨y0, hy0⟩ := some_at hyl (i := 0) (by simp)
      obtain ⟨y1, hy1⟩ := some_at hyl (i := 1) (by simp)
      have f0 := (hf 0 _ rfl).trans hy0
      have f1 := (hf 1 _ rfl).trans hy1
      obtain ⟨c0, c1, rfl⟩ : ∃ a b, cs' = [a, b] := by
        match cs', hcl with
        | [a, b], _ => exact ⟨a, b, rfl⟩
      simp [hC1] at f0 f1
      obtain ⟨z0, q0, _, w0⟩ := DataW.trod_int Try.underlying5 f0
      obtain ⟨z1, q1, _, w1⟩ := DataW.trod_int Try.underlying5 f1
      simp at q0 q1
      subst q0 q1
      have b0 := wf_u8 w0
      have b1 := wf_u8 w1
      obtain ⟨x0, rfl⟩ := Int.eq_ofNat_of_zero_le b0.1
      obtain ⟨x1, rfl⟩ := Int.eq_ofNat_of_zero_le b1.1
      exact ⟨x0, x1, hat 0 (by omega), hat 1 (by omega), by omega, by omega⟩
    have key2 : ∀ i, ∃ q : Oa, i < m → W.cell? (a.add (i * 2)) = some (.int .u8 (q.1 : Int)) ∧ W.cell? ((a.add (i * 2)).add 1) = some (.int .u8 (q.2 : Int)) ∧ q.1 ≤ 255 ∧ q.2 ≤ 255 := fun i => by
      by_cases him : i < m
      · obtain ⟨x, y, h⟩ := key i him
        exact ⟨(x, y), fun _ => h⟩
      · exact ⟨(0, 0), fun h => absurd h him⟩
    obtain ⟨q, hq⟩ := Classical.axiomOfChoice key2
    have hlen : ((List.range len0).map q).length = len0 := by simp
    refine ⟨some a, (List.range len0).map q, m, by rw [hlen], by rw [hlen]; exact hl, hm, fun h0 => ?_⟩
    rw [hlen] at h0
    obtain ⟨b, off, spot⟩ := a
    have hspot : spot = none := by simpa [Addr.add] using World.cell?_spot (hq 0 (by omega)).1
    subst hspot
    have hlt : b < W.heap.size := by
      have h1 := (hq 0 (by omega)).1
      have h2 : ((⟨b, off, none⟩ : Addr).add (0 * 2)).block = b := by unfold Addr.add; split <;> rfl
      rcases Nat.lt_or_ge b W.heap.size with h3 | h3
      · exact h3
      · simp [World.cell?, h2, Array.getElem?_eq_none h3] at h1
    refine ⟨b, off, rfl, hlt, fun j hj => ?_⟩
    rw [hlen] at hj
    obtain ⟨k1, k2, k4⟩ := hq j (by omega)
    have e1 : ((List.range len0).map q).getD j (0, 0) = q j := by simp [List.getD, hj]
    have e2 : (⟨b, off, none⟩ : Addr).add (j * 2) = ⟨b, off + j * 2, none⟩ := by unfold Addr.add; split <;> simp_all
    have e3 : (⟨b, off + j * 2, none⟩ : Addr).add 1 = ⟨b, off + j * 2 + 1, none⟩ := by unfold Addr.add; split <;> simp_all
    rw [e2] at k1 k2
    rw [e3] at k2
    rw [e1]
    exact ⟨k1, k2, k4⟩
end
end Go.Proofs.Ytmjbdjcpjaeemaa
