/-
  The document's buffer in memory; its Len, first, Next.
-/
import Derived.Deep.DeepCutAuto
import Derived.Deep.QuietTactic
import Derived.BigQuiet
import Derived.Test.YthpcnnkdpgjiiaaTlRow
namespace Go.Proofs.Ythpcnnkdpgjiiaa
open Go.RowKit Go.Maps Go.Proofs.HeapMath Go.Proofs.TailMath

variable {P : Nat → Prop}

/-- The document's traces: each with where its spans lie. -/
def Trs (W : World) (A : Option Addr) (l : List (Gr × Option Addr × Nat)) : Prop := 0 < l.length → ∃ g, A = some ⟨g, 0, none⟩ ∧ g < W.heap.size ∧ ∀ i (h : i < l.length), W.cell? ⟨g, i * 5, none⟩ = some (.int .i64 (l[i].1.due : Int)) ∧ W.cell? ⟨g, i * 5 + 1, none⟩ = some (.int .i64 (l[i].1.no : Int)) ∧ W.cell? ⟨g, i * 5 + 2, none⟩ = some (.int .u64 (l[i].1.hi : Int)) ∧ W.cell? ⟨g, i * 5 + 3, none⟩ = some (.int .u64 (l[i].1.lo : Int)) ∧ W.cell? ⟨g, i * 5 + 4, none⟩ = some (.slice l[i].2.1 l[i].1.spans.length l[i].2.2) ∧ l[i].1.spans.length ≤ l[i].2.2 ∧ Sps W l[i].2.1 l[i].1.spans
theorem Trs.later {W W' : World} {A : Option Addr} {l : List (Gr × Option Addr × Nat)} (h : Trs W A l) (hb : Below W.heap.size W W') : Trs W' A l := fun h0 => by
  obtain ⟨g, e, hg, hc⟩ := h h0
  refine ⟨g, e, Nat.lt_of_lt_of_le hg hb.size, fun i hi => ?_⟩
  obtain ⟨a, b, c, d, e, f, k⟩ := hc i hi
  exact ⟨(hb.cell (p := ⟨g, i * 5, none⟩) hg).trans a, (hb.cell (p := ⟨g, i * 5 + 1, none⟩) hg).trans b, (hb.cell (p := ⟨g, i * 5 + 2, none⟩) hg).trans c, (hb.cell (p := ⟨g, i * 5 + 3, none⟩) hg).trans d, (hb.cell (p := ⟨g, i * 5 + 4, none⟩) hg).trans e, f, k.later hb⟩
/-- The document's decisions. -/
def Kns (W : World) (A : Option Addr) (l : List Kn) : Prop := 0 < l.length → ∃ g o, A = some ⟨g, o, none⟩ ∧ g < W.heap.size ∧ ∀ i (h : i < l.length), W.cell? ⟨g, o + i * 3, none⟩ = some (.int .u64 (l[i].hi : Int)) ∧ W.cell? ⟨g, o + i * 3 + 1, none⟩ = some (.int .u64 (l[i].lo : Int)) ∧ W.cell? ⟨g, o + i * 3 + 2, none⟩ = some (.bool (l[i].ay == 4))
theorem Kns.later {W W' : World} {A : Option Addr} {l : List Kn} (h : Kns W A l) (hb : Below W.heap.size W W') : Kns W' A l := fun h0 => by
  obtain ⟨g, o, e, hg, hc⟩ := h h0
  refine ⟨g, o, e, Nat.lt_of_lt_of_le hg hb.size, fun i hi => ?_⟩
  obtain ⟨a, b, c⟩ := hc i hi
  exact ⟨(hb.cell (p := ⟨g, o + i * 3, none⟩) hg).trans a, (hb.cell (p := ⟨g, o + i * 3 + 1, none⟩) hg).trans b, (hb.cell (p := ⟨g, o + i * 3 + 2, none⟩) hg).trans c⟩
/-- The document's buffer as a value. -/
structure Rf where
  A : Option Addr
  n : Nat
  cap : Nat
  B : Option Addr
  m : Nat
  capB : Nat
def rfV (b : St) (r : Rf) : Value := .agg #[.int .i64 (b.sp : Int), .int .i64 (b.wait : Int), .int .i64 (b.most : Int), .int .i64 (b.time : Int), .int .i64 (b.came : Int), .slice r.A r.n r.cap, .slice r.B r.m r.capB]
def rfC (b : St) (r : Rf) : Array Value := #[.int .i64 (b.sp : Int), .int .i64 (b.wait : Int), .int .i64 (b.most : Int), .int .i64 (b.time : Int), .int .i64 (b.came : Int), .slice r.A r.n r.cap, .slice r.B r.m r.capB]
/-- Where the traces and their spans lie. -/
def FarT (P : Nat → Prop) (A : Option Addr) (l : List (Gr × Option Addr × Nat)) : Prop := (0 < l.length → ∀ g, A.map (·.block) = some g → P g) ∧ ∀ x ∈ l, 0 < x.1.spans.length → ∀ g, x.2.1.map (·.block) = some g → P g
structure RfIn (P : Nat → Prop) (W : World) (b : St) (r : Rf) : Prop where
  L : ∃ l, l.map (·.1) = b.L ∧ Trs W r.A l ∧ FarT P r.A l
  K : Kns W r.B b.K
  n : b.L.length = r.n
  m : b.K.length = r.m
  cap : r.n ≤ r.cap
  capB : r.m ≤ r.capB
  KP : 0 < b.K.length → ∀ g, r.B.map (·.block) = some g → P g
theorem RfIn.later {W W' : World} {b : St} {r : Rf} (h : RfIn P W b r) (hb : Below W.heap.size W W') : RfIn P W' b r := by
  obtain ⟨l, h1, h2, h3⟩ := h.L
  exact ⟨⟨l, h1, h2.later hb, h3⟩, h.K.later hb, h.n, h.m, h.cap, h.capB, h.KP⟩
theorem RfIn.at_ {W : World} {b : St} {r : Rf} (h : RfIn P W b r) {i : Nat} (hi : i < r.n) : ∃ g A c, r.A = some ⟨g, 0, none⟩ ∧ ∃ hb : i < b.L.length, b.L[i].spans.length ≤ c ∧ ∀ W', Below W.heap.size W W' → W'.cell? ⟨g, i * 5, none⟩ = some (.int .i64 (b.L[i].due : Int)) ∧ W'.cell? ⟨g, i * 5 + 4, none⟩ = some (.slice A b.L[i].spans.length c) := by
  obtain ⟨l, h1, h2, _⟩ := h.L
  have hn := h.n
  have hl : l.length = b.L.length := by rw [← h1, List.length_map]
  have hil : i < l.length := by omega
  have hib : i < b.L.length := by omega
  have e : b.L[i] = l[i].1 := by simp [← h1]
  obtain ⟨g, e1, hg, hc⟩ := h2 (by omega)
  obtain ⟨c0, c1, c2, c3, c4, c5, c6⟩ := hc i hil
  refine ⟨g, l[i].2.1, l[i].2.2, e1, hib, by rw [e]; exact c5, fun W' hW => ⟨?_, ?_⟩⟩
  · rw [e]; exact (hW.cell (p := ⟨g, i * 5, none⟩) hg).trans c0
  · rw [e]; exact (hW.cell (p := ⟨g, i * 5 + 4, none⟩) hg).trans c4
theorem tot_take {L : List Gr} {i : Nat} (h : i < L.length) : tot (L.take (i + 1)) = tot (L.take i) + L[i].spans.length := by
  rw [List.take_succ_eq_append_getElem h, tot_append, tot_cons, tot_nil]
  rfl
theorem tot_take_le (L : List Gr) (i : Nat) : tot (L.take i) ≤ tot L := by
  have e : tot L = tot (L.take i) + tot (L.drop i) := by rw [← tot_append, List.take_append_drop]
  omega

set_option linter.unusedSimpArgs false in
set_option maxRecDepth 100000 in
set_option maxHeartbeats 2000000 in
theorem refLen_any (w : World) (b : St) (r : Rf) (h : RfIn P w b r) (N : Nat) (hN : tot b.L = N) (hN2 : N ≤ 5000) (hn2 : r.n ≤ 5000) :
    Calls Try.prog 20 #[rfV b r] w fun e w' => e = .returned (.int .i64 (N : Int)) ∧ Hid (Below w.heap.size w w') := by
  obtain ⟨A, n, cap, B, m, capB⟩ := r
  have HR := Lib.hid h
  have HN := Lib.hid hN
  have hsize := h.n
  simp only at hsize hn2
  have HSZ := Lib.hid hsize
  obtain ⟨nr, hnr⟩ : ∃ x, w.heap.size = x := ⟨_, rfl⟩
  have hbk := hnr ▸ blk_new w (rfC b ⟨A, n, cap, B, m, capB⟩) 50
  have hbl : Below w.heap.size w (w.alloc (.cells (rfC b ⟨A, n, cap, B, m, capB⟩) 50)) := box_below _
  unfold rfC at hbk hbl
  unfold rfV
  have HBK := Lib.hid hbk
  have HBL := Lib.hid hbl
  clear hbk hbl hsize hN h
  go_enter Try.func20, Try.ntmps20
  go_wp2_with fail
  clear hnr
  generalize w.alloc (.cells #[.int .i64 (b.sp : Int), .int .i64 (b.wait : Int), .int .i64 (b.most : Int), .int .i64 (b.time : Int), .int .i64 (b.came : Int), .slice A n cap, .slice B m capB] 50) = Wo at HBK HBL ⊢
  have c5 := HBK.out.cell 5 rfl
  go_loopw [4, 3] (fun iv sv wq => ∃ i k : Nat, iv = .int .i64 (i : Int) ∧ sv = .int .i64 (k : Int) ∧ i ≤ n ∧ Hid (tot (b.L.take i) = k) ∧ Hid (Wo = wq)) (fun iv _ _ => n - (intOf iv).toNat)
  case atStart => exact ⟨0, 0, rfl, rfl, by omega, Lib.hid rfl, Lib.hid rfl⟩
  case round =>
    obtain ⟨i, k, rfl, rfl, hi, HK, HW⟩ := hrel
    obtain rfl := HW.out
    by_cases hin : i < n
    · have di : decide ((i : Int) < (n : Int)) = true := by simp; omega
      obtain ⟨g, A1, c1, e1, hib, hc1, hce⟩ := HR.out.at_ hin
      simp only at e1
      subst e1
      obtain ⟨sl, hsl⟩ : ∃ x, b.L[i].spans.length = x := ⟨_, rfl⟩
      have ht1 : tot (b.L.take (i + 1)) = tot (b.L.take i) + sl := by rw [tot_take hib, hsl]
      have ht2 := tot_take_le b.L (i + 1)
      obtain ⟨_, d4⟩ := hce Wo HBL.out
      rw [hsl] at d4
      obtain ⟨k2, hk2, hk3⟩ : ∃ k2 : Nat, (k : Int) + (sl : Int) = (k2 : Int) ∧ k2 = k + sl := ⟨k + sl, by omega, rfl⟩
      have hb2 : k2 ≤ 5000 := by have := HK.out; have := HN.out; omega
      have HK2 := Lib.hid (show tot (b.L.take (i + 1)) = k2 from by rw [ht1, HK.out, hk3])
      clear ht1 ht2 hk3 hce hsl hc1
      go_wp2_with fail
      go_roundw
      case rel => exact ⟨i + 1, k2, by simp, rfl, by omega, HK2, Lib.hid trivial⟩
      case measure => simp [intOf]; omega
    · obtain rfl : n = i := by omega
      have di : decide ((n : Int) < (n : Int)) = false := by simp
      have e : k = N := by
        have h1 := HK.out
        rw [List.take_of_length_le (by rw [HSZ.out]; exact Nat.le_refl _), HN.out] at h1
        exact h1.symm
      subst e
      go_wp2_with fail
      go_ret
      exact ⟨rfl, HBL⟩
end Go.Proofs.Ythpcnnkdpgjiiaa
