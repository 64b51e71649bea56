/-
  What the document's Due knows on its way.
-/
import Derived.Test.YthpcnnkdpgjiiaaTlRef8
namespace Go.Proofs.Ythpcnnkdpgjiiaa
open Go.RowKit Go.Maps Go.Proofs.HeapMath Go.Proofs.TailMath

variable {P : Nat → Prop}

theorem due_cut {t : Nat} : ∀ {L : List Gr} {j : Nat}, (∀ i (h : i < L.length), i < j → L[i].due ≤ t) → j ≤ L.length → (∀ h : j < L.length, t < L[j].due) → dueL (t : Int) L = L.take j ∧ lateL (t : Int) L = L.drop j
  | [], j, _, h2, _ => by simp [dueL, lateL]
  | g :: L, 0, _, _, h3 => by
    have := h3 (by simp)
    have hn : ¬ ((g.due : Int) ≤ t) := by simp at this; omega
    unfold dueL lateL
    rw [List.takeWhile_cons, List.dropWhile_cons, if_neg (by simpa using hn), if_neg (by simpa using hn)]
    exact ⟨rfl, rfl⟩
  | g :: L, j + 1, h1, h2, h3 => by
    have h0 : (g.due : Int) ≤ t := by have := h1 0 (by simp) (by omega); simp at this; omega
    obtain ⟨a, b⟩ := due_cut (t := t) (L := L) (j := j) (fun i h hi => by have := h1 (i + 1) (by simpa using h) (by omega); simpa using this) (by simpa using h2) (fun h => by have := h3 (by simpa using h); simpa using this)
    unfold dueL lateL at *
    rw [List.takeWhile_cons, List.dropWhile_cons, if_pos (by simpa using h0), if_pos (by simpa using h0), a, b]
    exact ⟨rfl, rfl⟩
/-- The cells of a trace, as it is told. -/
def gpL (x : Tx) : List Value := [.int .u64 (x.1.hi : Int), .int .u64 (x.1.lo : Int), .slice x.2.1 x.1.spans.length x.2.2]
def gpC (l : List Tx) : List Value := l.flatMap gpL
theorem gpC_append (a b : List Tx) : gpC (a ++ b) = gpC a ++ gpC b := by simp [gpC]
theorem gpC_one (x : Tx) : gpC [x] = gpL x := by simp [gpC]
theorem gpC_length (l : List Tx) : (gpC l).length = l.length * 3 := by
  induction l with
  | nil => rfl
  | cons k l ih => simp [gpC] at ih ⊢; rw [ih]; simp [gpL]; omega
theorem gpC_at {l : List Tx} : ∀ {i : Nat} (h : i < l.length) {j : Nat} (_ : j < 3), (gpC l)[i * 3 + j]? = (gpL l[i])[j]? := by
  induction l with
  | nil => intro i h; simp at h
  | cons k l ih =>
    intro i h j hj
    have e : gpC (k :: l) = gpL k ++ gpC l := by simp [gpC]
    have hl : (gpL k).length = 3 := rfl
    match i, h with
    | 0, _ =>
      rw [e, List.getElem?_append_left (by omega), Nat.zero_mul, Nat.zero_add]
      rfl
    | i + 1, h =>
      have := ih (i := i) (by simpa using h) (j := j) hj
      rw [e, List.getElem?_append_right (by omega), hl, show (i + 1) * 3 + j - 3 = i * 3 + j by omega]
      simpa using this
theorem gpL_one (x : Tx) : ∀ u ∈ gpL x, u.oneCell' = true := fun u hu => by
  simp [gpL] at hu
  rcases hu with h | h | h <;> subst h <;> rfl
/-- The value V holds these traces, each with where its spans lie and how much is there. -/
def ToldC (W : World) (V : Option Addr) (l : List Tx) : Prop := 0 < l.length → ∃ g, V = some ⟨g, 0, none⟩ ∧ g < W.heap.size ∧ ∀ i (h : i < l.length), W.cell? ⟨g, i * 3, none⟩ = some (.int .u64 (l[i].1.hi : Int)) ∧ W.cell? ⟨g, i * 3 + 1, none⟩ = some (.int .u64 (l[i].1.lo : Int)) ∧ W.cell? ⟨g, i * 3 + 2, none⟩ = some (.slice l[i].2.1 l[i].1.spans.length l[i].2.2) ∧ l[i].1.spans.length ≤ l[i].2.2 ∧ Sps W l[i].2.1 l[i].1.spans
theorem ToldC.later {W W' : World} {V : Option Addr} {l : List Tx} (h : ToldC W V l) (hb : Below W.heap.size W W') : ToldC W' V l := fun h0 => by
  obtain ⟨g, e, hg, hc⟩ := h h0
  refine ⟨g, e, Nat.lt_of_lt_of_le hg hb.size, fun i hi => ?_⟩
  obtain ⟨a, b, c, d, f⟩ := hc i hi
  exact ⟨(hb.cell (p := ⟨g, i * 3, none⟩) hg).trans a, (hb.cell (p := ⟨g, i * 3 + 1, none⟩) hg).trans b, (hb.cell (p := ⟨g, i * 3 + 2, none⟩) hg).trans c, d, f.later hb⟩
theorem told_own {W : World} {base n cap : Nat} {V : Option Addr} {l : List Tx} (h : W.ownsRow base 41 3 (.slice V n cap) n (gpC l)) (hn : l.length = n) (ho : ∀ x ∈ l, OkT W x) : ToldC W V l := fun h0 => by
  obtain ⟨g, cap', e, _, hg⟩ := h.form (by omega)
  injection e with e1 _ e2
  subst e1 e2
  refine ⟨g, rfl, hg, fun i hi => ?_⟩
  have hc : ∀ j, j < 3 → W.cell? ⟨g, i * 3 + j, none⟩ = (gpL l[i])[j]? := fun j hj => by rw [h.cellAt _ (by omega), gpC_at hi hj]
  exact ⟨hc 0 (by omega), hc 1 (by omega), hc 2 (by omega), ho _ (List.getElem_mem hi)⟩
theorem info_gp : (Try.prog.info? 41).map (fun i => (i.zero, i.size, i.bytes)) = some (some (.agg #[.int .u64 0, .int .u64 0, .slice none 0 0]), 3, 40) := by kernel_rfl
/-- More is appended to a row of one's own, out of a block that is known. -/
theorem app_more {T Ts : TypeId} {size bytes : Nat} {z : Value} {i0 : TypeInfo} (hu : Try.prog.underlying Ts = some (.slice T)) (hi : Try.prog.info? T = some i0) (hz0 : i0.zero = some z) (hz1 : i0.size = size) (hz2 : i0.bytes = bytes) (hzs : z.cells.size = size) (hsz : 0 < size)
    {w : World} {ops : Array Oper} {rest : List Oper} {o : Oper} {a : Act} {Q : Exit → Act → World → Prop} (hgd : o.guard = none) (s x : Operand) (ho : o.op = .call { callee := .builtin .append, args := #[s, x], argTypes := #[Ts, Ts] })
    (base : Nat) (ad : Addr) (m c : Nat) (us : List Value) (hs : a.eval s = .slice none 0 0) (hx : a.eval x = .slice (some ad) m c) (hus : us.length = m * size) (hB : ∀ j u, us[j]? = some u → w.cell? (ad.add j) = some u) (h1 : ∀ u ∈ us, u.oneCell' = true)
    (hb : m ≤ 100000) (hby : m * bytes ≤ 140737488355328) (hbase : base ≤ w.heap.size)
    (h : ∀ A' cap' w', w'.ownsRow base T size (.slice A' m cap') m us → w.grownBy w' none → (m = 0 → A' = none ∧ cap' = 0) → m ≤ cap' → wpList Try.prog ops Q rest (a.put o.dst (.slice A' m cap')) w') : wpList Try.prog ops Q (o :: rest) a w := by
  obtain ⟨v', w', k1, k2, k3, k4, k5⟩ := run_append_own_at (P := Try.prog) w base Ts o.type T i0 z size bytes hu hi hz0 hz1 hz2 hzs hsz (.slice none 0 0) 0 [] (World.ownsRow_nil _ _ _ _) ad m c us hus hB h1 (by unfold maxLen; omega) (by simpa using hby) hbase
  simp only [Nat.zero_add, List.nil_append] at k2
  have fin : ∃ A' cap', v' = .slice A' m cap' ∧ (m = 0 → A' = none ∧ cap' = 0) ∧ m ≤ cap' := by
    by_cases hm : m = 0
    · have := k4.2 ⟨rfl, hm⟩
      exact ⟨none, 0, by rw [this, hm], fun _ => ⟨rfl, rfl⟩, by omega⟩
    · rcases k2.2 with ⟨e, e2⟩ | ⟨g, cap', cur, e, _, _, e3, _⟩
      · exact absurd e2 hm
      · exact ⟨_, _, e, fun h => absurd h hm, e3⟩
  obtain ⟨A', cap', rfl, hA, hc⟩ := fin
  refine wpList_plain hgd fun _ hK => ?_
  unfold Oper.wp execOp
  simp only [ho, resolve, invoke, builtin, Sem.run_bind, Sem.run_pure, Result.andThen_ok, List.map_toArray, List.map_cons, List.map_nil, hs, hx, k1]
  exact hK _ _ (h A' cap' w' k2 k3 hA hc)
theorem cut_none (g n c : Nat) (W : World) : (Instr.slice 47 (.slice (some ⟨g, 0, none⟩) n c) none (some (.int .i64 0)) none).run Try.prog W = .ok (.slice (some ⟨g, 0, none⟩) 0 c) W := by
  have := run_slice_h (P := Try.prog) W 47 (some ⟨g, 0, none⟩) n c (by kernel_rfl) .i64 (0 : Int) (by omega) (by omega)
  rw [this]
  have hz : (sizeOf (Try.prog.elem 47)).run Try.prog W = .ok 5 W := by kernel_rfl
  rw [hz]
  simp [sliced, Result.andThen]
  intro _
  rfl
theorem cut_one (g q c : Nat) (hc : q + 1 ≤ c) : ∃ o c', (q = 0 ∨ o = 5) ∧ ∀ W, (Instr.slice 47 (.slice (some ⟨g, 0, none⟩) (q + 1) c) (some (.int .i64 1)) none none).run Try.prog W = .ok (.slice (some ⟨g, o, none⟩) q c') W := by
  refine ⟨if c = 1 then 0 else 5, c - 1, ?_, fun W => ?_⟩
  · by_cases h : c = 1
    · exact .inl (by omega)
    · exact .inr (if_neg h)
  · have := run_slice_l (P := Try.prog) W 47 (some ⟨g, 0, none⟩) (q + 1) c (by kernel_rfl) .i64 (1 : Int) (by omega) (by omega)
    rw [this]
    have hz : (sizeOf (Try.prog.elem 47)).run Try.prog W = .ok 5 W := by kernel_rfl
    rw [hz]
    simp only [sliced, Result.andThen, Option.map_some]
    have e1 : (1 : Int).toNat = 1 := rfl
    rw [e1]
    by_cases h : c = 1
    · rw [if_pos h, if_pos h]; rfl
    · rw [if_neg h, if_neg h]; rfl
/-- What the document's Due knows when j traces are taken. -/
structure DlI (P : Nat → Prop) (n0 : Nat) (w W : World) (b : St) (l0 : List Tx) (r : Rf) (j : Nat) (A2 : Option Addr) (c2 : Nat) : Prop where
  below : Below n0 w W
  blk : Blk W n0 (rfC b r) 50
  blk1 : Blk W (n0 + 1) (rfC (new 0 0 0) rf0) 50
  trs : Trs W r.A (l0.drop j)
  own : W.ownsRow (n0 + 2) 41 3 (.slice A2 j c2) j (gpC (l0.take j))
  a2 : j = 0 → A2 = none
  pA : 0 < (l0.drop j).length → ∀ g, r.A.map (·.block) = some g → P g
theorem DlI.later {n0 : Nat} {w W W' : World} {b : St} {l0 : List Tx} {r : Rf} {j : Nat} {A2 : Option Addr} {c2 : Nat} (h : DlI P n0 w W b l0 r j A2 c2) (hb : Below W.heap.size W W') : DlI P n0 w W' b l0 r j A2 c2 :=
  ⟨h.below.trans (hb.mono (by have := h.blk.lt; omega)), h.blk.later hb, h.blk1.later hb, h.trs.later hb, row_same h.own fun g hg => hb.block g (h.own.lt g hg).2, h.a2, h.pA⟩
theorem DlI.size {n0 : Nat} {w W : World} {b : St} {l0 : List Tx} {r : Rf} {j : Nat} {A2 : Option Addr} {c2 : Nat} (h : DlI P n0 w W b l0 r j A2 c2) : n0 + 2 ≤ W.heap.size := h.blk1.lt
/-- The buffer as it is then. -/
theorem DlI.rf {n0 : Nat} {w W : World} {b b0 : St} {l0 : List Tx} {r r0 : Rf} {j : Nat} {A2 : Option Addr} {c2 : Nat} (h : DlI P n0 w W b l0 r j A2 c2) (hn0 : w.heap.size = n0) (hR : RfIn P w b0 r0) (hl0 : l0.map (·.1) = b0.L) (hq : j + r.n = r0.n) (hc : r.n ≤ r.cap) (hB : (r.B, r.m, r.capB) = (r0.B, r0.m, r0.capB)) (hK : b.K = b0.K) (L : List Gr) (hL : L = b0.L.drop j) (hF : FarT P r0.A l0) : RfIn P W { b with L := L } r := by
  injection hB with e1 e2
  injection e2 with e2 e3
  have hlen : l0.length = r0.n := by rw [← hR.n, ← hl0, List.length_map]
  refine ⟨⟨l0.drop j, by rw [hL, ← hl0, List.map_drop], h.trs, h.pA, fun x hx => hF.2 x (List.mem_of_mem_drop hx)⟩, ?_, ?_, ?_, hc, by rw [e2, e3]; exact hR.capB, by rw [e1]; show 0 < b.K.length → _; rw [hK]; exact hR.KP⟩
  · show Kns W r.B b.K
    rw [e1, hK]
    exact hR.K.later (hn0 ▸ h.below)
  · show L.length = r.n
    rw [hL, List.length_drop, hR.n]
    omega
  · show b.K.length = r.m
    rw [hK, e2]
    exact hR.m
/-- The first of those that wait. -/
theorem DlI.front {n0 : Nat} {w W : World} {b : St} {l0 : List Tx} {r : Rf} {j : Nat} {A2 : Option Addr} {c2 : Nat} (h : DlI P n0 w W b l0 r j A2 c2) (hj : j < l0.length) : ∃ g, r.A = some ⟨g, 0, none⟩ ∧ g < W.heap.size ∧ (Value.slice A2 j c2).ownBlock ≠ some g ∧ (∀ k, k < 5 → W.cell? ⟨g, k, none⟩ = (dtL l0[j])[k]?) ∧ ∀ i u, (dtC (l0.drop (j + 1)))[i]? = some u → W.cell? ⟨g, 5 + i, none⟩ = some u := by
  have hd : 0 < (l0.drop j).length := by simp; omega
  obtain ⟨g, e, hg, hc⟩ := h.trs hd
  have hcell : ∀ i (hi : i < (l0.drop j).length) k, k < 5 → W.cell? ⟨g, i * 5 + k, none⟩ = (dtL (l0.drop j)[i])[k]? := fun i hi k hk => by
    obtain ⟨a0, a1, a2, a3, a4, _⟩ := hc i hi
    match k with
    | 0 => exact a0
    | 1 => exact a1
    | 2 => exact a2
    | 3 => exact a3
    | 4 => exact a4
    | k + 5 => omega
  have h00 : (l0.drop j)[0] = l0[j] := by simp
  have h0 : ∀ k, k < 5 → W.cell? ⟨g, k, none⟩ = (dtL l0[j])[k]? := fun k hk => by
    have := hcell 0 hd k hk
    rw [Nat.zero_mul, Nat.zero_add, h00] at this
    exact this
  refine ⟨g, e, hg, fun e2 => ?_, h0, fun i u hu => ?_⟩
  · by_cases hj0 : j = 0
    · rw [h.a2 hj0] at e2
      simp [Value.ownBlock] at e2
    · obtain ⟨g2, c', e3, _⟩ := h.own.form (by omega)
      injection e3 with e3 _ e4
      subst e3 e4
      simp [Value.ownBlock] at e2
      subst e2
      have h1 := h.own.cellAt 0 (by omega)
      have h3 := gpC_at (l := l0.take j) (i := 0) (by simp; omega) (j := 0) (by omega)
      have h2 := h0 0 (by omega)
      rw [Nat.zero_mul, Nat.zero_add] at h3
      rw [h2, h3] at h1
      simp [gpL, dtL] at h1
  · have hil : i < (dtC (l0.drop (j + 1))).length := (List.getElem?_eq_some_iff.1 hu).1
    rw [dtC_length] at hil
    have h1 : i / 5 < (l0.drop (j + 1)).length := by omega
    have h1' : i / 5 + 1 < (l0.drop j).length := by simp at h1 ⊢; omega
    have h2 := hcell (i / 5 + 1) h1' (i % 5) (Nat.mod_lt _ (by omega))
    have h3 : (l0.drop j)[i / 5 + 1] = (l0.drop (j + 1))[i / 5] := by simp; congr 1; omega
    rw [h3, ← dtC_at h1 (Nat.mod_lt _ (by omega))] at h2
    have e1 : i / 5 * 5 + i % 5 = i := by omega
    have e2 : (i / 5 + 1) * 5 + i % 5 = 5 + i := by omega
    rw [e1, e2, hu] at h2
    exact h2
/-- One trace more is taken. -/
theorem DlI.step {n0 : Nat} {w W W1 W2 W3 W4 : World} {b : St} {l0 : List Tx} {r : Rf} {j : Nat} {A2 : Option Addr} {c2 g2 c2' q c4 : Nat} {A4 : Option Addr} (h : DlI P n0 w W b l0 r j A2 c2) (hn0 : w.heap.size = n0) (hok : ∀ x ∈ l0, OkT w x) (hj : j < l0.length) (hq : j + 1 + q = l0.length)
    (hb : Below W.heap.size W W1) (hg : W1.grownBy W2 (Value.slice A2 j c2).ownBlock) (ho : W2.ownsRow (n0 + 2) 41 3 (.slice (some ⟨g2, 0, none⟩) (j + 1) c2') (j + 1) (gpC (l0.take j) ++ gpL l0[j]))
    (hg3 : W2.grownBy W3 none) (hg4 : W3.grownBy W4 none) (ho4 : W4.ownsRow (n0 + 2) 102 5 (.slice A4 q c4) q (dtC (l0.drop (j + 1)))) (hP : ∀ k, n0 ≤ k → P k) :
    DlI P n0 w (W4.setCell ⟨n0, 5, none⟩ (.slice A4 q c4)) b l0 ⟨A4, q, c4, r.B, r.m, r.capB⟩ (j + 1) (some ⟨g2, 0, none⟩) c2' := by
  have hsz := h.size
  have hlt := h.own.lt
  have m2 : Mut (Value.slice A2 j c2).ownBlock.toList W W2 := (Mut.of_below hb).trans ⟨hg.os, hg.tape, hg.output, hg.size, fun k hk hn => hg.block k hk fun e => hn (by rw [← e]; simp)⟩
  have b3 : Below W2.heap.size W2 W3 := ⟨hg3.os, hg3.tape, hg3.output, hg3.size, fun k hk => hg3.block k hk (by simp)⟩
  have b4 : Below W2.heap.size W2 W4 := b3.trans (⟨hg4.os, hg4.tape, hg4.output, hg4.size, fun k hk => hg4.block k (Nat.lt_of_lt_of_le hk hg3.size) (by simp)⟩)
  have m4 : Mut (Value.slice A2 j c2).ownBlock.toList W W4 := m2.trans (Mut.of_below b4)
  have hnot : ∀ k, k < n0 + 2 → k ∉ (Value.slice A2 j c2).ownBlock.toList := fun k hk hm => by
    have := (hlt k (by simpa using hm)).1
    omega
  have m5 : Mut [n0] W4 (W4.setCell ⟨n0, 5, none⟩ (.slice A4 q c4)) := (Mut.refl [n0] W4).setCell (by simp) _
  have bl4 : Below n0 w W4 := h.below.trans (m4.below (by omega) (fun k hk => by have := (hlt k (by simpa using hk)).1; omega))
  have bl5 : Below n0 w (W4.setCell ⟨n0, 5, none⟩ (.slice A4 q c4)) := bl4.trans (m5.below (by have := bl4.size; omega) (by simp))
  refine ⟨bl5, (h.blk.mut m4 (hnot _ (by omega))).set 5 (.slice A4 q c4), (h.blk1.mut m4 (hnot _ (by omega))).mut m5 (by simp), ?_, ?_, fun h => by omega, fun _ g hg => hP g ?_⟩
  · refine dts_own (row_same ho4 fun g hg => m5.block g (ho4.lt g hg).2 ?_) (by simp; omega) fun x hx => (hok x (List.mem_of_mem_drop hx)).later (hn0 ▸ bl5)
    have := (ho4.lt g hg).1
    simp; omega
  · have hlt2 := ho.lt g2 rfl
    rw [List.take_succ_eq_append_getElem hj, gpC_append, gpC_one]
    refine row_same ho fun g hg => ?_
    have hgl := ho.lt g hg
    exact (m5.block g (Nat.lt_of_lt_of_le hgl.2 b4.size) (by have := hgl.1; simp; omega)).trans (b4.block g hgl.2)
  · have hh := ho4.lt g (by cases A4 with
      | none => simp at hg
      | some ad => simp at hg; simp [Value.ownBlock, hg])
    omega
theorem du_results {D : World} {f : Func} {tmps : Array Value} {g : Nat} {b : St} {r : Rf} {x y : Value} (hr : f.results = #[.cell 4 50, .tmp 5, .tmp 6]) (hb : Blk D g (rfC b r) 50) (h6 : tmps.getD 4 undef = .pointer (some ⟨g, 0, none⟩)) (h7 : tmps.getD 5 undef = x) (h8 : tmps.getD 6 undef = y) :
    (results f tmps).run Try.prog D = .ok (.tuple #[rfV b r, x, y]) D := by
  have q0 := hb.cell 0 rfl
  have q1 := hb.cell 1 rfl
  have q2 := hb.cell 2 rfl
  have q3 := hb.cell 3 rfl
  have q4 := hb.cell 4 rfl
  have q5 := hb.cell 5 rfl
  have q6 := hb.cell 6 rfl
  simp at h6 h7 h8
  simp [results, hr, go_sem, h6, h7, h8, q0, q1, q2, q3, q4, q5, q6]
  rfl
/-- What the document's Due is to tell. -/
def DuTo (P : Nat → Prop) (w : World) (b' : St) (L : List Gr) (err : Nat) (e : Ending) (w' : World) : Prop := ∃ r' V n c l, e = .returned (.tuple #[rfV b' r', .slice V n c, .int .i64 (err : Int)]) ∧ Hid (RfIn P w' b' r') ∧ Hid (ToldC w' V l ∧ FarT P V l) ∧ Hid (l.map (·.1) = L) ∧ l.length = n ∧ n ≤ c ∧ Hid (Below w.heap.size w w')
/-- The end of the document's Due. -/
theorem DlI.close {n0 : Nat} {w W : World} {b b0 : St} {l0 : List Tx} {r r0 : Rf} {j : Nat} {A2 : Option Addr} {c2 : Nat} (h : DlI P n0 w W b l0 r j A2 c2) (hn0 : w.heap.size = n0) (hR : RfIn P w b0 r0) (hl0 : l0.map (·.1) = b0.L) (hok : ∀ x ∈ l0, OkT w x) (hq : j + r.n = r0.n) (hc : r.n ≤ r.cap) (hB : (r.B, r.m, r.capB) = (r0.B, r0.m, r0.capB)) (hK : b.K = b0.K) (b' : St) (hb' : b' = { b with L := b0.L.drop j }) (hF : FarT P r0.A l0) (hP : ∀ k, n0 ≤ k → P k) :
    Blk (W.setRow (n0 + 1) (rfC b r)) (n0 + 1) (rfC b r) 50 ∧ RfIn P (W.setRow (n0 + 1) (rfC b r)) b' r ∧ ToldC (W.setRow (n0 + 1) (rfC b r)) A2 (l0.take j) ∧ FarT P A2 (l0.take j) ∧ j ≤ c2 ∧ Below n0 w (W.setRow (n0 + 1) (rfC b r)) := by
  have hsz := h.size
  have hm : Mut [n0 + 1] W (W.setRow (n0 + 1) (rfC b r)) := ⟨rfl, rfl, rfl, by simp [World.setRow], fun k _ hk => setRow_other _ _ _ _ (by simpa using hk)⟩
  have hbl : Below n0 w (W.setRow (n0 + 1) (rfC b r)) := h.below.trans (hm.below (by omega) (by simp))
  have hlen : l0.length = r0.n := by rw [← hR.n, ← hl0, List.length_map]
  have hrf := h.rf hn0 hR hl0 hq hc hB hK _ rfl hF
  have hr2 : RfIn P (W.setRow (n0 + 1) (rfC b r)) b' r := by
    subst hb'
    have hA : ∀ g, r.A.map (·.block) = some g → 0 < (l0.drop j).length → g ≠ n0 + 1 := fun g hg h0 e => by
      subst e
      obtain ⟨g, e1, e2, e3, e4, e5⟩ := h.front (by simp at h0; omega)
      rw [e1] at hg
      simp at hg
      subst hg
      have k1 := e4 4 (by omega)
      rw [h.blk1.cell 4 rfl] at k1
      generalize l0[j]'(by simp at h0; omega) = x at k1
      have k2 : some (Value.int .i64 ((new 0 0 0).came : Int)) = some (.slice x.2.1 x.1.spans.length x.2.2) := k1
      cases k2
    obtain ⟨k1, k2, k3, k4, k5, k6, k7⟩ := hrf
    refine ⟨⟨l0.drop j, by rw [← hl0, List.map_drop], fun h0 => ?_, h.pA, fun x hx => hF.2 x (List.mem_of_mem_drop hx)⟩, ?_, k3, k4, k5, k6, k7⟩
    · obtain ⟨g, e1, e2, e3⟩ := h.trs h0
      have hg1 : g ≠ n0 + 1 := hA g (by rw [e1]; rfl) h0
      refine ⟨g, e1, Nat.lt_of_lt_of_le e2 hm.size, fun i hi => ?_⟩
      have hcell : ∀ k, (W.setRow (n0 + 1) (rfC b r)).cell? ⟨g, k, none⟩ = W.cell? ⟨g, k, none⟩ := fun k => World.cell?_of_block (hm.block g e2 (by simpa using hg1))
      obtain ⟨a0, a1, a2, a3, a4, a5, a6⟩ := e3 i hi
      rw [hcell, hcell, hcell, hcell, hcell]
      exact ⟨a0, a1, a2, a3, a4, a5, ((hok _ (List.mem_of_mem_drop (List.getElem_mem hi))).later (hn0 ▸ hbl)).2⟩
    · injection hB with e1 e2
      show Kns _ r.B b.K
      rw [e1, hK]
      exact hR.K.later (hn0 ▸ hbl)
  refine ⟨setRow_heap _ _ _ _ _ _ h.blk1, hr2, told_own (row_same h.own fun g hg => hm.block g (h.own.lt g hg).2 (by have := (h.own.lt g hg).1; simp; omega)) (by simp; omega) fun x hx => (hok x (List.mem_of_mem_take hx)).later (hn0 ▸ hbl), ⟨fun _ g hg => hP g ?_, fun x hx => hF.2 x (List.mem_of_mem_take hx)⟩, ?_, hbl⟩
  · have hh := h.own.lt g (by cases A2 with
      | none => simp at hg
      | some ad => simp at hg; simp [Value.ownBlock, hg])
    omega
  rcases h.own.2 with ⟨h1, h2⟩ | ⟨_, _, _, h1, _, _, h2, _⟩
  · injection h1 with _ h1 h3; omega
  · injection h1 with _ _ h1; omega
theorem rfV_dued (b : St) (t : Int) (r : Rf) : rfV (dued b t) r = rfV b r := by
  unfold rfV dued
  rfl
end Go.Proofs.Ythpcnnkdpgjiiaa
