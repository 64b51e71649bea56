/-
  What Due does: the traces that are due, out of their maps, into a row that is told.
-/
import Derived.Test.YthpcnnkdpgjiiaaHpDue
import Derived.Test.YthpcnnkdpgjiiaaTlTake
import Derived.Test.YthpcnnkdpgjiiaaTlOffer
namespace Go.Proofs.Ythpcnnkdpgjiiaa
open Go.RowKit Go.Maps Go.Proofs.HeapMath Go.Proofs.TailMath

/-- The value A holds the spans l. -/
def Sps (W : World) (A : Option Addr) (l : List Sp) : Prop := 0 < l.length → ∃ g, A = some ⟨g, 0, none⟩ ∧ g < W.heap.size ∧ ∀ j (h : j < l.length) k, k < 10 → W.cell? ⟨g, j * 10 + k, none⟩ = (spL l[j])[k]?
theorem Sps.later {W W' : World} {A : Option Addr} {l : List Sp} (h : Sps W A l) (hb : Below W.heap.size W W') : Sps W' A l := fun h0 => by
  obtain ⟨g, e, hg, hc⟩ := h h0
  exact ⟨g, e, Nat.lt_of_lt_of_le hg hb.size, fun j hj k hk => (hb.cell (p := ⟨g, j * 10 + k, none⟩) hg).trans (hc j hj k hk)⟩
theorem sps_own {W : World} {A : Option Addr} {n cap : Nat} {l : List Sp} (h : W.ownsRow 0 35 10 (.slice A n cap) n (spC l)) (hn : l.length = n) : Sps W A l := fun h0 => by
  obtain ⟨g, cap', e, _, hg⟩ := h.form (by omega)
  injection e with e1 _ e2
  subst e1 e2
  refine ⟨g, rfl, hg, fun j hj k hk => ?_⟩
  rw [h.cellAt _ (by omega)]
  exact spC_at hj hk
/-- The value V holds these traces, each with where its spans lie. -/
def Told (W : World) (V : Option Addr) (l : List (Gr × Option Addr)) : Prop := 0 < l.length → ∃ g, V = some ⟨g, 0, none⟩ ∧ g < W.heap.size ∧ ∀ i (h : i < l.length), W.cell? ⟨g, i * 3, none⟩ = some (.int .u64 (l[i].1.hi : Int)) ∧ W.cell? ⟨g, i * 3 + 1, none⟩ = some (.int .u64 (l[i].1.lo : Int)) ∧ W.cell? ⟨g, i * 3 + 2, none⟩ = some (.slice l[i].2 l[i].1.spans.length l[i].1.spans.length) ∧ Sps W l[i].2 l[i].1.spans
theorem Told.later {W W' : World} {V : Option Addr} {l : List (Gr × Option Addr)} (h : Told W V l) (hb : Below W.heap.size W W') : Told W' V l := fun h0 => by
  obtain ⟨g, e, hg, hc⟩ := h h0
  refine ⟨g, e, Nat.lt_of_lt_of_le hg hb.size, fun i hi => ?_⟩
  obtain ⟨a, b, c, d⟩ := hc i hi
  exact ⟨(hb.cell (p := ⟨g, i * 3, none⟩) hg).trans a, (hb.cell (p := ⟨g, i * 3 + 1, none⟩) hg).trans b, (hb.cell (p := ⟨g, i * 3 + 2, none⟩) hg).trans c, d.later hb⟩
theorem Bf.withHeap {w w' : World} {S T N M H : Nat} {v : Value} {hbs hbs' : List Nat} {G : List Ge} {b : St} {s s' : List Tm} (h : Bf w S T N M H v hbs G b s) (hm : Mut hbs w w') (hH : Hp w' hbs' H b.sp s') (hx : Ext w hbs hbs') : Bf w' S T N M H v hbs' G b s' := by
  have hc : ∀ k ∈ core S T N M v G, k ∉ hbs := h.hnd
  have h1 := h.lt
  have c1 : ∀ x ∈ G, ∀ k ∈ x.own, k ∉ hbs := fun x hx k hk => hc k (by simp only [core, List.mem_cons, List.mem_append, List.mem_flatMap]; exact .inr (.inr (.inr (.inr (.inr ⟨x, hx, hk⟩)))))
  exact { h with
    blk := h.blk.mut hm (hc S (by simp [core]))
    told := h.told.same (hm.block _ h.told.lt (hc T (by simp [core])))
    row := h.row.mut hm fun g hg => hc g (by simp [core, hg])
    heap := hH
    nums := h.nums.same (hm.block _ h.nums.lt (hc N (by simp [core])))
    grps := h.grps.same (hm.block _ h.grps.lt (hc M (by simp [core])))
    each := fun x hx => (h.each x hx).mut hm (c1 x hx)
    hnd := fun k hk hk2 => by
      rcases hx k hk2 with e | e
      · exact hc k hk e
      · have := h1 k hk; omega }
theorem info_gr : (Try.prog.info? 41).map (fun i => (i.zero, i.size, i.bytes)) = some (some (.agg #[.int .u64 0, .int .u64 0, .slice none 0 0]), 3, 40) := by kernel_rfl
def zeG (n : Nat) : Array Value := madeCells #[.int .u64 0, .int .u64 0, .slice none 0 0] (n * 3)
theorem zeG_size (n : Nat) : (zeG n).size = n * 3 := size_madeCells _ _
theorem make_groups (n : Nat) (h : n ≤ 100000) (W : World) : (Instr.makeSlice 36 (.int .i64 (n : Int)) (.int .i64 (n : Int))).run Try.prog W = .ok (.slice (some ⟨W.heap.size, 0, none⟩) n n) (W.alloc (.cells (zeG n) 41)) := by
  obtain ⟨i0, hi, hz0, hz1, hz2⟩ := info_parts info_gr
  have := run_make (P := Try.prog) W 36 41 i0 (.agg #[.int .u64 0, .int .u64 0, .slice none 0 0]) Try.underlying36 hi hz0 .i64 .i64 (n : Int) (n : Int) (by omega) (by omega) (by rw [hz2]; omega) (by omega)
  rw [this, hz1]
  simp only [Int.toNat_natCast]
  rfl

/-- How far the loop has come. -/
structure DuMid (w : World) (S T N M H : Nat) (v : Value) (hbs : List Nat) (G : List Ge) (b : St) (s : List Tm) (g0 m i : Nat) (C : Array Value) (wr : World) : Prop where
  bf : Bf wr S T N M H v hbs (G.drop i) { b with L := b.L.drop i } s
  mut_ : Mut [S, N, M] w wr
  blk : Blk wr g0 C 41
  size : C.size = m * 3
  cells : ∀ j (h : j < G.length), j < i → C[j * 3]? = some (.int .u64 (G[j].g.hi : Int)) ∧ C[j * 3 + 1]? = some (.int .u64 (G[j].g.lo : Int)) ∧ C[j * 3 + 2]? = some (.slice G[j].A G[j].g.spans.length G[j].g.spans.length)
  rows : ∀ x ∈ G, wr.ownsRow 0 35 10 x.v x.g.spans.length (spC x.g.spans)
theorem split_len {α : Type} {a b L : List α} (h : a ++ b = L) : a = L.take a.length ∧ b = L.drop a.length := by subst h; simp
theorem core_sub {S T N M : Nat} {v : Value} {G G' : List Ge} (h : ∀ x ∈ G', x ∈ G) : ∀ k ∈ core S T N M v G', k ∈ core S T N M v G := fun k hk => by
  simp only [core, List.mem_cons, List.mem_append, List.mem_flatMap] at hk ⊢
  rcases hk with e | e | e | e | e | ⟨x, hx, e⟩
  · exact .inl e
  · exact .inr (.inl e)
  · exact .inr (.inr (.inl e))
  · exact .inr (.inr (.inr (.inl e)))
  · exact .inr (.inr (.inr (.inr (.inl e))))
  · exact .inr (.inr (.inr (.inr (.inr ⟨x, h x hx, e⟩))))
theorem DuMid.next {w wr w5 : World} {S T N M H : Nat} {v : Value} {hbs : List Nat} {G : List Ge} {b : St} {s : List Tm} {g0 m i : Nat} {C : Array Value} {x : Ge} (h : DuMid w S T N M H v hbs G b s g0 m i C wr) (hi : i < G.length) (hx : G[i] = x) (him : i < m) (hm : Mut [S, N, M] wr w5)
    (hbf : Bf w5 S T N M H v hbs (G.drop (i + 1)) { b with L := b.L.drop (i + 1) } s) (hcore : ∀ k ∈ core S T N M v G ++ hbs, k < g0) (hfar : ∀ y ∈ G, ∀ k, y.v.ownBlock = some k → k ∉ [S, N, M]) (hw : w.heap.size ≤ g0) :
    DuMid w S T N M H v hbs G b s g0 m (i + 1) (((C.setIfInBounds (i * 3) (.int .u64 (x.g.hi : Int))).setIfInBounds (i * 3 + 1) (.int .u64 (x.g.lo : Int))).setIfInBounds (i * 3 + 2) (.slice x.A x.g.spans.length x.g.spans.length)) (((w5.setCell ⟨g0, i * 3, none⟩ (.int .u64 (x.g.hi : Int))).setCell ⟨g0, i * 3 + 1, none⟩ (.int .u64 (x.g.lo : Int))).setCell ⟨g0, i * 3 + 2, none⟩ (.slice x.A x.g.spans.length x.g.spans.length)) := by
  have hmg : Mut [g0] w5 (((w5.setCell ⟨g0, i * 3, none⟩ (.int .u64 (x.g.hi : Int))).setCell ⟨g0, i * 3 + 1, none⟩ (.int .u64 (x.g.lo : Int))).setCell ⟨g0, i * 3 + 2, none⟩ (.slice x.A x.g.spans.length x.g.spans.length)) := (((Mut.refl [g0] w5).setCell (by simp) _).setCell (by simp) _).setCell (by simp) _
  have hg0 : g0 ∉ [S, N, M] := fun e => by
    have h1 := hcore S (by simp [core])
    have h2 := hcore N (by simp [core])
    have h3 := hcore M (by simp [core])
    simp at e
    omega
  have hb5 : Blk w5 g0 C 41 := h.blk.mut hm hg0
  refine ⟨hbf.mut hmg (fun k hk e => ?_) (fun k hk e => ?_), (h.mut_.trans hm).onto hmg (fun k hk => .inr (by rw [List.mem_singleton.1 hk]; exact hw)), ((hb5.set _ _).set _ _).set _ _, by simp [h.size], fun j hj hji => ?_, fun y hy => ?_⟩
  · have := hcore k (List.mem_append_left _ (core_sub (fun y hy => List.mem_of_mem_drop hy) k hk))
    have := List.mem_singleton.1 e
    omega
  · have := hcore k (List.mem_append_right _ hk)
    have := List.mem_singleton.1 e
    omega
  · have hs := h.size
    by_cases e : j = i
    · subst e
      rw [hx]
      refine ⟨?_, ?_, ?_⟩
      · simp only [Array.getElem?_setIfInBounds, Array.size_setIfInBounds]
        rw [if_neg (by omega), if_neg (by omega), if_pos trivial, if_pos (by omega)]
      · simp only [Array.getElem?_setIfInBounds, Array.size_setIfInBounds]
        rw [if_neg (by omega), if_pos trivial, if_pos (by omega)]
      · simp only [Array.getElem?_setIfInBounds, Array.size_setIfInBounds]
        rw [if_pos trivial, if_pos (by omega)]
    · obtain ⟨a1, a2, a3⟩ := h.cells j hj (by omega)
      simp only [Array.getElem?_setIfInBounds, Array.size_setIfInBounds]
      refine ⟨?_, ?_, ?_⟩
      · rw [if_neg (by omega), if_neg (by omega), if_neg (by omega)]; exact a1
      · rw [if_neg (by omega), if_neg (by omega), if_neg (by omega)]; exact a2
      · rw [if_neg (by omega), if_neg (by omega), if_neg (by omega)]; exact a3
  · refine row_same (h.rows y hy) fun k hk => ?_
    have h1 := hfar y hy k hk
    have h2 : k < g0 := hcore k (List.mem_append_left _ (by simp only [core, List.mem_cons, List.mem_append, List.mem_flatMap]; exact .inr (.inr (.inr (.inr (.inr ⟨y, hy, by simp [Ge.own, hk]⟩))))))
    have hlt := ((h.rows y hy).lt k hk).2
    exact (hmg.block k (Nat.lt_of_lt_of_le hlt hm.size) (by simp; omega)).trans (hm.block k hlt h1)
/-- At the end all are told. -/
theorem DuMid.told {w wr : World} {S T N M H : Nat} {v : Value} {hbs : List Nat} {G : List Ge} {b : St} {s : List Tm} {g0 m : Nat} {C : Array Value} (h : DuMid w S T N M H v hbs G b s g0 m m C wr) (hm : m ≤ G.length) :
    Told wr (some ⟨g0, 0, none⟩) ((G.take m).map fun x => (x.g, x.A)) := fun _ => ⟨g0, rfl, h.blk.lt, fun i hi => by
  simp at hi
  have hi2 : i < G.length := by omega
  obtain ⟨a1, a2, a3⟩ := h.cells i hi2 (by omega)
  have hr := h.rows G[i] (List.getElem_mem hi2)
  simp only [List.getElem_map, List.getElem_take]
  exact ⟨h.blk.cell _ a1, h.blk.cell _ a2, h.blk.cell _ a3, sps_own hr rfl⟩⟩

def DueTo (w : World) (bs : List Nat) (S : Nat) (b : St) (now : Int) (e : Ending) (w' : World) : Prop :=
  ∃ V l, e = .returned (.tuple #[.slice V (dueL now b.L).length (dueL now b.L).length, .int .u16 0]) ∧ l.map (·.1) = dueL now b.L ∧ Told w' V l ∧ TbTo w bs S (dued (at_ b now.toNat) now) w'
set_option linter.unusedSimpArgs false in
set_option maxRecDepth 100000 in
set_option maxHeartbeats 2000000 in
theorem tdue_ok {bs : List Nat} {S : Nat} {b : St} (t : Nat) (w : World) (h : Tb w bs S b) (h1 : b.time ≤ t) (h2 : t ≤ 1099511627776) (hcame : b.came ≤ 1000000000) :
    Calls Try.prog 13 #[.pointer (some ⟨S, 0, none⟩), .int .i64 (t : Int)] w (DueTo w bs S b (t : Int)) := by
  have hr := treach_ok t w h h1 h2
  have HR := Lib.hid hr
  have HS := Lib.hid (show S ∈ bs ∧ ∀ k ∈ bs, k < w.heap.size from ⟨h.S_mem, h.lt⟩)
  clear h h1 hr
  go_enter Try.func13, Try.ntmps13
  go_wp2_with fail
  refine HR.out.mono ?_
  rintro e w2 ⟨rfl, htb, hm2⟩
  obtain ⟨T, N, M, H, v, hbs, G, hbf, hiv, hbs0⟩ := htb
  have c3 : w2.cell? ⟨S, 3, none⟩ = some (.pointer (some ⟨H, 0, none⟩)) := hbf.blk.cell 3 rfl
  have hdue := hdue_far (t : Int) w2 hbf.heap
  have hL : (at_ b t).L = b.L := rfl
  rw [hL] at hdue hbf
  obtain ⟨e1, e2⟩ := due_tms (t : Int) b.L
  obtain ⟨m, hm⟩ : ∃ m, (dueL (t : Int) b.L).length = m := ⟨_, rfl⟩
  obtain ⟨hs1, hs2⟩ := split_len (due_late (t : Int) b.L)
  rw [hm] at hs1 hs2
  have hml : m ≤ b.L.length := by rw [← hm]; exact (List.takeWhile_prefix _).length_le
  have hlen : b.L.length ≤ 5000 := by have := len_tot hiv.L; have := hiv.tot; have := hiv.sp; have h3 : b.L.length ≤ tot (at_ b t).L := len_tot hiv.L; omega
  have hdue2 : Calls Try.prog 29 #[.pointer (some ⟨H, 0, none⟩), .int .i64 (t : Int)] w2 fun e w3 => ∃ A', e = .returned (.slice A' m m) ∧ Hid (∃ hbs', Tms w3.heap.size w3 A' (tms (dueL (t : Int) b.L)) ∧ (∀ a, A' = some a → w2.heap.size ≤ a.block) ∧ Bf w3 S T N M H v hbs' G (at_ b t) (tms (lateL (t : Int) b.L)) ∧ Mut hbs w2 w3 ∧ Ext w2 hbs hbs') :=
    hdue.mono fun e w3 ⟨A', hbs', x1, x2, x3, x4, x5, x6⟩ => ⟨A', by rw [x1, e1]; simp [tms, hm], Lib.hid ⟨hbs', e1 ▸ x2, x3, hbf.withHeap x5 (e2 ▸ x4) x6, x5, x6⟩⟩
  have HD := Lib.hid hdue2
  have HM2 := Lib.hid (show Mut bs w w2 ∧ Iv (at_ b t) ∧ bs = core S T N M v G ++ hbs ∧ (dueL (t : Int) b.L).length = m ∧ dueL (t : Int) b.L = b.L.take m ∧ lateL (t : Int) b.L = b.L.drop m ∧ Bf w2 S T N M H v hbs G (at_ b t) (tms b.L) from ⟨hm2.wider (by simpa using HS.out.1), hiv, hbs0, hm, hs1, hs2, hbf⟩)
  have HLEN := Lib.hid (show m ≤ b.L.length ∧ b.L.length ≤ 5000 ∧ b.came ≤ 1000000000 from ⟨hml, hlen, hcame⟩)
  have hm5 : m ≤ 5000 := by omega
  clear hbf hiv hbs0 hdue hL e1 e2 hm hs1 hs2 hml hlen hdue2 hm2 hcame HR
  go_wp2_with fail
  refine HD.out.mono ?_
  rintro e w3 ⟨A', rfl, HX⟩
  clear c3
  have hmk := make_groups m (by omega) w3
  go_wp2_with fail
  obtain ⟨hbs', htms, hfar, hbf, hm3, hx3⟩ := HX.out
  obtain ⟨g0, hg0⟩ : ∃ g, w3.heap.size = g := ⟨_, rfl⟩
  have hcore : ∀ k ∈ core S T N M v G ++ hbs', k < g0 := fun k hk => by
    rw [← hg0]
    rcases List.mem_append.1 hk with e | e
    · exact hbf.lt k e
    · exact hbf.heap.lt k e
  have hGl : G.map (·.g) = b.L := hbf.gl
  have hGlen : G.length = b.L.length := by rw [← hGl]; simp
  have hsnm : ∀ k, k ∈ [S, N, M] → k < w2.heap.size := fun k hk => by
    have hl := HM2.out.2.2.2.2.2.2.lt
    simp at hk
    rcases hk with e | e | e <;> rw [e]
    · exact hl S (by simp [core])
    · exact hl N (by simp [core])
    · exact hl M (by simp [core])
  have hfo : ∀ y ∈ G, ∀ k, y.v.ownBlock = some k → k ∉ [S, N, M] := fun y hy k hk => by
    obtain ⟨a1, a2, a3, a4⟩ := hbf.far.2 k (List.mem_flatMap.2 ⟨y, hy, by simp [Ge.own, hk]⟩)
    simp
    exact ⟨a1, a3, a4⟩
  have hbel : Below w3.heap.size w3 (w3.alloc (.cells (zeG m) 41)) := box_below _
  have hstart : DuMid w3 S T N M H v hbs' G (at_ b t) (tms (lateL (t : Int) b.L)) g0 m 0 (zeG m) (w3.alloc (.cells (zeG m) 41)) :=
    ⟨hbf.later hbel, Mut.of_below hbel, hg0 ▸ blk_new w3 _ _, zeG_size m, fun j _ hj => by omega, fun x hx => row_same (hbf.each x hx).row fun k hk => hbel.block k ((hbf.each x hx).row.lt k hk).2⟩
  have htm : ∀ i, i < m → ∃ gt off, A' = some ⟨gt, off, none⟩ ∧ w2.heap.size ≤ gt ∧ gt < g0 ∧ ∃ (hi : i < G.length), w3.cell? ⟨gt, off + i * 2, none⟩ = some (.int .i64 (G[i].g.due : Int)) ∧ w3.cell? ⟨gt, off + i * 2 + 1, none⟩ = some (.int .i64 (G[i].g.no : Int)) := fun i hi => by
    have hlt : (tms (dueL (t : Int) b.L)).length = m := by simp [tms, HM2.out.2.2.2.1]
    obtain ⟨gt, off, e, hgt, hc⟩ := htms (by omega)
    have hiG : i < G.length := by have := HLEN.out; omega
    have hat : at_ (tms (dueL (t : Int) b.L)) i = ((G[i].g.due : Int), (G[i].g.no : Int)) := by
      rw [HeapMath.at_get (by omega)]
      have : (dueL (t : Int) b.L)[i]'(by rw [HM2.out.2.2.2.1]; exact hi) = G[i].g := by
        have h5 : (dueL (t : Int) b.L)[i]? = some G[i].g := by
          rw [HM2.out.2.2.2.2.1, List.getElem?_take_of_lt hi, ← hGl]
          simp [hiG]
        exact (List.getElem?_eq_some_iff.1 h5).2
      simp [tms, this]
    have hcc := hc i (by omega)
    rw [hat] at hcc
    exact ⟨gt, off, e, hfar _ e, hg0 ▸ hgt, hiG, hcc.1, hcc.2⟩
  have HTM := Lib.hid htm
  have HC := Lib.hid (show (∀ k ∈ core S T N M v G ++ hbs', k < g0) ∧ G.map (·.g) = b.L ∧ G.length = b.L.length ∧ (∀ k, k ∈ [S, N, M] → k < w2.heap.size) ∧ (∀ y ∈ G, ∀ k, y.v.ownBlock = some k → k ∉ [S, N, M]) ∧ w3.heap.size = g0 ∧ Mut hbs w2 w3 ∧ Ext w2 hbs hbs' from ⟨hcore, hGl, hGlen, hsnm, hfo, hg0, hm3, hx3⟩)
  have HST := Lib.hid hstart
  clear htms hfar hbf hm3 hx3 hcore hGl hGlen hsnm hfo hbel hstart htm hmk HX HD
  rw [hg0]
  clear hg0
  go_loopw [29] (fun iv wr => ∃ (i : Nat) (C : Array Value), iv = .int .i64 (i : Int) ∧ i ≤ m ∧ Hid (DuMid w3 S T N M H v hbs' G (at_ b t) (tms (lateL (t : Int) b.L)) g0 m i C wr)) (fun iv _ => m - (intOf iv).toNat)
  case atStart => exact ⟨0, zeG m, rfl, by omega, HST⟩
  case round =>
    obtain ⟨i, C, rfl, hi, HDU⟩ := hrel
    by_cases hlt : i < m
    · obtain ⟨gt, off, rfl, hg1, hg2, hiG, t0, t1⟩ := HTM.out i hlt
      obtain ⟨x, hx⟩ : ∃ x, G[i] = x := ⟨_, rfl⟩
      rw [hx] at t0 t1
      have hgn : gt ∉ [S, N, M] := fun e => by have := HC.out.2.2.2.1 gt e; omega
      have hbe : wr.heap[gt]? = w3.heap[gt]? := HDU.out.mut_.block gt (by rw [HC.out.2.2.2.2.2.1]; exact hg2) hgn
      have c0 : wr.cell? ⟨gt, off + i * 2, none⟩ = some (.int .i64 (x.g.due : Int)) := (World.cell?_of_block (w := w3) hbe).trans t0
      have c1 : wr.cell? ⟨gt, off + i * 2 + 1, none⟩ = some (.int .i64 (x.g.no : Int)) := (World.cell?_of_block (w := w3) hbe).trans t1
      obtain ⟨du, hdu⟩ : ∃ d, x.g.due = d := ⟨_, rfl⟩
      obtain ⟨no, hno⟩ : ∃ d, x.g.no = d := ⟨_, rfl⟩
      rw [hdu] at c0
      rw [hno] at c1
      obtain ⟨nr, hnr⟩ : ∃ n, wr.heap.size = n := ⟨_, rfl⟩
      have k1 : (wr.alloc (.cells #[.int .i64 (du : Int), .int .i64 (no : Int)] 89)).drew.cell? ⟨nr, 1, none⟩ = some (.int .i64 (no : Int)) := by rw [← hnr]; exact (blk_new wr #[.int .i64 (du : Int), .int .i64 (no : Int)] 89).cell 1 rfl
      have hnr3 : g0 < nr := by rw [← hnr]; exact HDU.out.blk.lt
      have hsm : ∀ k, k ∈ [S, N, M] → k < g0 := fun k hk => HC.out.1 k (by
        simp at hk
        rcases hk with e | e | e <;> rw [e] <;> simp [core])
      have hnrm : nr ∉ [S, N, M] := fun e => by have := hsm nr e; omega
      have hg0m : g0 ∉ [S, N, M] := fun e => by have := hsm g0 e; omega
      have hCs := HDU.out.size
      obtain ⟨o0, ho0⟩ : ∃ u, C[i * 3]? = some u := ⟨_, Array.getElem?_eq_getElem (by omega)⟩
      obtain ⟨o1, ho1⟩ : ∃ u, C[i * 3 + 1]? = some u := ⟨_, Array.getElem?_eq_getElem (by omega)⟩
      obtain ⟨o2, ho2⟩ : ∃ u, C[i * 3 + 2]? = some u := ⟨_, Array.getElem?_eq_getElem (by omega)⟩
      have HOO := Lib.hid (show C[i * 3]? = some o0 ∧ C[i * 3 + 1]? = some o1 ∧ C[i * 3 + 2]? = some o2 from ⟨ho0, ho1, ho2⟩)
      clear ho0 ho1 ho2 hCs
      have hbel : Below wr.heap.size wr (wr.alloc (.cells #[.int .i64 (du : Int), .int .i64 (no : Int)] 89)) := box_below _
      have hbf1 := (HDU.out.bf.later hbel).drew
      have hdG : G.drop i = x :: G.drop (i + 1) := by rw [← hx]; exact List.drop_eq_getElem_cons hiG
      have hxm : x ∈ G := by rw [← hx]; exact List.getElem_mem hiG
      have hdL : b.L.drop i = x.g :: b.L.drop (i + 1) := by
        have := congrArg (List.map (·.g)) hdG
        rw [List.map_drop, List.map_cons, List.map_drop, HC.out.2.1] at this
        exact this
      rw [hdG] at hbf1
      have hxL : x.g ∈ b.L := by rw [← HC.out.2.1]; exact List.mem_map.2 ⟨x, hxm, rfl⟩
      have hok := HM2.out.2.1.L.ok x.g hxL
      have htk := take_any (L' := b.L.drop (i + 1)) _ hbf1 hdL (by have := hok.1; have h3 := HLEN.out.2.2; show x.g.no ≤ _; have h4 : (at_ b t).came = b.came := rfl; omega) ⟨hok.2.2.1, hok.2.2.2.1⟩ (by
        show tot (b.L.drop i) ≤ 5000
        have h3 := HM2.out.2.1.tot
        have h4 := HM2.out.2.1.sp
        have h5 : tot (at_ b t).L = tot (b.L.take i) + tot (b.L.drop i) := by rw [← tot_append, List.take_append_drop]; rfl
        omega)
      rw [hno] at htk
      have htk2 : Calls Try.prog 30 #[.pointer (some ⟨S, 3, none⟩), .int .i64 (no : Int)] (wr.alloc (.cells #[.int .i64 (du : Int), .int .i64 (no : Int)] 89)).drew fun e w5 => e = .returned (.agg #[.int .u64 (x.g.hi : Int), .int .u64 (x.g.lo : Int), .slice x.A x.g.spans.length x.g.spans.length]) ∧ Hid (Bf w5 S T N M H v hbs' (G.drop (i + 1)) { at_ b t with L := b.L.drop (i + 1) } (tms (lateL (t : Int) b.L)) ∧ Mut [S, N, M] wr w5 ∧ w5.cell? ⟨nr, 1, none⟩ = some (.int .i64 (no : Int)) ∧ Blk w5 g0 C 41) :=
        htk.mono fun e w5 ⟨y1, y2, y3⟩ => ⟨y1, Lib.hid ⟨y2, (Mut.of_below hbel).drew.trans y3, (World.cell?_of_block (w := (wr.alloc (.cells #[.int .i64 (du : Int), .int .i64 (no : Int)] 89)).drew) (y3.block nr (by show nr < (wr.alloc _).heap.size; rw [World.size_alloc, hnr]; omega) hnrm)).trans k1, HDU.out.blk.mut ((Mut.of_below hbel).drew.trans y3) hg0m⟩⟩
      have HTK := Lib.hid htk2
      have HXX := Lib.hid (show ∃ h : i < G.length, G[i] = x from ⟨hiG, hx⟩)
      have ti : decide ((i : Int) < (m : Int)) = true := by simp; omega
      clear hsm hnrm hg0m t0 t1 hgn hbe hdu hno hbel hbf1 hdG hdL hxL hok htk htk2 hx hxm hiG hg1 hg2
      go_wp2_with fail
      refine wp_region_held_drew (S := fun W => W.cell? ⟨nr, 1, none⟩ = some (.int .i64 (no : Int))) (by kernel_rfl) ?_ (fun hHeld => ?_)
      · exact k1
      refine wpAnyH_take (i := 0) (v := ?_) rfl (by kernel_rfl) (by kernel_rfl) (by kernel_rfl) (fun _ _ _ h => h) (Or.inl ⟨by rfl, ?_⟩) (by assumption) ?_
      rotate_left
      · intro wq hSw; (try dsimp only at hSw); go_simp; (try with_reducible rfl)
      simp only [Act.put, List.getElem_toArray, List.getElem_cons_succ, List.getElem_cons_zero, List.setIfInBounds_toArray, List.set_cons_zero, List.set_cons_succ]
      refine wpAnyH_take (i := 1) (v := ?_) rfl (by kernel_rfl) (by kernel_rfl) (by kernel_rfl) (fun _ _ _ h => h) (Or.inl ⟨by rfl, ?_⟩) (by assumption) ?_
      rotate_left
      · intro wq hSw; (try dsimp only at hSw); go_simp; (try with_reducible rfl)
      simp only [Act.put, List.getElem_toArray, List.getElem_cons_succ, List.getElem_cons_zero, List.setIfInBounds_toArray, List.set_cons_zero, List.set_cons_succ]
      refine wpAnyH_take (i := 2) (v := ?_) rfl (by kernel_rfl) (by kernel_rfl) (by kernel_rfl) (fun _ _ _ h => h) (Or.inl ⟨by rfl, ?_⟩) (by assumption) ?_
      rotate_left
      · intro wq hSw; (try dsimp only at hSw); go_simp; (try with_reducible rfl)
      simp only [Act.put, List.getElem_toArray, List.getElem_cons_succ, List.getElem_cons_zero, List.setIfInBounds_toArray, List.set_cons_zero, List.set_cons_succ]
      refine wpAnyH_take (i := 3) (v := ?_) rfl (by kernel_rfl) (by kernel_rfl) (by kernel_rfl) (fun _ _ _ h => h) (Or.inl ⟨by rfl, ?_⟩) (by assumption) ?_
      rotate_left
      · intro wq hSw; (try dsimp only at hSw); go_simp; (try with_reducible rfl)
      simp only [Act.put, List.getElem_toArray, List.getElem_cons_succ, List.getElem_cons_zero, List.setIfInBounds_toArray, List.set_cons_zero, List.set_cons_succ]
      refine wpAnyH_take (i := 4) (v := ?_) rfl (by kernel_rfl) (by kernel_rfl) (by kernel_rfl) (fun _ _ _ h => h) (Or.inl ⟨by rfl, ?_⟩) (by assumption) ?_
      rotate_left
      · intro wq hSw; (try dsimp only at hSw); go_simp; (try with_reducible rfl)
      simp only [Act.put, List.getElem_toArray, List.getElem_cons_succ, List.getElem_cons_zero, List.setIfInBounds_toArray, List.set_cons_zero, List.set_cons_succ]
      refine wpAnyH_take (i := 5) (v := ?_) rfl (by kernel_rfl) (by kernel_rfl) (by kernel_rfl) (fun _ _ _ h => h) (Or.inl ⟨by rfl, ?_⟩) (by assumption) ?_
      rotate_left
      · intro wq hSw; (try dsimp only at hSw); go_simp; (try with_reducible rfl)
      simp only [Act.put, List.getElem_toArray, List.getElem_cons_succ, List.getElem_cons_zero, List.setIfInBounds_toArray, List.set_cons_zero, List.set_cons_succ]
      refine wpAnyH_take (i := 6) (v := ?_) rfl (by kernel_rfl) (by kernel_rfl) (by kernel_rfl) (fun _ _ _ h => h) (Or.inl ⟨by rfl, ?_⟩) (by assumption) ?_
      rotate_left
      · intro wq hSw; (try dsimp only at hSw); go_simp; (try with_reducible rfl)
      simp only [Act.put, List.getElem_toArray, List.getElem_cons_succ, List.getElem_cons_zero, List.setIfInBounds_toArray, List.set_cons_zero, List.set_cons_succ]
      refine wpAnyH_ready (rs := [7]) (by kernel_rfl) (by simp) ?_
      refine AllReadyH.cons rfl (fun K hK => ?_) AllReadyH.nil
      go_simp
      refine HTK.out.mono ?_
      rintro e w5 ⟨rfl, HBF⟩
      have k5 := HBF.out.2.2.1
      have hb5 := HBF.out.2.2.2
      have v0 := hb5.cell _ HOO.out.1
      have v1 := hb5.cell _ HOO.out.2.1
      have v2 := hb5.cell _ HOO.out.2.2
      have w0 := hb5.free (i * 3)
      have w1' := hb5.free (i * 3 + 1)
      have w2' := hb5.free (i * 3 + 2)
      clear hb5
      (try go_wp2_with fail)
      refine hK.out _ _ ?_ (fun hHeld => ?_)
      · exact k5
      clear hK K
      try simp only [Act.put, List.getElem_toArray, List.getElem_cons_succ, List.getElem_cons_zero, List.setIfInBounds_toArray, List.set_cons_zero, List.set_cons_succ]
      refine wpAnyH_take (i := 8) (v := ?_) rfl (by kernel_rfl) (by kernel_rfl) (by kernel_rfl) (fun _ _ _ h => h) (Or.inl ⟨by rfl, ?_⟩) (by assumption) ?_
      rotate_left
      · intro wq hSw; (try dsimp only at hSw); go_simp; (try with_reducible rfl)
      simp only [Act.put, List.getElem_toArray, List.getElem_cons_succ, List.getElem_cons_zero, List.setIfInBounds_toArray, List.set_cons_zero, List.set_cons_succ]
      refine wpAnyH_ready (rs := [9]) (by kernel_rfl) (by simp) ?_
      refine AllReadyH.cons rfl (fun K hK => ?_) AllReadyH.nil
      go_simp
      (try go_wp2_with fail)
      have k6 : (((w5.setCell ⟨g0, i * 3, none⟩ (.int .u64 (x.g.hi : Int))).setCell ⟨g0, i * 3 + 1, none⟩ (.int .u64 (x.g.lo : Int))).setCell ⟨g0, i * 3 + 2, none⟩ (.slice x.A x.g.spans.length x.g.spans.length)).cell? ⟨nr, 1, none⟩ = some (.int .i64 (no : Int)) := by have hne : g0 ≠ nr := (by omega); rw [World.cell?_of_block (w := w5) (((((Mut.refl [g0] w5).setCell (by simp) _).setCell (by simp) _).setCell (by simp) _).block nr (by rcases Nat.lt_or_ge nr w5.heap.size with h | h; exact h; simp [World.cell?, Array.getElem?_eq_none h] at k5) (by simp; omega))]; exact k5
      refine hK.out _ _ ?_ (fun hHeld => ?_)
      · exact k6
      clear hK K
      try simp only [Act.put, List.getElem_toArray, List.getElem_cons_succ, List.getElem_cons_zero, List.setIfInBounds_toArray, List.set_cons_zero, List.set_cons_succ]
      refine wpAnyH_done (by kernel_rfl) ?_ _
      clear hHeld
      clear hHeld k5 k6 v0 v1 v2 w0 w1' w2'
      obtain ⟨hiG, hx⟩ := HXX.out
      have hnext := HDU.out.next hiG hx hlt HBF.out.2.1 HBF.out.1 HC.out.1 HC.out.2.2.2.2.1 (by rw [HC.out.2.2.2.2.2.1]; exact Nat.le_refl _)
      have HNX := Lib.hid hnext
      clear hnext hiG hx
      go_wp2_with fail
      go_roundw
      case rel => exact ⟨i + 1, _, by simp, by omega, HNX⟩
      case measure => simp [intOf]; omega
    · obtain rfl : i = m := by omega
      have ti : decide ((i : Int) < (i : Int)) = false := by simp
      have hend : DueTo w bs S b (t : Int) (.returned (.tuple #[.slice (some ⟨g0, 0, none⟩) i i, .int .u16 0])) wr := by
        have hD := HDU.out
        have hmG : i ≤ G.length := by rw [HC.out.2.2.1]; exact HLEN.out.1
        refine ⟨some ⟨g0, 0, none⟩, (G.take i).map fun x => (x.g, x.A), by rw [HM2.out.2.2.2.1], ?_, hD.told hmG, ?_⟩
        · rw [HM2.out.2.2.2.2.1, ← HC.out.2.1, ← List.map_take, List.map_map]
          rfl
        · have hst : dued (at_ b (t : Int).toNat) (t : Int) = { at_ b t with L := b.L.drop i } := by
            unfold dued
            rw [Int.toNat_natCast, show (at_ b t).L = b.L from rfl, HM2.out.2.2.2.2.2.1]
          have hbs0 := HM2.out.2.2.1
          have hin : ∀ k ∈ core S T N M v G, k ∈ bs := fun k hk => by rw [hbs0]; exact List.mem_append_left _ hk
          refine ⟨core S T N M v (G.drop i) ++ hbs', ⟨T, N, M, H, v, hbs', G.drop i, ?_, ?_, rfl⟩, (HM2.out.1.trans (HC.out.2.2.2.2.2.2.1.wider fun k hk => by rw [hbs0]; exact List.mem_append_right _ hk)).trans (hD.mut_.wider fun k hk => hin k ?_), fun k hk => ?_⟩
          · rw [hst]
            have := hD.bf
            rw [HM2.out.2.2.2.2.2.1] at this
            exact this
          · rw [show (t : Int).toNat = t by simp]
            exact HM2.out.2.1.dued (t : Int)
          · simp at hk
            rcases hk with e | e | e <;> rw [e] <;> simp [core]
          · rcases List.mem_append.1 hk with e | e
            · exact .inl (hin k (core_sub (fun y hy => List.mem_of_mem_drop hy) k e))
            · rcases HC.out.2.2.2.2.2.2.2 k e with e2 | e2
              · exact .inl (by rw [hbs0]; exact List.mem_append_right _ e2)
              · exact .inr (Nat.le_trans HM2.out.1.size e2)
      have HEND := Lib.hid hend
      clear hend
      go_wp2_with fail
      go_ret2
      exact HEND.out

set_option maxRecDepth 100000 in
set_option maxHeartbeats 1000000 in
theorem tdue_no {bs : List Nat} {S : Nat} {b : St} {now : Int} (w : World) (h : Tb w bs S b) (ht : okT b now = false) :
    Calls Try.prog 13 #[.pointer (some ⟨S, 0, none⟩), .int .i64 now] w fun e w' => e = .returned (.tuple #[.slice none 0 0, .int .u16 60]) ∧ w = w' := by
  have HR := Lib.hid (treach_no (now := now) w h ht)
  clear h ht
  go_enter Try.func13, Try.ntmps13
  go_wp2_with fail
  refine HR.out.mono ?_
  rintro e w' ⟨rfl, rfl⟩
  go_wp2_with fail
  go_ret2
  exact ⟨rfl, rfl⟩
end Go.Proofs.Ythpcnnkdpgjiiaa
