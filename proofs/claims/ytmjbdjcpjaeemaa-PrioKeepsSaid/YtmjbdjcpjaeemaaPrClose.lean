/-
  A sampler of a law's own: Close.
-/
import Derived.Test.YtmjbdjcpjaeemaaPrSort
import Derived.Test.YtmjbdjcpjaeemaaPrCnt
import Derived.Test.YtmjbdjcpjaeemaaPrOn
namespace Go.Proofs.Ytmjbdjcpjaeemaa
open Go.RowKit Go.Proofs.PrioMath

theorem sort_v {v : Value} {n : Nat} {l : List Of} (w : World) (hr : w.ownsRow 0 59 3 v n (cl l)) (hl : l.length = n) (hn : n ≤ 5000) :
    Calls Try.prog 18 #[v, .func (.func 19) #[] #[]] w fun e w' =>
      e = .returned (.tuple #[]) ∧ ∃ l', l'.Perm l ∧ l'.Pairwise (fun a b => a.p ≤ b.p) ∧ w'.ownsRow 0 59 3 v n (cl l') ∧ Mut v.ownBlock.toList w w' := by
  rcases hr.2 with ⟨h1, h0⟩ | ⟨g, cap, cur, e, h2⟩
  · subst h1 h0
    have : l = [] := List.eq_nil_of_length_eq_zero hl
    subst this
    exact (sort_nil w).mono fun e w' ⟨he, hw⟩ => ⟨he, [], List.Perm.refl _, List.Pairwise.nil, hw ▸ hr, hw ▸ Mut.refl _ _⟩
  · subst e
    exact sort_any w hr hl hn

theorem info_kept : (Try.prog.info? 38).map (fun i => (i.zero, i.size, i.bytes)) = some (some (.agg #[.int .i64 0, .int .u64 0, .int .u64 0]), 3, 24) := by kernel_rfl
def zeK (n : Nat) : Array Value := madeCells #[.int .i64 0, .int .u64 0, .int .u64 0] (n * 3)
theorem zeK_eq (n : Nat) : (zeK n).toList = cl (List.replicate n ⟨0, 0, 0⟩) := by
  apply List.ext_getElem?
  intro j
  by_cases hj : j < n * 3
  · have h1 : (zeK n).toList[j]? = some ((#[.int .i64 0, .int .u64 0, .int .u64 0] : Array Value)[j % 3]!) := by
      simp [zeK, madeCells, hj]
    rw [h1]
    have hq : j / 3 < (List.replicate n (⟨0, 0, 0⟩ : Of)).length := by simp; omega
    obtain ⟨c1, c2, c3⟩ := cl_at hq
    have hat : at_ (List.replicate n (⟨0, 0, 0⟩ : Of)) (j / 3) = ⟨0, 0, 0⟩ := by rw [at_get hq]; simp
    rw [hat] at c1 c2 c3
    have hm : j % 3 < 3 := Nat.mod_lt _ (by omega)
    have e : j = j / 3 * 3 + j % 3 := by omega
    obtain ⟨q, hqq⟩ : ∃ q, j / 3 = q := ⟨_, rfl⟩
    obtain ⟨r, hr⟩ : ∃ r, j % 3 = r := ⟨_, rfl⟩
    rw [hqq, hr] at e
    rw [hqq] at c1 c2 c3
    rw [hr] at hm ⊢
    subst e
    match r, hm with
    | 0, _ => exact c1.symm
    | 1, _ => exact c2.symm
    | 2, _ => exact c3.symm
  · rw [List.getElem?_eq_none (by simp [zeK, size_madeCells]; omega), List.getElem?_eq_none (by rw [cl_length]; simp; omega)]
theorem make_kept (n : Nat) (h : n ≤ 100000) (W : World) : (Instr.makeSlice 35 (.int .i64 (n : Int)) (.int .i64 (n : Int))).run Try.prog W = .ok (.slice (some ⟨W.heap.size, 0, none⟩) n n) (W.alloc (.cells (zeK n) 38)) := by
  obtain ⟨i0, hi, hz0, hz1, hz2⟩ := info_parts info_kept
  have := run_make (P := Try.prog) W 35 38 i0 (.agg #[.int .i64 0, .int .u64 0, .int .u64 0]) Try.underlying35 hi hz0 .i64 .i64 (n : Int) (n : Int) (by omega) (by omega) (by rw [hz2]; omega) (by omega)
  rw [this, hz1]
  simp only [Int.toNat_natCast]
  rfl
theorem kept_new (W : World) (n : Nat) (hn : n ≤ 5000) : (W.alloc (.cells (zeK n) 38)).ownsRow 0 38 3 (.slice (some ⟨W.heap.size, 0, none⟩) n n) n (cl (List.replicate n ⟨0, 0, 0⟩)) := by
  refine ⟨by rw [cl_length]; simp, .inr ⟨W.heap.size, n, zeK n, rfl, Nat.zero_le _, blk_new W _ _, Nat.le_refl _, by unfold maxLen; omega, by simp [zeK, size_madeCells], ?_⟩⟩
  rw [List.take_of_length_le (by simp [zeK, size_madeCells]), zeK_eq]

/-- Behind the first part of Close: who is kept stands in the row, the greatest of all others in a block of its own. -/
def CMid (w : World) (bs : List Nat) (S k m : Nat) (os : List Of) (N0 : Nat) (W : World) : Prop :=
  ∃ v l, Rw W S (.int .i64 (k : Int), .int .u64 (m : Int), .int .i64 (os.length : Int)) v l ∧ l.Perm (keptL k os) ∧ Blk W N0 (oc (nx k os)).toArray 59 ∧ Mut bs w W ∧ ∀ g, v.ownBlock = some g → g ∈ bs
/-- In the loop of Close. -/
structure Clo (w : World) (bs : List Nat) (S k m : Nat) (v : Value) (kk : List Of) (o : Of) (N0 T n : Nat) (L : List Of) (W : World) : Prop where
  own : Blk W S #[.int .i64 (k : Int), .int .u64 (m : Int), .int .i64 0, .slice none 0 0] 55
  row : W.ownsRow 0 59 3 v n (cl kk)
  nxt : Blk W N0 (oc o).toArray 59
  out : W.ownsRow 0 38 3 (.slice (some ⟨T, 0, none⟩) n n) n (cl L)
  turn : Mut bs w W
theorem Clo.later {w W W' : World} {bs : List Nat} {S k m N0 T n : Nat} {v : Value} {kk L : List Of} {o : Of} (h : Clo w bs S k m v kk o N0 T n L W) (hb : Below W.heap.size W W') : Clo w bs S k m v kk o N0 T n L W' :=
  ⟨h.own.later hb, row_same h.row fun g hg => hb.block g (h.row.lt g hg).2, h.nxt.later hb, row_same h.out fun g hg => hb.block g (h.out.lt g hg).2, h.turn.trans (Mut.of_below hb)⟩
theorem Clo.set {w W : World} {bs : List Nat} {S k m N0 T n i : Nat} {v : Value} {kk L : List Of} {o : Of} (h : Clo w bs S k m v kk o N0 T n L W) (t : Of) (hi : i < n) (hL : L.length = n) (hT : w.heap.size ≤ T) (hS : S ≠ T) (hN : N0 ≠ T) (hv : ∀ g, v.ownBlock = some g → g ≠ T) :
    Clo w bs S k m v kk o N0 T n (L.set i t) (((W.setCell ⟨T, i * 3, none⟩ (.int .i64 (t.p : Int))).setCell ⟨T, i * 3 + 1, none⟩ (.int .u64 (t.w : Int))).setCell ⟨T, i * 3 + 2, none⟩ (.int .u64 (t.d : Int))) := by
  have hm := mut3 W T (i * 3) (i * 3 + 1) (i * 3 + 2) (.int .i64 (t.p : Int)) (.int .u64 (t.w : Int)) (.int .u64 (t.d : Int))
  have h1 := (((h.out.stored (i * 3) (.int .i64 (t.p : Int))).1.stored (i * 3 + 1) (.int .u64 (t.w : Int))).1.stored (i * 3 + 2) (.int .u64 (t.d : Int))).1
  rw [cl_set t (by omega)] at h1
  refine ⟨h.own.mut hm (by simpa using hS), row_same h.row fun g hg => hm.block g (h.row.lt g hg).2 (by simpa using hv g hg), h.nxt.mut hm (by simpa using hN), h1, ?_⟩
  refine ⟨hm.os.trans h.turn.os, hm.tape.trans h.turn.tape, hm.output.trans h.turn.output, Nat.le_trans h.turn.size hm.size, fun j hj hn => ?_⟩
  exact (hm.block j (Nat.lt_of_lt_of_le hj h.turn.size) (by simp; omega)).trans (h.turn.block j hj hn)
def CloseE (w : World) (bs : List Nat) (S k m : Nat) (os : List Of) (e : Ending) (w' : World) : Prop :=
  ∃ T, e = .returned (.slice (some ⟨T, 0, none⟩) (closeL k m os).length (closeL k m os).length) ∧ w'.ownsRow 0 38 3 (.slice (some ⟨T, 0, none⟩) (closeL k m os).length (closeL k m os).length) (closeL k m os).length (cl (closeL k m os)) ∧ w.heap.size ≤ T ∧ Sm w' [S] S k m [] ∧ Mut bs w w'
theorem Clo.done {w W : World} {bs : List Nat} {S k m N0 T n : Nat} {v : Value} {os kk L : List Of} {o : Of} (h : Clo w bs S k m v kk o N0 T n L W) (hL : L = closeL k m os) (hn : n = (closeL k m os).length) (hT : w.heap.size ≤ T) (hk : 1 ≤ k ∧ k ≤ 1000) (hm : m < 18446744073709551616) (hS : S < w.heap.size) : CloseE w bs S k m os (.returned (.slice (some ⟨T, 0, none⟩) n n)) W := by
  subst hL hn
  exact ⟨T, rfl, h.out, hT, ⟨.slice none 0 0, [], [], [], ⟨h.own, World.ownsRow_nil _ _ _ _, by simp, by simp⟩, fun i i0 hi => by simp at hi, List.Perm.refl _, Top.nil k, hk, hm, by simp, by simp, by simp [Value.ownBlock], by simpa using Nat.lt_of_lt_of_le hS h.turn.size⟩, h.turn⟩
theorem nx_ok {k m : Nat} {os : List Of} (h : ∀ t ∈ os, Fit t ∧ t.d < dr m ∧ 1 ≤ t.w) : Fit (nx k os) ∧ (nx k os).d < dr m := by
  unfold nx
  cases hf : os.find? fun t => decide (rank os t = k) with
  | none => exact ⟨⟨by simp, by simp⟩, by simp [dr]; split <;> omega⟩
  | some t =>
    have := h t (List.mem_of_find?_eq_some hf)
    exact ⟨this.1, this.2.1⟩
/-- One more stands in the list. -/
theorem fill_step {L out : List Of} {i : Nat} (hi : i < L.length) (h : ∀ j, j < i → at_ L j = at_ out j) : ∀ j, j < i + 1 → at_ (L.set i (at_ out i)) j = at_ out j := fun j hj => by
  by_cases e : j = i
  · subst e; simp [at_, List.getD, hi]
  · have : at_ (L.set i (at_ out i)) j = at_ L j := by simp [at_, List.getD, Ne.symm e]
    rw [this]; exact h j (by omega)
theorem fill_all {L out : List Of} (hl : L.length = out.length) (h : ∀ j, j < L.length → at_ L j = at_ out j) : L = out := by
  apply List.ext_getElem hl
  intro j h1 h2
  have := h j h1
  rwa [at_get h1, at_get h2] at this

theorem close_at {k m i : Nat} {os : List Of} (h : i < (keptL k os).length) : at_ (closeL k m os) i = ⟨(at_ (keptL k os) i).p, (cnts (at_ (keptL k os) i).w (nx k os) m).1, (cnts (at_ (keptL k os) i).w (nx k os) m).2⟩ := by
  rw [at_get (by unfold closeL; simpa using h), at_get h]
  simp [closeL]
theorem Mut.alloc {bs : List Nat} {a w : World} (h : Mut bs a w) (o : Obj) : Mut bs a (w.alloc o) := h.trans (Mut.of_below (box_below o))

set_option maxRecDepth 100000 in
set_option maxHeartbeats 4000000 in
theorem pclose_any {bs : List Nat} {S k m : Nat} {os : List Of} (w : World) (h : Sm w bs S k m os) (hlen : os.length ≤ 1000000) :
    Calls Try.prog 9 #[.pointer (some ⟨S, 0, none⟩)] w (CloseE w bs S k m os) := by
  obtain ⟨v, l, s, r, h1, h2, h3, h4, h5, h6, h7, h8, h9, h10⟩ := h
  have hpl := h4.pl
  have hSl := h1.own.lt
  have hkl := h4.kept_len
  obtain ⟨ho1, ho2⟩ := nx_ok (k := k) h7
  have hfk : ∀ t ∈ keptL k os, t.w < 18446744073709551616 := fun t ht => (h7 t (List.mem_filter.1 ht).1).1.1
  have hll : l.length ≤ 1001 := by rw [h3.length_eq]; have := h4.len; omega
  have hR1 : Rw (w.alloc (.cells #[.int .i64 0, .int .u64 0, .int .u64 0] 59)) S (.int .i64 (k : Int), .int .u64 (m : Int), .int .i64 (os.length : Int)) v l := h1.later (box_below _)
  have hK1 := blk_new w #[.int .i64 0, .int .u64 0, .int .u64 0] 59
  have hM1 : Mut bs w (w.alloc (.cells #[.int .i64 0, .int .u64 0, .int .u64 0] 59)) := (Mut.refl _ _).alloc _
  obtain ⟨N0, hN0⟩ : ∃ N0, w.heap.size = N0 := ⟨_, rfl⟩
  rw [hN0] at hK1 hSl
  have hb9 : ∀ g, v.ownBlock = some g → g < N0 := fun g hg => hN0 ▸ h10 g (h9 g hg)
  -- the first part
  have hpop : k < os.length → ∀ W, Rw W S (.int .i64 (k : Int), .int .u64 (m : Int), .int .i64 (os.length : Int)) v l → Mut bs w W → (∃ C, Blk W N0 C 59 ∧ C.size = 3) → ∃ x : Of, Calls Try.prog 17 #[.iface 57 (.pointer (some ⟨S, 3, none⟩))] W fun e w' => e = .returned (.iface 59 (.agg #[.int .i64 (x.p : Int), .int .u64 (x.w : Int), .int .u64 (x.d : Int)])) ∧
      (∃ C, Blk w' N0 C 59 ∧ C.size = 3) ∧ ∀ W', W' = ((w'.setCell ⟨N0, 0, none⟩ (.int .i64 (x.p : Int))).setCell ⟨N0, 1, none⟩ (.int .u64 (x.w : Int))).setCell ⟨N0, 2, none⟩ (.int .u64 (x.d : Int)) → CMid w bs S k m os N0 W' := fun hn W hW hm hC => by
    have hsl : s.length = k + 1 := by have := h4.len; omega
    obtain ⟨x, s', rfl⟩ : ∃ x s', s = x :: s' := by
      cases s with
      | nil => simp at hsl
      | cons x s' => exact ⟨x, s', rfl⟩
    obtain ⟨p1, p2, p3⟩ := h4.many hn
    have hx : at_ l 0 = x := first_of h2 h3 h4.so
    have hl : l.length = k + 1 := by rw [h3.length_eq]; exact hsl
    obtain ⟨B, cap, rfl, hc1, hc2, hBl⟩ := hW.slice (by omega)
    rw [hl] at hW h2
    have hBb : B ∈ bs := h9 B rfl
    refine ⟨x, (cpop_any W hW h2).mono fun e w' ⟨he, l', g1, g2, g3, g4⟩ => ?_⟩
    rw [hx] at he g1
    have hsub : ∀ j ∈ [S, B], j ∈ bs := fun j hj => by
      rcases List.mem_cons.1 hj with rfl | hj
      · exact h8
      · rw [List.mem_singleton.1 hj]; exact hBb
    have hNb : N0 ∉ [S, B] := fun hj => by
      have := h10 _ (hsub _ hj)
      omega
    obtain ⟨C, hC1, hC2⟩ := hC
    have hC3 : Blk w' N0 C 59 := hC1.mut g4 hNb
    refine ⟨he, ⟨C, hC3, hC2⟩, ?_⟩
    rintro W' rfl
    have hmm := mut3 w' N0 0 1 2 (.int .i64 (x.p : Int)) (.int .u64 (x.w : Int)) (.int .u64 (x.d : Int))
    have hp : l'.Perm s' := by
      have h6 : (l' ++ [x]).Perm (x :: s') := g1.trans h3
      exact (List.perm_cons x).1 ((List.perm_append_comm (l₁ := [x]) (l₂ := l')).trans h6)
    refine ⟨.slice (some ⟨B, 0, none⟩) l'.length cap, l', g3.mut hmm (by simp; omega) (fun g hg => ?_), hp.trans p1, ?_, ?_, fun g hg => ?_⟩
    · simp [Value.ownBlock] at hg
      subst hg
      have := hb9 B rfl
      simp; omega
    · have := ((hC3.set 0 (.int .i64 (x.p : Int))).set 1 (.int .u64 (x.w : Int))).set 2 (.int .u64 (x.d : Int))
      rw [p2]
      have e : ((C.setIfInBounds 0 (.int .i64 (x.p : Int))).setIfInBounds 1 (.int .u64 (x.w : Int))).setIfInBounds 2 (.int .u64 (x.d : Int)) = (oc x).toArray := by
        obtain ⟨c⟩ := C
        match c, hC2 with
        | [a, b, c], _ => rfl
      rw [e] at this
      exact this
    · have h11 := hm.trans (g4.wider hsub)
      exact ⟨hmm.os.trans h11.os, hmm.tape.trans h11.tape, hmm.output.trans h11.output, Nat.le_trans h11.size hmm.size, fun j hj hn => (hmm.block j (Nat.lt_of_lt_of_le hj h11.size) (by simp; omega)).trans (h11.block j hj hn)⟩
    · simp [Value.ownBlock] at hg
      subst hg
      exact hBb
  have hfew : ¬ k < os.length → ∀ W, Rw W S (.int .i64 (k : Int), .int .u64 (m : Int), .int .i64 (os.length : Int)) v l → Mut bs w W → Blk W N0 #[.int .i64 0, .int .u64 0, .int .u64 0] 59 → CMid w bs S k m os N0 W := fun hn W hW hm hC => by
    obtain ⟨p1, p2, p3, p4⟩ := h4.few (by omega)
    exact ⟨v, l, hW, (h3.trans p2).trans (by rw [p3]), by rw [p4]; exact hC, hm, h9⟩
  have HP := Lib.hid hpop
  have HF := Lib.hid hfew
  have HR := Lib.hid hR1
  have HK := Lib.hid hK1
  have HM := Lib.hid hM1
  have hsz : N0 < (w.alloc (.cells #[.int .i64 0, .int .u64 0, .int .u64 0] 59)).heap.size := hK1.lt
  have H5 := Lib.hid h5
  have H8 := Lib.hid h8
  have HPL := Lib.hid hpl
  have HKL := Lib.hid hkl
  have HO := Lib.hid (show Fit (nx k os) ∧ (nx k os).d < dr m from ⟨ho1, ho2⟩)
  have HFK := Lib.hid hfk
  have HB9 := Lib.hid (show (∀ j ∈ bs, j < N0) ∧ w.heap.size = N0 from ⟨fun j hj => hN0 ▸ h10 j hj, hN0⟩)
  obtain ⟨n0, hn0⟩ : ∃ n, os.length = n := ⟨_, rfl⟩
  have HN := Lib.hid hn0
  rw [hn0] at hlen
  have hk5 : k ≤ 1000 := h5.2
  clear h1 h2 h3 h4 h7 h8 h9 h10 hpl hkl ho1 ho2 hfk hll hR1 hK1 hM1 hpop hfew hb9 hn0 h5
  go_enter Try.func9, Try.ntmps9
  go_upto_region 2 with fail
  clear hN0
  generalize w.alloc (.cells #[.int .i64 0, .int .u64 0, .int .u64 0] 59) = w1 at HR HK HM hsz ⊢
  have s0 : w1.cell? ⟨S, 0, none⟩ = some (.int .i64 (k : Int)) := HR.out.own.cell 0 rfl
  have s2 : w1.cell? ⟨S, 2, none⟩ = some (.int .i64 (n0 : Int)) := HN.out ▸ HR.out.own.cell 2 rfl
  obtain ⟨b1, b1i, b1n⟩ : ∃ b1, decide ((k : Int) < (n0 : Int)) = b1 ∧ decide (k < n0) = b1 := ⟨decide (k < n0), by simp, rfl⟩
  go_quiet (fail)
  have HR2 := Lib.hid (HR.out.drewN nq)
  have HM2 := Lib.hid (HM.out.drewN nq)
  have HK2 : Hid (Blk (w1.drewN nq) N0 #[.int .i64 0, .int .u64 0, .int .u64 0] 59) := Lib.hid (HK.out.mut (Mut.drewN (Mut.refl [] w1) nq) (by simp))
  clear s0 s2 HR HM HK hsz
  generalize w1.drewN nq = w2 at HR2 HM2 HK2 ⊢
  go_upto_if 18 with fail
  go_cut [] (fun wx => Hid (CMid w bs S k m os N0 wx))
  case first =>
    by_cases hn : k < n0
    · obtain rfl : b1 = true := by rw [← b1n]; simp; omega
      obtain ⟨x, hx⟩ := HP.out (by rw [HN.out]; exact hn) w2 HR2.out HM2.out ⟨_, HK2.out, rfl⟩
      have HX := Lib.hid hx
      have has := as_of (.agg #[.int .i64 (x.p : Int), .int .u64 (x.w : Int), .int .u64 (x.d : Int)])
      clear hx hn
      go_wp2_with fail
      refine HX.out.mono ?_
      rintro e w3 ⟨rfl, ⟨C, hC1, hC2⟩, hend⟩
      have HE := Lib.hid (hend _ rfl)
      have c0 : w3.cell? ⟨N0, 0, none⟩ = some C[0] := hC1.cell 0 (by simp)
      have c1 : w3.cell? ⟨N0, 1, none⟩ = some C[1] := hC1.cell 1 (by simp)
      have c2 : w3.cell? ⟨N0, 2, none⟩ = some C[2] := hC1.cell 2 (by simp)
      have f0 := hC1.free 0
      have f1 := hC1.free 1
      have f2 := hC1.free 2
      generalize C[0] = y0 at c0
      generalize C[1] = y1 at c1
      generalize C[2] = y2 at c2
      clear hend hC1 hC2
      go_wp2_with fail
      go_meet
      exact HE
    · obtain rfl : b1 = false := by rw [← b1n]; simp; omega
      have HE := Lib.hid (HF.out (by rw [HN.out]; exact hn) w2 HR2.out HM2.out HK2.out)
      clear hn
      go_wp2_with fail
      go_meet
      exact HE
  case rest =>
    obtain ⟨v2, l2, hR, hp, hX, hM, hv⟩ := hcut.out
    obtain ⟨A, cap, rfl, hc1, hc2⟩ := hR.len
    have hkn : l2.length = (closeL k m os).length := by rw [hp.length_eq]; unfold closeL; simp
    have hk3 : (keptL k os).length = l2.length := hp.length_eq.symm
    have hmost := hR.most
    have hSb : S ∈ bs := by
      obtain ⟨v3, l3, hR3, _⟩ := hcut.out
      exact H8.out
    have hvS : ∀ g, (Value.slice A l2.length cap).ownBlock = some g → g ≠ S := fun g hg => by
      rcases hR.row.2 with ⟨e, _⟩ | ⟨g', cap', cur, e, _⟩
      · rw [e] at hg; simp [Value.ownBlock] at hg
      · have h11 := hR
        rw [e] at hg h11
        simp [Value.ownBlock] at hg
        subst hg
        exact h11.apart.symm
    have hO1 := (hR.own.set 2 (.int .i64 0)).set 3 (.slice none 0 0)
    have hrow1 : ((wc.setCell ⟨S, 2, none⟩ (.int .i64 0)).setCell ⟨S, 3, none⟩ (.slice none 0 0)).ownsRow 0 59 3 (.slice A l2.length cap) l2.length (cl l2) := row_same hR.row fun g hg => (Below.heap_setCell _ _ _ _ (hvS g hg)).trans (Below.heap_setCell _ _ _ _ (hvS g hg))
    have hX1 : Blk ((wc.setCell ⟨S, 2, none⟩ (.int .i64 0)).setCell ⟨S, 3, none⟩ (.slice none 0 0)) N0 (oc (nx k os)).toArray 59 := (hX.same (Below.heap_setCell _ _ _ _ (by show N0 ≠ S; omega))).same (Below.heap_setCell _ _ _ _ (by show N0 ≠ S; omega))
    have hM1 : Mut bs w ((wc.setCell ⟨S, 2, none⟩ (.int .i64 0)).setCell ⟨S, 3, none⟩ (.slice none 0 0)) := (hM.setCell (p := ⟨S, 2, none⟩) hSb _).setCell (p := ⟨S, 3, none⟩) hSb _
    have hS : Calls Try.prog 18 #[.slice A l2.length cap, .func (.func 19) #[] #[]] ((wc.setCell ⟨S, 2, none⟩ (.int .i64 0)).setCell ⟨S, 3, none⟩ (.slice none 0 0)) fun e w' => e = .returned (.tuple #[]) ∧ Blk w' S #[.int .i64 (k : Int), .int .u64 (m : Int), .int .i64 0, .slice none 0 0] 55 ∧ w'.ownsRow 0 59 3 (.slice A l2.length cap) l2.length (cl (keptL k os)) ∧ Blk w' N0 (oc (nx k os)).toArray 59 ∧ Mut bs w w' := (sort_v _ hrow1 rfl hmost).mono fun e w' ⟨he, l', p1, p2, p3, p4⟩ => ⟨he, by
      have e1 := by_place HPL.out (p1.trans hp) p2
      subst e1
      have hsub : ∀ j ∈ (Value.slice A l2.length cap).ownBlock.toList, j ∈ bs := fun j hj => hv j (by simpa using hj)
      exact ⟨hO1.mut p4 (fun hj => hvS S (by simpa using hj) rfl), p3, hX1.mut p4 (fun hj => by have := HB9.out.1 _ (hsub _ hj); omega), hM1.trans (p4.wider hsub)⟩⟩
    have s2 : wc.cell? ⟨S, 2, none⟩ = some (.int .i64 (os.length : Int)) := hR.own.cell 2 rfl
    have s3 : wc.cell? ⟨S, 3, none⟩ = some (.slice A l2.length cap) := hR.own.cell 3 rfl
    have f2 := hR.own.free 2
    have f3 := hR.own.free 3
    have hvN : ∀ g, (Value.slice A l2.length cap).ownBlock = some g → g < N0 := fun g hg => HB9.out.1 g (hv g hg)
    obtain ⟨n, hn⟩ : ∃ n, l2.length = n := ⟨_, rfl⟩
    rw [hn] at hkn hk3 hc1 hS s3 hvN hmost
    rw [hn] at hvS
    have HS := Lib.hid hS
    have HVN := Lib.hid hvN
    have HKN := Lib.hid (show n = (closeL k m os).length ∧ (keptL k os).length = n from ⟨hkn, hk3⟩)
    have hmk := make_kept n (by omega)
    have hn5 : n ≤ 5000 := by omega
    rw [HN.out] at s2
    clear hcut hR hp hX hM hv hvS hO1 hrow1 hX1 hM1 hS hn hkn hk3 hvN hmost HP HF HR2 HM2 HK2 hSb
    go_wp2_with fail
    refine HS.out.mono ?_
    rintro e w3 ⟨rfl, hA1, hA2, hA3, hA4⟩
    have hT1 : w.heap.size ≤ w3.heap.size := hA4.size
    have hSN : N0 < w3.heap.size := hA3.lt
    have hcl : Clo w bs S k m (.slice A n cap) (keptL k os) (nx k os) N0 w3.heap.size n (List.replicate n ⟨0, 0, 0⟩) (w3.alloc (.cells (zeK n) 38)) :=
      ⟨hA1.later (box_below _), row_same hA2 fun g hg => (box_below _).block g (hA2.lt g hg).2, hA3.later (box_below _), kept_new w3 n hn5, hA4.alloc _⟩
    obtain ⟨T, hT⟩ : ∃ T, w3.heap.size = T := ⟨_, rfl⟩
    have hmk3 := hmk w3
    rw [hT] at hcl hT1 hSN hmk3
    have HCL := Lib.hid hcl
    clear hA1 hA2 hA3 hA4 hcl s2 s3 f2 f3 HS hT hmk
    go_wp2_with fail
    go_loopw [42] (fun iv wr => ∃ (i : Nat) (L : List Of), iv = .int .i64 (i : Int) ∧ i ≤ n ∧ Hid (L.length = n ∧ ∀ j, j < i → at_ L j = at_ (closeL k m os) j) ∧ Hid (Clo w bs S k m (.slice A n cap) (keptL k os) (nx k os) N0 T n L wr)) (fun iv _ => n - (intOf iv).toNat)
    case atStart => exact ⟨0, _, rfl, by omega, Lib.hid ⟨by simp, fun j hj => by omega⟩, HCL⟩
    case round =>
      obtain ⟨i, L, rfl, hi, HL, HC⟩ := hrel
      by_cases hin : i < n
      · have hLl := HL.out.1
        have hlt := HKN.out.2
        obtain ⟨B, rfl⟩ : ∃ B, A = some ⟨B, 0, none⟩ := by
          rcases HC.out.row.2 with ⟨_, e0⟩ | ⟨g, cap', cur, e, _⟩
          · omega
          · injection e with e1 _ _
            exact ⟨g, e1⟩
        have hca := close_at (k := k) (m := m) (os := os) (i := i) (by omega)
        have hmem := at_mem (l := keptL k os) (i := i) (by omega)
        have hxw := HFK.out _ hmem
        obtain ⟨k1, k2, k3⟩ := cl_at (l := keptL k os) (i := i) (by omega)
        obtain ⟨l1, l2', l3⟩ := cl_at (l := L) (i := i) (by omega)
        have i1 : wr.cell? ⟨B, i * 3, none⟩ = some (.int .i64 ((at_ (keptL k os) i).p : Int)) := (HC.out.row.cellAt _ (by omega)).trans k1
        have i2 : wr.cell? ⟨B, i * 3 + 1, none⟩ = some (.int .u64 ((at_ (keptL k os) i).w : Int)) := (HC.out.row.cellAt _ (by omega)).trans k2
        have i3 : wr.cell? ⟨B, i * 3 + 2, none⟩ = some (.int .u64 ((at_ (keptL k os) i).d : Int)) := (HC.out.row.cellAt _ (by omega)).trans k3
        obtain ⟨⟨p, x, d⟩, hat⟩ : ∃ t, at_ (keptL k os) i = t := ⟨_, rfl⟩
        rw [hat] at i1 i2 i3 hca hxw
        simp only at i1 i2 i3 hca hxw
        have hcl2 := HC.out.later (box_below (.cells #[.int .i64 (p : Int), .int .u64 (x : Int), .int .u64 (d : Int)] 59))
        have hbx := blk_new wr #[.int .i64 (p : Int), .int .u64 (x : Int), .int .u64 (d : Int)] 59
        have hcnt := counts_any x m (nx k os) _ hcl2.own hxw h6 HO.out.1 HO.out.2
        obtain ⟨⟨q1, q2⟩, hq⟩ : ∃ q, cnts x (nx k os) m = q := ⟨_, rfl⟩
        rw [hq] at hcnt hca
        simp only at hcnt hca
        have y0 : (wr.alloc (.cells #[.int .i64 (p : Int), .int .u64 (x : Int), .int .u64 (d : Int)] 59)).cell? ⟨N0, 0, none⟩ = some (.int .i64 ((nx k os).p : Int)) := hcl2.nxt.cell 0 rfl
        have y1 : (wr.alloc (.cells #[.int .i64 (p : Int), .int .u64 (x : Int), .int .u64 (d : Int)] 59)).cell? ⟨N0, 1, none⟩ = some (.int .u64 ((nx k os).w : Int)) := hcl2.nxt.cell 1 rfl
        have y2 : (wr.alloc (.cells #[.int .i64 (p : Int), .int .u64 (x : Int), .int .u64 (d : Int)] 59)).cell? ⟨N0, 2, none⟩ = some (.int .u64 ((nx k os).d : Int)) := hcl2.nxt.cell 2 rfl
        have hfin : ∀ W, Below (wr.alloc (.cells #[.int .i64 (p : Int), .int .u64 (x : Int), .int .u64 (d : Int)] 59)).heap.size (wr.alloc (.cells #[.int .i64 (p : Int), .int .u64 (x : Int), .int .u64 (d : Int)] 59)) W → W.cell? ⟨wr.heap.size, 0, none⟩ = some (.int .i64 (p : Int)) ∧ (∃ v1 v2 v3, W.cell? ⟨T, i * 3, none⟩ = some v1 ∧ W.cell? ⟨T, i * 3 + 1, none⟩ = some v2 ∧ W.cell? ⟨T, i * 3 + 2, none⟩ = some v3) ∧ (W.frozen? ⟨T, i * 3, none⟩ = false ∧ W.frozen? ⟨T, i * 3 + 1, none⟩ = false ∧ W.frozen? ⟨T, i * 3 + 2, none⟩ = false) ∧ Hid (Clo w bs S k m (.slice (some ⟨B, 0, none⟩) n cap) (keptL k os) (nx k os) N0 T n (L.set i (at_ (closeL k m os) i)) (((W.setCell ⟨T, i * 3, none⟩ (.int .i64 (p : Int))).setCell ⟨T, i * 3 + 1, none⟩ (.int .u64 (q1 : Int))).setCell ⟨T, i * 3 + 2, none⟩ (.int .u64 (q2 : Int)))) := fun W hW => by
          have h12 := hcl2.later hW
          refine ⟨(hbx.later hW).cell 0 rfl, ⟨_, _, _, (h12.out.cellAt _ (by omega)).trans l1, (h12.out.cellAt _ (by omega)).trans l2', (h12.out.cellAt _ (by omega)).trans l3⟩, ⟨h12.out.frozenAt _, h12.out.frozenAt _, h12.out.frozenAt _⟩, Lib.hid ?_⟩
          rw [hca]
          exact h12.set ⟨p, q1, q2⟩ hin hLl hT1 (by omega) (by omega) (fun g hg => by have := HVN.out g hg; omega)
        have hnext : (L.set i (at_ (closeL k m os) i)).length = n ∧ ∀ j, j < i + 1 → at_ (L.set i (at_ (closeL k m os) i)) j = at_ (closeL k m os) j := ⟨by simpa using hLl, fill_step (by omega) HL.out.2⟩
        have HNX := Lib.hid hnext
        have HCN := Lib.hid hcnt
        have HFI := Lib.hid hfin
        have hSl2 : S < wr.heap.size := HC.out.own.lt
        have t1 : decide ((i : Int) < (n : Int)) = true := by simp; omega
        obtain ⟨L', hL'⟩ : ∃ L', L.set i (at_ (closeL k m os) i) = L' := ⟨_, rfl⟩
        rw [hL'] at HNX HFI
        obtain ⟨⟨op, ow, od⟩, hop⟩ : ∃ o, nx k os = o := ⟨_, rfl⟩
        rw [hop] at y0 y1 y2 HCN
        simp only at y0 y1 y2 HCN
        clear hca hmem hxw k1 k2 k3 l1 l2' l3 hat hcl2 hbx hcnt hq hfin hnext hL' hop hLl hlt hmk3 HCL
        go_wp2_with fail
        refine HCN.out.mono ?_
        rintro e w5 ⟨rfl, hb5⟩
        obtain ⟨z0, ⟨v1, v2, v3, z1, z2, z3⟩, ⟨g1, g2, g3⟩, HC5⟩ := HFI.out w5 hb5
        clear hb5 y0 y1 y2 i1 i2 i3
        go_wp2_with fail
        go_roundw
        case rel => exact ⟨i + 1, L', by simp, by omega, HNX, HC5⟩
        case measure => simp [intOf]; omega
      · have hie : i = n := by omega
        subst hie
        have hend := HC.out.done (fill_all (by rw [HL.out.1, HKN.out.1]) (by rw [HL.out.1]; exact HL.out.2)) HKN.out.1 hT1 H5.out h6 (by rw [HB9.out.2]; exact hSl)
        have HE := Lib.hid hend
        have t1 : decide ((i : Int) < (i : Int)) = false := by simp
        clear hend hin
        go_wp2_with fail
        go_ret
        exact HE.out
end Go.Proofs.Ytmjbdjcpjaeemaa
