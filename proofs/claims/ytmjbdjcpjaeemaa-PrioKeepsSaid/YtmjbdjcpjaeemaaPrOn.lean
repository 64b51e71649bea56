/-
  A sampler of a law's own: New, Len, Add.
-/
import Derived.Deep.QuietTactic
import Derived.BigQuiet
import Derived.Carry
import Derived.Test.YtmjbdjcpjaeemaaPrTop
import Derived.Test.YtmjbdjcpjaeemaaPrCont
namespace Go.Proofs.Ytmjbdjcpjaeemaa
open Go.RowKit Go.Proofs.PrioMath

/-- A sampler at S, of so many kept and so many draws, to which the offers os were offered; its blocks are among bs. -/
def Sm (W : World) (bs : List Nat) (S k m : Nat) (os : List Of) : Prop :=
  ∃ v l s r, Rw W S (.int .i64 (k : Int), .int .u64 (m : Int), .int .i64 (os.length : Int)) v l ∧ Hep l l.length ∧ l.Perm s ∧ Top k os s r ∧ (1 ≤ k ∧ k ≤ 1000) ∧ m < 18446744073709551616 ∧ (∀ t ∈ os, Fit t ∧ t.d < dr m ∧ 1 ≤ t.w) ∧ S ∈ bs ∧ (∀ g, v.ownBlock = some g → g ∈ bs) ∧ ∀ j ∈ bs, j < W.heap.size
theorem Sm.mut {W W' : World} {bs cs : List Nat} {S k m : Nat} {os : List Of} (h : Sm W bs S k m os) (hb : Mut cs W W') (hc : ∀ j ∈ bs, j ∉ cs) : Sm W' bs S k m os := by
  obtain ⟨v, l, s, r, h1, h2, h3, h4, h5, h6, h7, h8, h9, h10⟩ := h
  exact ⟨v, l, s, r, h1.mut hb (hc _ h8) (fun g hg => hc _ (h9 g hg)), h2, h3, h4, h5, h6, h7, h8, h9, fun j hj => Nat.lt_of_lt_of_le (h10 j hj) hb.size⟩
theorem Sm.later {W W' : World} {bs : List Nat} {S k m : Nat} {os : List Of} (h : Sm W bs S k m os) (hb : Below W.heap.size W W') : Sm W' bs S k m os := h.mut (cs := []) (Mut.of_below hb) (by simp)
theorem Sm.lt {W : World} {bs : List Nat} {S k m : Nat} {os : List Of} (h : Sm W bs S k m os) : ∀ j ∈ bs, j < W.heap.size := by
  obtain ⟨v, l, s, r, h1, h2, h3, h4, h5, h6, h7, h8, h9, h10⟩ := h
  exact h10
theorem Sm.pl {W : World} {bs : List Nat} {S k m : Nat} {os : List Of} (h : Sm W bs S k m os) : Pl os := by
  obtain ⟨v, l, s, r, h1, h2, h3, h4, _⟩ := h
  exact h4.pl
/-- It has turned into one to which the offers os were offered. -/
def SmTo (w : World) (bs : List Nat) (S k m : Nat) (os : List Of) (w' : World) : Prop := ∃ bs', Sm w' bs' S k m os ∧ Mut bs w w' ∧ Ext w bs bs'

set_option maxRecDepth 100000 in
set_option maxHeartbeats 1000000 in
theorem plen_any {bs : List Nat} {S k m : Nat} {os : List Of} (w : World) (h : Sm w bs S k m os) :
    Calls Try.prog 8 #[.pointer (some ⟨S, 0, none⟩)] w fun e w' => e = .returned (.int .i64 (os.length : Int)) ∧ w = w' := by
  obtain ⟨v, l, s, r, h1, _⟩ := h
  have s2 : w.cell? ⟨S, 2, none⟩ = some (.int .i64 (os.length : Int)) := h1.own.cell 2 rfl
  clear h1
  go_enter Try.func8, Try.ntmps8
  go_wp2_with fail
  go_ret
  exact ⟨rfl, rfl⟩

def NewE (w : World) (k m : Nat) (e : Ending) (w' : World) : Prop := ∃ S bs, e = .returned (.pointer (some ⟨S, 0, none⟩)) ∧ Sm w' bs S k m [] ∧ Below w.heap.size w w' ∧ ∀ j ∈ bs, w.heap.size ≤ j
set_option maxRecDepth 100000 in
set_option maxHeartbeats 1000000 in
theorem pnew_any (k m : Nat) (w : World) (h1 : 1 ≤ k) (h2 : k ≤ 1000) (hm : m < 18446744073709551616) :
    Calls Try.prog 6 #[.int .i64 (k : Int), .int .u64 (m : Int)] w (NewE w k m) := by
  have hend : NewE w k m (.returned (.pointer (some ⟨w.heap.size, 0, none⟩))) (w.alloc (.cells #[.int .i64 (k : Int), .int .u64 (m : Int), .int .i64 0, .slice none 0 0] 55)) :=
    ⟨_, [w.heap.size], rfl, ⟨.slice none 0 0, [], [], [], ⟨blk_new _ _ _, World.ownsRow_nil _ _ _ _, by simp, by simp⟩, fun i i0 hi => by simp at hi, List.Perm.refl _, Top.nil k, ⟨h1, h2⟩, hm, by simp, by simp, by simp [Value.ownBlock], by simp⟩, box_below _, by simp⟩
  have HE := Lib.hid hend
  have t1 : decide ((k : Int) < 1) = false := by simp; omega
  have t2 : decide ((1000 : Int) < (k : Int)) = false := by simp; omega
  clear hend
  go_enter Try.func6, Try.ntmps6
  go_wp2_with fail
  go_ret
  exact HE.out
set_option maxRecDepth 100000 in
set_option maxHeartbeats 1000000 in
theorem pnew_no (k m : Nat) (w : World) (h : k < 1 ∨ 1000 < k) :
    Calls Try.prog 6 #[.int .i64 (k : Int), .int .u64 (m : Int)] w fun e w' => e = .returned (.pointer none) ∧ w = w' := by
  by_cases h0 : k < 1
  · have t1 : decide ((k : Int) < 1) = true := by simp; omega
    clear h h0
    go_enter Try.func6, Try.ntmps6
    go_wp2_with fail
    go_ret
    exact ⟨rfl, rfl⟩
  · have t1 : decide ((k : Int) < 1) = false := by simp; omega
    have t2 : decide ((1000 : Int) < (k : Int)) = true := by simp; omega
    clear h h0
    go_enter Try.func6, Try.ntmps6
    go_wp2_with fail
    go_ret
    exact ⟨rfl, rfl⟩

set_option maxRecDepth 100000 in
set_option maxHeartbeats 1000000 in
theorem padd_no {S : Nat} (x d : Nat) (w : World) (h : x < 1 ∨ 4294967296 < x) :
    Calls Try.prog 7 #[.pointer (some ⟨S, 0, none⟩), .int .u64 (x : Int), .int .u64 (d : Int)] w fun e w' => e = .returned (.tuple #[.int .i64 (-1), .int .u16 1]) ∧ w = w' := by
  by_cases h0 : x < 1
  · have t1 : decide ((x : Int) < 1) = true := by simp; omega
    clear h h0
    go_enter Try.func7, Try.ntmps7
    go_wp2_with fail
    go_ret2
    exact ⟨rfl, rfl⟩
  · have t1 : decide ((x : Int) < 1) = false := by simp; omega
    have t2 : decide ((4294967296 : Int) < (x : Int)) = true := by simp; omega
    clear h h0
    go_enter Try.func7, Try.ntmps7
    go_wp2_with fail
    go_ret2
    exact ⟨rfl, rfl⟩

theorem quiet_left {P : Program} {f : FuncId} {args : Array Value} {w : World} {n : Nat} {v : Value}
    (h : Calls P f args (w.drewN n) fun e w' => e = .returned v ∧ w.drewN n = w') : Calls P f args (w.drewN n) fun e w'' => e = .returned v ∧ ∃ m, w'' = w.drewN m :=
  h.mono fun _ _ ⟨he, hm⟩ => ⟨he, n, hm.symm⟩
theorem Rw.drewN {W : World} {S : Nat} {mo : Value × Value × Value} {v : Value} {l : List Of} (h : Rw W S mo v l) (q : Nat) : Rw (W.drewN q) S mo v l := h.mut (bs := []) ⟨rfl, rfl, rfl, Nat.le_refl _, fun _ _ _ => rfl⟩ (by simp) (by simp)
theorem Mut.drewN {bs : List Nat} {a w : World} (h : Mut bs a w) (q : Nat) : Mut bs a (w.drewN q) := ⟨h.os, h.tape, h.output, h.size, h.block⟩

/-- One more was put in: what Add has then, ahead of its last step. -/
def Mid (w : World) (bs : List Nat) (S k m n : Nat) (s : List Of) (t : Of) (W : World) : Prop :=
  ∃ l B cap, l.Perm (ins t s) ∧ Hep l l.length ∧ Rw W S (.int .i64 (k : Int), .int .u64 (m : Int), .int .i64 ((n : Int) + 1)) (.slice (some ⟨B, 0, none⟩) l.length cap) l ∧ Mut bs w W ∧ (B ∈ bs ∨ w.heap.size ≤ B)
theorem Mid.drewN {w : World} {bs : List Nat} {S k m n : Nat} {s : List Of} {t : Of} {W : World} (h : Mid w bs S k m n s t W) (q : Nat) : Mid w bs S k m n s t (W.drewN q) := by
  obtain ⟨l, B, cap, h1, h2, h3, h4, h5⟩ := h
  exact ⟨l, B, cap, h1, h2, h3.drewN q, h4.drewN q, h5⟩
theorem Mid.fits {w : World} {bs : List Nat} {S k m n : Nat} {s : List Of} {t : Of} {W : World} (h : Mid w bs S k m n s t W) : Calls Try.prog 16 #[.pointer (some ⟨S, 3, none⟩)] W fun e w' => e = .returned (.int .i64 ((s.length + 1 : Nat) : Int)) ∧ W = w' := by
  obtain ⟨l, B, cap, h1, h2, h3, h4, h5⟩ := h
  have := len_any W h3
  rwa [h1.length_eq, ins_length] at this
/-- What a sampler knows of itself, beside its row. -/
structure Kn (bs : List Nat) (S k m : Nat) (os s r : List Of) (t : Of) (w : World) : Prop where
  top : Top k os s r
  kk : 1 ≤ k ∧ k ≤ 1000
  mm : m < 18446744073709551616
  ok : ∀ t ∈ os, Fit t ∧ t.d < dr m ∧ 1 ≤ t.w
  mem : S ∈ bs
  lt : ∀ j ∈ bs, j < w.heap.size
  tp : t.p = os.length
  tok : Fit t ∧ t.d < dr m ∧ 1 ≤ t.w
theorem Mid.done {w : World} {bs : List Nat} {S k m : Nat} {os s r : List Of} {t : Of} {W : World} (h : Mid w bs S k m os.length s t W) (K : Kn bs S k m os s r t w) (hs : s.length ≤ k) : SmTo w bs S k m (os ++ [t]) W := by
  obtain ⟨l, B, cap, h1, h2, h3, h4, h5⟩ := h
  have hb : ∀ j ∈ [S, B], j ∈ bs ∨ w.heap.size ≤ j := fun j hj => by
    rcases List.mem_cons.1 hj with rfl | hj
    · exact .inl K.mem
    · rw [List.mem_singleton.1 hj]; exact h5
  have hBl : B < W.heap.size := (h3.row.lt B rfl).2
  refine ⟨[S, B], ⟨.slice (some ⟨B, 0, none⟩) l.length cap, l, ins t s, r, ?_, h2, h1, K.top.snoc K.tp hs, K.kk, K.mm, fun x hx => ?_, by simp, fun g hg => ?_, fun j hj => ?_⟩, h4, hb⟩
  · have e : (((os ++ [t]).length : Nat) : Int) = (os.length : Int) + 1 := by simp
    rw [e]; exact h3
  · rcases List.mem_append.1 hx with hx | hx
    · exact K.ok x hx
    · rw [List.mem_singleton.1 hx]; exact K.tok
  · simp [Value.ownBlock] at hg
    simp [hg]
  · rcases List.mem_cons.1 hj with rfl | hj
    · exact Nat.lt_of_lt_of_le (K.lt _ K.mem) h4.size
    · rw [List.mem_singleton.1 hj]; exact hBl
theorem Mid.pop {w : World} {bs : List Nat} {S k m : Nat} {os s r : List Of} {t : Of} {W : World} (h : Mid w bs S k m os.length s t W) (K : Kn bs S k m os s r t w) (hs : s.length = k + 1) :
    ∃ x : Of, Calls Try.prog 17 #[.iface 57 (.pointer (some ⟨S, 3, none⟩))] W fun e w' => e = .returned (.iface 59 (.agg #[.int .i64 (x.p : Int), .int .u64 (x.w : Int), .int .u64 (x.d : Int)])) ∧ SmTo w bs S k m (os ++ [t]) w' := by
  obtain ⟨l, B, cap, h1, h2, h3, h4, h5⟩ := h
  obtain ⟨x, s', e, hT⟩ := K.top.snoc_pop K.tp hs
  have hl : l.length = k + 1 + 1 := by rw [h1.length_eq, ins_length, hs]
  have hx : at_ l 0 = x := first_of h2 (e ▸ h1) (e ▸ ins_so K.top.so fun a ha => by
    have := (K.top.pl.mem (K.top.mem.2 (.inl ha))).1
    have := K.tp
    omega)
  rw [hl] at h2 h3
  refine ⟨x, (cpop_any W h3 h2).mono fun e' w' ⟨he, l', g1, g2, g3, g4⟩ => ?_⟩
  rw [hx] at he g1
  have hb : ∀ j ∈ [S, B], j ∈ bs ∨ w.heap.size ≤ j := fun j hj => by
    rcases List.mem_cons.1 hj with rfl | hj
    · exact .inl K.mem
    · rw [List.mem_singleton.1 hj]; exact h5
  have hBl : B < W.heap.size := (h3.row.lt B rfl).2
  have hp : l'.Perm s' := by
    have h6 : (l' ++ [x]).Perm (x :: s') := g1.trans (e ▸ h1)
    exact (List.perm_cons x).1 ((List.perm_append_comm (l₁ := [x]) (l₂ := l')).trans h6)
  refine ⟨he, [S, B], ⟨.slice (some ⟨B, 0, none⟩) l'.length cap, l', s', x :: r, ?_, g2, hp, hT, K.kk, K.mm, fun x hx => ?_, by simp, fun g hg => ?_, fun j hj => ?_⟩, h4.onto g4 hb, hb⟩
  · have e : (((os ++ [t]).length : Nat) : Int) = (os.length : Int) + 1 := by simp
    rw [e]; exact g3
  · rcases List.mem_append.1 hx with hx | hx
    · exact K.ok x hx
    · rw [List.mem_singleton.1 hx]; exact K.tok
  · simp [Value.ownBlock] at hg
    simp [hg]
  · rcases List.mem_cons.1 hj with rfl | hj
    · exact Nat.lt_of_lt_of_le (K.lt _ K.mem) (Nat.le_trans h4.size g4.size)
    · rw [List.mem_singleton.1 hj]; exact Nat.lt_of_lt_of_le hBl g4.size

set_option maxRecDepth 100000 in
set_option maxHeartbeats 2000000 in
theorem padd_ok {bs : List Nat} {S k m : Nat} {os : List Of} (x d : Nat) (w : World) (h : Sm w bs S k m os) (hx : 1 ≤ x) (hx2 : x ≤ 4294967296) (hd : d < 18446744073709551616) (hn : os.length ≤ 1000000) :
    Calls Try.prog 7 #[.pointer (some ⟨S, 0, none⟩), .int .u64 (x : Int), .int .u64 (d : Int)] w fun e w' => e = .returned (.tuple #[.int .i64 (os.length : Int), .int .u16 0]) ∧ SmTo w bs S k m (os ++ [⟨os.length, x, d % dr m⟩]) w' := by
  obtain ⟨v, l, s, r, h1, h2, h3, h4, h5, h6, h7, h8, h9, h10⟩ := h
  have hdr0 : 0 < dr m := by unfold dr; split <;> omega
  have hdl : d % dr m < dr m := Nat.mod_lt _ hdr0
  have hdf : d % dr m < 18446744073709551616 := Nat.lt_of_le_of_lt (Nat.mod_le _ _) hd
  obtain ⟨t, ht⟩ : ∃ t : Of, t = ⟨os.length, x, d % dr m⟩ := ⟨_, rfl⟩
  have K : Kn bs S k m os s r t w := ⟨h4, h5, h6, h7, h8, h10, by rw [ht], by rw [ht]; exact ⟨⟨by simp only; omega, by simp only; exact hdf⟩, by simp only; exact hdl, by simp only; exact hx⟩⟩
  have hsl : s.length ≤ k + 1 := by have := h4.len; omega
  have hll : l.length ≤ 1001 := by rw [h3.length_eq]; omega
  have s0 : w.cell? ⟨S, 0, none⟩ = some (.int .i64 (k : Int)) := h1.own.cell 0 rfl
  have s1 : w.cell? ⟨S, 1, none⟩ = some (.int .u64 (m : Int)) := h1.own.cell 1 rfl
  have s2 : w.cell? ⟨S, 2, none⟩ = some (.int .i64 (os.length : Int)) := h1.own.cell 2 rfl
  have f2 : w.frozen? ⟨S, 2, none⟩ = false := h1.own.free 2
  have hSl := h1.own.lt
  -- the world behind the store, and container/heap's Push there
  have hvS : ∀ g, v.ownBlock = some g → g ≠ S := fun g hg => by
    rcases h1.row.2 with ⟨e, _⟩ | ⟨g', cap', cur, e, _⟩
    · rw [e] at hg; simp [Value.ownBlock] at hg
    · have h11 := h1
      rw [e] at hg h11
      simp [Value.ownBlock] at hg
      subst hg
      exact h11.apart.symm
  have hR1 : Rw (w.setCell ⟨S, 2, none⟩ (.int .i64 ((os.length : Int) + 1))) S (.int .i64 (k : Int), .int .u64 (m : Int), .int .i64 ((os.length : Int) + 1)) v l :=
    ⟨h1.own.set 2 _, row_same h1.row fun g hg => Below.heap_setCell _ _ _ _ (hvS g hg), h1.fit, h1.most⟩
  have hM1 : Mut bs w (w.setCell ⟨S, 2, none⟩ (.int .i64 ((os.length : Int) + 1))) := (Mut.refl bs w).setCell (p := ⟨S, 2, none⟩) h8 _
  have hP := cpush_any t (w.setCell ⟨S, 2, none⟩ (.int .i64 ((os.length : Int) + 1))) hR1 h2 (by rw [ht]; exact ⟨by simp only; omega, by simp only; exact hdf⟩) (by omega)
  have hbsub : ∀ j ∈ S :: v.ownBlock.toList, j ∈ bs := fun j hj => by
    rcases List.mem_cons.1 hj with rfl | hj
    · exact h8
    · exact h9 j (by simpa using hj)
  have hP2 : Calls Try.prog 15 #[.iface 57 (.pointer (some ⟨S, 3, none⟩)), .iface 59 (.agg #[.int .i64 (t.p : Int), .int .u64 (t.w : Int), .int .u64 (t.d : Int)])] (w.setCell ⟨S, 2, none⟩ (.int .i64 ((os.length : Int) + 1))) fun e w' => e = .returned (.tuple #[]) ∧ Mid w bs S k m os.length s t w' := hP.mono fun e w' ⟨he, l', g, cap, i1, i2, i3, i4, i5⟩ => ⟨he, l', g, cap, (i1.trans ((h3.append_right [t]).trans List.perm_append_comm)).trans (ins_perm t s).symm, i2, i3, hM1.trans (i4.wider hbsub), by
    rcases i5 with i5 | i5
    · exact .inl (h9 g i5)
    · exact .inr (by have := hM1.size; omega)⟩
  have htw : (t.p : Int) = (os.length : Int) ∧ (t.w : Int) = (x : Int) ∧ (t.d : Int) = ((d % dr m : Nat) : Int) := by rw [ht]; exact ⟨rfl, rfl, rfl⟩
  rw [htw.1, htw.2.1, htw.2.2] at hP2
  rw [← ht]
  obtain ⟨D, hD⟩ : ∃ D, d % dr m = D := ⟨_, rfl⟩
  rw [hD] at hP2
  have t1 : decide ((x : Int) < 1) = false := by simp; omega
  have t2 : decide ((4294967296 : Int) < (x : Int)) = false := by simp; omega
  have KH := Lib.hid K
  have HP := Lib.hid hP2
  have hDm : m = 0 ∧ D = d ∨ 0 < m ∧ (d : Int) % (m : Int) = (D : Int) := by
    unfold dr at hD
    by_cases h0 : m = 0
    · left
      rw [if_pos h0, Nat.mod_eq_of_lt hd] at hD
      exact ⟨h0, hD.symm⟩
    · right
      rw [if_neg h0] at hD
      exact ⟨by omega, by rw [← hD]; simp⟩
  have hkk : k ≤ 1000 := h5.2
  obtain ⟨n, hnn⟩ : ∃ n, os.length = n := ⟨_, rfl⟩
  rw [hnn] at s2 hn HP
  have HN := Lib.hid hnn
  have hm' : ∀ W, Mid w bs S k m n s t W → W.cell? ⟨S, 0, none⟩ = some (.int .i64 (k : Int)) := fun W ⟨_, _, _, _, _, i3, _⟩ => i3.own.cell 0 rfl
  have HMC := Lib.hid hm'
  rw [hnn]
  clear K hP hP2 h1 h2 h3 h4 h5 h6 h7 h8 h9 h10 hR1 hM1 hbsub hvS ht htw hdr0 hdl hdf hD hm' hnn hll
  have hfin : Hid (∀ W, Mid w bs S k m n s t W → if s.length ≤ k then SmTo w bs S k m (os ++ [t]) W else ∃ y : Of, Calls Try.prog 17 #[.iface 57 (.pointer (some ⟨S, 3, none⟩))] W fun e w' => e = .returned (.iface 59 (.agg #[.int .i64 (y.p : Int), .int .u64 (y.w : Int), .int .u64 (y.d : Int)])) ∧ SmTo w bs S k m (os ++ [t]) w') := Lib.hid fun W hW => by
    rw [← HN.out] at hW
    by_cases hk : s.length ≤ k
    · rw [if_pos hk]; exact hW.done KH.out hk
    · rw [if_neg hk]; exact hW.pop KH.out (by omega)
  obtain ⟨q, hq⟩ : ∃ q, s.length + 1 = q := ⟨_, rfl⟩
  have HL : Hid (∀ W, Mid w bs S k m n s t W → Calls Try.prog 16 #[.pointer (some ⟨S, 3, none⟩)] W fun e w' => e = .returned (.int .i64 (q : Int)) ∧ W = w') := Lib.hid fun W hW => by rw [← hq]; exact hW.fits
  obtain ⟨k1, hk1⟩ : ∃ k1 : Nat, (k : Int) + 1 = (k1 : Int) := ⟨k + 1, by simp⟩
  by_cases hk : s.length ≤ k
  · have t3 : decide ((k1 : Int) < (q : Int)) = false := by simp; omega
    have t3' : decide (k1 < q) = false := by simp; omega
    have hE : Hid (∀ W, Mid w bs S k m n s t W → SmTo w bs S k m (os ++ [t]) W) := Lib.hid fun W hW => by have := hfin.out W hW; rwa [if_pos hk] at this
    clear hfin hk hq hsl
    rcases hDm with ⟨rfl, rfl⟩ | ⟨hm0, hDD⟩
    · go_enter Try.func7, Try.ntmps7
      go_wp2_with fail
      refine HP.out.mono ?_
      rintro e w2 ⟨rfl, hm2⟩
      have HM := Lib.hid hm2
      have HL2 : Hid (∀ q', Calls Try.prog 16 #[.pointer (some ⟨S, 3, none⟩)] (w2.drewN q') fun e w' => e = .returned (.int .i64 (q : Int)) ∧ w2.drewN q' = w') := Lib.hid fun q' => HL.out _ (hm2.drewN q')
      have m0 := HMC.out _ hm2
      clear hm2 s0 s1 s2 f2
      go_wp2_with fail
      go_quiet ((go_at_call 16; exact quiet_left (HL2.out _)))
      go_wp2_with fail
      go_ret2
      exact ⟨rfl, hE.out _ (HM.out.drewN _)⟩
    · have t4 : decide ((0 : Int) < (m : Int)) = true := by simp; omega
      have a0 : ((m : Int) == 0) = false := by simp; omega
      go_enter Try.func7, Try.ntmps7
      go_wp2_with fail
      refine HP.out.mono ?_
      rintro e w2 ⟨rfl, hm2⟩
      have HM := Lib.hid hm2
      have HL2 : Hid (∀ q', Calls Try.prog 16 #[.pointer (some ⟨S, 3, none⟩)] (w2.drewN q') fun e w' => e = .returned (.int .i64 (q : Int)) ∧ w2.drewN q' = w') := Lib.hid fun q' => HL.out _ (hm2.drewN q')
      have m0 := HMC.out _ hm2
      clear hm2 s0 s1 s2 f2
      go_wp2_with fail
      go_quiet ((go_at_call 16; exact quiet_left (HL2.out _)))
      go_wp2_with fail
      go_ret2
      exact ⟨rfl, hE.out _ (HM.out.drewN _)⟩
  · have t3 : decide ((k1 : Int) < (q : Int)) = true := by simp; omega
    have t3' : decide (k1 < q) = true := by simp; omega
    have hE : Hid (∀ W, Mid w bs S k m n s t W → ∃ y : Of, Calls Try.prog 17 #[.iface 57 (.pointer (some ⟨S, 3, none⟩))] W fun e w' => e = .returned (.iface 59 (.agg #[.int .i64 (y.p : Int), .int .u64 (y.w : Int), .int .u64 (y.d : Int)])) ∧ SmTo w bs S k m (os ++ [t]) w') := Lib.hid fun W hW => by have := hfin.out W hW; rwa [if_neg hk] at this
    clear hfin hk hq hsl
    rcases hDm with ⟨rfl, rfl⟩ | ⟨hm0, hDD⟩
    · go_enter Try.func7, Try.ntmps7
      go_wp2_with fail
      refine HP.out.mono ?_
      rintro e w2 ⟨rfl, hm2⟩
      have HM := Lib.hid hm2
      have HL2 : Hid (∀ q', Calls Try.prog 16 #[.pointer (some ⟨S, 3, none⟩)] (w2.drewN q') fun e w' => e = .returned (.int .i64 (q : Int)) ∧ w2.drewN q' = w') := Lib.hid fun q' => HL.out _ (hm2.drewN q')
      have m0 := HMC.out _ hm2
      clear hm2 s0 s1 s2 f2
      go_wp2_with fail
      go_quiet ((go_at_call 16; exact quiet_left (HL2.out _)))
      go_wp2_with fail
      obtain ⟨y, hy⟩ := hE.out _ (HM.out.drewN _)
      refine hy.mono ?_
      rintro e w3 ⟨rfl, hs3⟩
      have HS3 := Lib.hid hs3
      clear hs3
      go_wp2_with fail
      go_ret2
      exact ⟨rfl, HS3.out⟩
    · have t4 : decide ((0 : Int) < (m : Int)) = true := by simp; omega
      have a0 : ((m : Int) == 0) = false := by simp; omega
      go_enter Try.func7, Try.ntmps7
      go_wp2_with fail
      refine HP.out.mono ?_
      rintro e w2 ⟨rfl, hm2⟩
      have HM := Lib.hid hm2
      have HL2 : Hid (∀ q', Calls Try.prog 16 #[.pointer (some ⟨S, 3, none⟩)] (w2.drewN q') fun e w' => e = .returned (.int .i64 (q : Int)) ∧ w2.drewN q' = w') := Lib.hid fun q' => HL.out _ (hm2.drewN q')
      have m0 := HMC.out _ hm2
      clear hm2 s0 s1 s2 f2
      go_wp2_with fail
      go_quiet ((go_at_call 16; exact quiet_left (HL2.out _)))
      go_wp2_with fail
      obtain ⟨y, hy⟩ := hE.out _ (HM.out.drewN _)
      refine hy.mono ?_
      rintro e w3 ⟨rfl, hs3⟩
      have HS3 := Lib.hid hs3
      clear hs3
      go_wp2_with fail
      go_ret2
      exact ⟨rfl, HS3.out⟩
end Go.Proofs.Ytmjbdjcpjaeemaa
