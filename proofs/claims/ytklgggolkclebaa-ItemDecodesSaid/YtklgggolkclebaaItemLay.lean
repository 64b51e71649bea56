/-
  What the writer of package item does: a number's field, a text's field, laid behind what is laid. No condition.
-/
import Derived.Test.YtklgggolkclebaaNumTexts
import Derived.Test.YtklgggolkclebaaItemSpan
namespace Go.Proofs.Ytklgggolkclebaa
open Go.RowKit Go.Proofs.NumMath Go.Proofs.ItemMath

theorem numberTag_any (k : Nat) (hk : k < 1000) (w : World) : Calls Try.prog 50 #[.int .u64 (k : Int)] w fun e w' => e = .returned (.int .u64 ((2 * k : Nat) : Int)) ∧ w = w' := by
  go_enter Try.func50, Try.ntmps50
  go_wp2
  go_ret
  exact ⟨ret_i (by omega), rfl⟩
theorem textTag_any (k : Nat) (hk : k < 1000) (w : World) : Calls Try.prog 51 #[.int .u64 (k : Int)] w fun e w' => e = .returned (.int .u64 ((2 * k + 1 : Nat) : Int)) ∧ w = w' := by
  go_enter Try.func51, Try.ntmps51
  go_wp2
  go_ret
  exact ⟨ret_i (by omega), rfl⟩

/-- The writer at a moment: its block gw; what is laid; of the first N blocks none but gw and g0 has turned since W0, and below B none at all. -/
structure Wr (B N gw g0 : Nat) (W0 W : World) (cs : List UInt8) (v : Value) : Prop where
  blk : Blk W gw #[v] 71
  own : W.ownsRow B 5 1 v cs.length (cs.map b8)
  pos : ∀ k, v.ownBlock = some k → k = g0 ∨ N ≤ k
  same : ∀ b, b < N → b ≠ gw → b ≠ g0 → W.heap[b]? = W0.heap[b]?
  size : N ≤ W.heap.size
  base : B ≤ gw
  low : Below B W0 W
theorem Wr.keep {B N gw g0 : Nat} {W0 W W' : World} {cs : List UInt8} {v : Value} (h : Wr B N gw g0 W0 W cs v) (hb : Below W.heap.size W W') : Wr B N gw g0 W0 W' cs v := by
  have hlt := h.blk.lt
  have hs := h.size
  have hbs := h.base
  exact ⟨h.blk.same (hb.block _ hlt), own_later h.own hb, h.pos, fun b h1 h2 h3 => (hb.block b (by omega)).trans (h.same b h1 h2 h3), by have := hb.size; omega, h.base, h.low.trans (hb.mono (by omega))⟩
/-- Own bytes lie in no block of another type. -/
theorem own_apart {W : World} {B n g : Nat} {v : Value} {xs : List Value} {C : Array Value} {e T : TypeId} (ho : W.ownsRow B e 1 v n xs) (hb : Blk W g C T) (hT : e ≠ T) : v.ownBlock ≠ some g := fun h => by
  rcases ho.2 with ⟨rfl, _⟩ | ⟨k, cap, cur, rfl, _, hk, _⟩
  · simp [Value.ownBlock] at h
  · obtain rfl : k = g := by simpa [Value.ownBlock] using h
    unfold Blk at hb
    rw [hk] at hb
    injection hb with hb
    injection hb with _ h2 _
    exact hT h2
/-- Bytes appended, and the slice stored. -/
theorem Wr.put {B N gw g0 : Nat} {W0 W w1 : World} {cs ys : List UInt8} {v v1 : Value} (h : Wr B N gw g0 W0 W cs v) (ho : w1.ownsRow B 5 1 v1 ys.length (ys.map b8)) (hg : W.grownBy w1 v.ownBlock)
    (hp : ∀ k, v1.ownBlock = some k → v.ownBlock = some k ∨ k = W.heap.size) : Wr B N gw g0 W0 (w1.setCell ⟨gw, 0, none⟩ v1) ys v1 := by
  have hlt := h.blk.lt
  have hs := h.size
  have hbs := h.base
  have hne := own_apart h.own h.blk (by decide)
  have hb1 : Blk w1 gw #[v] 71 := h.blk.same (grown_at hg hlt hne)
  have hgB : ∀ k, v.ownBlock = some k → B ≤ k := fun k hk => by
    rcases h.own.2 with ⟨rfl, _⟩ | ⟨g, cap, cur, rfl, hgb, _⟩
    · simp [Value.ownBlock] at hk
    · obtain rfl : g = k := by simpa [Value.ownBlock] using hk
      exact hgb
  refine ⟨hb1.set 0 v1, ownsRow_setCell_other ho (own_apart ho hb1 (by decide)) _, fun k hk => ?_, fun b h1 h2 h3 => ?_, by rw [World.size_setCell]; have := hg.size; omega, h.base, (h.low.grown hg (by omega) hgB).setCell (p := ⟨gw, 0, none⟩) h.base _⟩
  · rcases hp k hk with e | e
    · exact h.pos k e
    · exact .inr (by omega)
  · rw [Below.heap_setCell _ _ _ _ h2, grown_at hg (by omega) (fun e => by have := h.pos b e; omega)]
    exact h.same b h1 h2 h3
/-- Bytes, one at least, appended to own bytes, at a step of a region that draws. -/
theorem step_bytes {ops : Array Oper} {o : Oper} {a : Act} {w : World} {K : Act → World → Prop} {Q : Exit → Act → World → Prop} {E : Prop} (hgd : o.guard = none) (s x : Operand)
    (ho : o.op = .call { callee := .builtin .append, args := #[s, x], argTypes := #[22, 22] })
    (base : Nat) (v : Value) (cs ys zs : List UInt8) (l : Nat) (hz : cs ++ ys = zs) (hzl : zs.length = l) (hs : a.eval s = v) (hown : w.ownsRow base 5 1 v cs.length (cs.map b8))
    (A : Option Addr) (m c : Nat) (hx : a.eval x = .slice A m c) (hm : ys.length = m) (hr : Holds8 w.heap.size w A ys) (hpos : 0 < ys.length) (hbound : l ≤ 1000000) (hbase : base ≤ w.heap.size)
    (h : ∀ g cap w', w'.ownsRow base 5 1 (.slice (some ⟨g, 0, none⟩) l cap) zs.length (zs.map b8) → w.grownBy w' v.ownBlock → (v.ownBlock = some g ∨ g = w.heap.size) → K (a.put o.dst (.slice (some ⟨g, 0, none⟩) l cap)) w') :
    if Region.wanted o (yielded ops a.tmps) = true then Oper.wp Try.prog o a w K Q else E := by
  obtain ⟨i0, hi, hz0, hz1, hz2⟩ := info_parts info_u8
  obtain ⟨b, off, rfl, hb, hc⟩ := hr hpos
  subst hm hz hzl
  have hl : cs.length + ys.length ≤ 1000000 := by simpa using hbound
  refine step_append_lies _ hgd s x 22 ho base 5 i0 (.int .u8 0) 1 1 Try.underlying22 hi hz0 hz1 hz2 rfl (by decide) v cs.length (cs.map b8) hs hown ⟨b, off, none⟩ ys.length c (ys.map b8) hx (by simp) ?_ (b8_one ys) hpos (by unfold maxLen; omega) (by omega) hbase w.heap.size rfl ?_
  · intro j u hu
    have hj : j < ys.length := by
      have := (List.getElem?_eq_some_iff.1 hu).1
      simpa using this
    have hp : (⟨b, off, none⟩ : Addr).add j = ⟨b, off + j, none⟩ := by unfold Addr.add; split <;> simp_all
    rw [hp, hc j hj, ← hu]
    simp [hj]
  · intro g cap w' h1 h2 h3 _
    have e : cs.length + ys.length = (cs ++ ys).length := by simp
    rw [e, ← List.map_append] at h1
    rw [e]
    exact h g cap w' h1 h2 h3
theorem undrew_b {W W' : World} (h : Below W.drew.heap.size W.drew W') : Below W.heap.size W W' := undrewn h

set_option linter.unusedSimpArgs false in
set_option maxRecDepth 100000 in
set_option maxHeartbeats 4000000 in
/-- **A number laid.** -/
theorem number_any (B N gw g0 k n : Nat) (W0 W : World) (cs : List UInt8) (v : Value) (hk : k < 100) (hn : n < 18446744073709551616) (hl : cs.length ≤ 900000) (h : Wr B N gw g0 W0 W cs v) :
    Calls Try.prog 34 #[.pointer (some ⟨gw, 0, none⟩), .int .u64 (k : Int), .int .u64 (n : Int)] W fun e W' => e = .returned (.tuple #[]) ∧ ∃ v', Wr B N gw g0 W0 W' (cs ++ fieldN k n) v' := by
  by_cases h0 : n = 0
  · have d0 : ((n : Int) != 0) = false := by simp; omega
    have e : cs ++ fieldN k n = cs := by simp [fieldN, h0]
    rw [e]
    clear h0 e
    go_enter Try.func34, Try.ntmps34
    go_wp2
    go_end0
    exact ⟨rfl, v, h⟩
  have d0 : ((n : Int) != 0) = true := by simp; omega
  have HE : Hid (cs ++ fieldN k n = (cs ++ put (2 * k)) ++ put n) := Lib.hid (by simp [fieldN, h0])
  clear h0
  obtain ⟨z1, hz1⟩ : ∃ z, cs ++ put (2 * k) = z := ⟨_, rfl⟩
  obtain ⟨m1, hm1⟩ : ∃ m, z1.length = m := ⟨_, rfl⟩
  obtain ⟨z2, hz2⟩ : ∃ z, z1 ++ put n = z := ⟨_, rfl⟩
  obtain ⟨m2, hm2⟩ : ∃ m, z2.length = m := ⟨_, rfl⟩
  obtain ⟨pa, hpa⟩ : ∃ p, put (2 * k) = p := ⟨_, rfl⟩
  obtain ⟨pb, hpb⟩ : ∃ p, put n = p := ⟨_, rfl⟩
  obtain ⟨la, hla⟩ : ∃ p, pa.length = p := ⟨_, rfl⟩
  obtain ⟨lb, hlb⟩ : ∃ p, pb.length = p := ⟨_, rfl⟩
  have la0 : 0 < la := by rw [← hla, ← hpa]; exact put_pos _
  have lb0 : 0 < lb := by rw [← hlb, ← hpb]; exact put_pos _
  have la1 : la ≤ 10 := by rw [← hla, ← hpa]; exact put_len10 (by omega)
  have lb1 : lb ≤ 10 := by rw [← hlb, ← hpb]; exact put_len10 hn
  have b1 : m1 = cs.length + la := by rw [← hm1, ← hz1, hpa, ← hla]; simp
  have b2 : m2 = m1 + lb := by rw [← hm2, ← hz2, hpb, ← hm1, ← hlb]; simp
  have hp1 := fun W => put_holds (2 * k) (by omega) W
  have hp2 := fun W => put_holds n hn W
  have hT := fun w => numberTag_any k (by omega) w
  rw [hpa, hla] at hp1
  rw [hpb, hlb] at hp2
  rw [hpa] at hz1
  rw [hpb] at hz2
  rw [hpa, hz1, hpb, hz2] at HE
  rw [HE.out]
  have HP1 := Lib.hid hp1
  have HP2 := Lib.hid hp2
  have HT := Lib.hid hT
  have HZ1 := Lib.hid hz1
  have HZ2 := Lib.hid hz2
  have HM1 := Lib.hid hm1
  have HM2 := Lib.hid hm2
  have HLA := Lib.hid hla
  have HLB := Lib.hid hlb
  have hq1 : m1 ≤ 1000000 := by omega
  have hq2 : m2 ≤ 1000000 := by omega
  have hv : W.cell? ⟨gw, 0, none⟩ = some v := h.blk.cell 0 rfl
  have H := Lib.hid h
  have hBs : B ≤ W.heap.size := Nat.le_trans h.base (Nat.le_of_lt h.blk.lt)
  clear h HE hp1 hp2 hT hz1 hz2 hm1 hm2 hla hlb hpa hpb b1 b2
  go_enter Try.func34, Try.ntmps34
  go_wp2_with fail
  refine RegionBut.region_but 11 (S := fun w => w.cell? ⟨gw, 0, none⟩ = some v) (by kernel_rfl) ?_ (fun hHeld => ?_)
  · exact hv
  refine RegionBut.but_take (i := 0) (v := ?_) rfl (by kernel_rfl) (by kernel_rfl) (by kernel_rfl) (by kernel_rfl) (fun _ _ _ h => h) (Or.inl ⟨by rfl, ?_⟩) (by assumption) ?_
  rotate_left
  · intro wq hSw; (try dsimp only at hSw); go_simp; (try with_reducible rfl)
  simp only [Act.put, List.getElem_toArray, List.getElem_cons_succ, List.getElem_cons_zero, List.setIfInBounds_toArray, List.set_cons_zero, List.set_cons_succ]
  refine RegionBut.but_take (i := 1) (v := ?_) rfl (by kernel_rfl) (by kernel_rfl) (by kernel_rfl) (by kernel_rfl) (fun _ _ _ h => h) (Or.inl ⟨by rfl, ?_⟩) (by assumption) ?_
  rotate_left
  · intro wq hSw; (try dsimp only at hSw); go_simp; (try with_reducible rfl)
  simp only [Act.put, List.getElem_toArray, List.getElem_cons_succ, List.getElem_cons_zero, List.setIfInBounds_toArray, List.set_cons_zero, List.set_cons_succ]
  refine RegionBut.but_take (i := 2) (v := ?_) rfl (by kernel_rfl) (by kernel_rfl) (by kernel_rfl) (by kernel_rfl) (fun _ _ _ h => h) (Or.inl ⟨by rfl, ?_⟩) (by assumption) ?_
  rotate_left
  · intro wq hSw; (try dsimp only at hSw); go_simp; (try with_reducible rfl)
  simp only [Act.put, List.getElem_toArray, List.getElem_cons_succ, List.getElem_cons_zero, List.setIfInBounds_toArray, List.set_cons_zero, List.set_cons_succ]
  refine RegionBut.but_take (i := 3) (v := ?_) rfl (by kernel_rfl) (by kernel_rfl) (by kernel_rfl) (by kernel_rfl) (fun _ _ _ h => h) (Or.inl ⟨by rfl, ?_⟩) (by assumption) ?_
  rotate_left
  · intro wq hSw; (try dsimp only at hSw); go_simp; (try with_reducible rfl)
  simp only [Act.put, List.getElem_toArray, List.getElem_cons_succ, List.getElem_cons_zero, List.setIfInBounds_toArray, List.set_cons_zero, List.set_cons_succ]
  refine RegionBut.but_take (i := 4) (v := ?_) rfl (by kernel_rfl) (by kernel_rfl) (by kernel_rfl) (by kernel_rfl) (fun _ _ _ h => h) (Or.inl ⟨by rfl, ?_⟩) (by assumption) ?_
  rotate_left
  · intro wq hSw; (try dsimp only at hSw); have hq := hSw; go_simp; (try with_reducible rfl)
  simp only [Act.put, List.getElem_toArray, List.getElem_cons_succ, List.getElem_cons_zero, List.setIfInBounds_toArray, List.set_cons_zero, List.set_cons_succ]
  refine RegionBut.but_take (i := 5) (v := ?_) rfl (by kernel_rfl) (by kernel_rfl) (by kernel_rfl) (by kernel_rfl) (fun _ _ _ h => h) (Or.inl ⟨by rfl, ?_⟩) (by assumption) ?_
  rotate_left
  · intro wq hSw; (try dsimp only at hSw); go_simp; (try with_reducible rfl)
  simp only [Act.put, List.getElem_toArray, List.getElem_cons_succ, List.getElem_cons_zero, List.setIfInBounds_toArray, List.set_cons_zero, List.set_cons_succ]
  refine RegionBut.but_ready (rs := [6]) (by kernel_rfl) (by simp) ?_
  refine RegionBut.Nexts.cons rfl (fun K hK => ?_) RegionBut.Nexts.nil
  go_simp
  refine (HT.out _).mono ?_
  rintro e w' ⟨rfl, rfl⟩
  (try go_wp2_with fail)
  refine hK.out _ _ ?_ (fun hHeld => ?_)
  · exact hHeld
  clear hK K
  try simp only [Act.put, List.getElem_toArray, List.getElem_cons_succ, List.getElem_cons_zero, List.setIfInBounds_toArray, List.set_cons_zero, List.set_cons_succ]
  refine RegionBut.but_ready (rs := [7]) (by kernel_rfl) (by simp) ?_
  refine RegionBut.Nexts.cons rfl (fun K hK => ?_) RegionBut.Nexts.nil
  go_simp
  refine (HP1.out _).mono ?_
  rintro e w1 ⟨A1, c1, rfl, _, _, hr1, hb1⟩
  have h1 := (H.out.keep (undrew_b hb1))
  have HH1 := Lib.hid h1
  have HR1 := Lib.hid hr1
  have hsz1 := hb1.size
  clear h1 hr1 hb1
  (try go_wp2_with fail)
  refine hK.out _ _ ?_ (fun hHeld => ?_)
  · exact HH1.out.blk.cell 0 rfl
  clear hK K
  try simp only [Act.put, List.getElem_toArray, List.getElem_cons_succ, List.getElem_cons_zero, List.setIfInBounds_toArray, List.set_cons_zero, List.set_cons_succ]
  refine RegionBut.but_ready (rs := [8]) (by kernel_rfl) (by simp) ?_
  refine RegionBut.Nexts.cons rfl (fun K hK => ?_) RegionBut.Nexts.nil
  refine step_bytes rfl (.tmp 12) (.tmp 15) rfl B v cs pa z1 m1 HZ1.out HM1.out rfl HH1.out.own A1 la c1 rfl HLA.out HR1.out (by rw [HLA.out]; exact la0) hq1 (Nat.le_trans hBs hsz1) ?_
  intro g2 c2 w2 hown2 hgr2 hor2
  have hb2 : Blk w2 gw #[v] 71 := HH1.out.blk.same (grown_at hgr2 HH1.out.blk.lt (own_apart HH1.out.own HH1.out.blk (by decide)))
  refine hK.out _ _ ?_ (fun hHeld => ?_)
  · exact hb2.cell 0 rfl
  clear hK K
  try simp only [Act.put, List.getElem_toArray, List.getElem_cons_succ, List.getElem_cons_zero, List.setIfInBounds_toArray, List.set_cons_zero, List.set_cons_succ]
  refine RegionBut.but_ready (rs := [9]) (by kernel_rfl) (by simp) ?_
  refine RegionBut.Nexts.cons rfl (fun K hK => ?_) RegionBut.Nexts.nil
  go_simp
  (try go_wp2_with fail)
  refine hK.out _ _ ?_ (fun hHeld => ?_)
  · exact hHeld
  clear hK K
  try simp only [Act.put, List.getElem_toArray, List.getElem_cons_succ, List.getElem_cons_zero, List.setIfInBounds_toArray, List.set_cons_zero, List.set_cons_succ]
  refine RegionBut.but_take (i := 10) (v := ?_) rfl (by kernel_rfl) (by kernel_rfl) (by kernel_rfl) (by kernel_rfl) (fun _ _ _ h => h) (Or.inl ⟨by rfl, ?_⟩) (by assumption) ?_
  rotate_left
  · intro wq hSw; (try dsimp only at hSw); go_simp; (try with_reducible rfl)
  simp only [Act.put, List.getElem_toArray, List.getElem_cons_succ, List.getElem_cons_zero, List.setIfInBounds_toArray, List.set_cons_zero, List.set_cons_succ]
  refine RegionBut.but_ready (rs := [11]) (by kernel_rfl) (by simp) ?_
  refine RegionBut.Nexts.last rfl (fun K hK => ?_)
  have y1 := hb2.free 0
  have x1 : w2.cell? ⟨gw, 0, none⟩ = some v := hb2.cell 0 rfl
  have H2 := Lib.hid (HH1.out.put hown2 hgr2 (fun k hk => by simp [Value.ownBlock] at hk; subst hk; exact hor2))
  clear hown2 hgr2 hor2
  go_simp
  (try go_wp2_with fail)
  refine hK.out _ _ trivial (fun _ => ?_)
  clear hK K
  try simp only [Act.put, List.getElem_toArray, List.getElem_cons_succ, List.getElem_cons_zero, List.setIfInBounds_toArray, List.set_cons_zero, List.set_cons_succ]
  refine RegionBut.but_done (by kernel_rfl) ?_ _
  clear hHeld
  have hv2 : (w2.setCell ⟨gw, 0, none⟩ (.slice (some ⟨g2, 0, none⟩) m1 c2)).cell? ⟨gw, 0, none⟩ = some (.slice (some ⟨g2, 0, none⟩) m1 c2) := H2.out.blk.cell 0 rfl
  generalize w2.setCell ⟨gw, 0, none⟩ (.slice (some ⟨g2, 0, none⟩) m1 c2) = W2 at H2 hv2 ⊢
  have hBs2 : B ≤ W2.heap.size := Nat.le_trans H2.out.base (Nat.le_of_lt H2.out.blk.lt)
  clear x1 y1 hb2
  go_wp2_with fail
  refine RegionBut.region_but 10 (S := fun w => w.cell? ⟨gw, 0, none⟩ = some (.slice (some ⟨g2, 0, none⟩) m1 c2)) (by kernel_rfl) ?_ (fun hHeld => ?_)
  · exact hv2
  refine RegionBut.but_take (i := 0) (v := ?_) rfl (by kernel_rfl) (by kernel_rfl) (by kernel_rfl) (by kernel_rfl) (fun _ _ _ h => h) (Or.inl ⟨by rfl, ?_⟩) (by assumption) ?_
  rotate_left
  · intro wq hSw; (try dsimp only at hSw); go_simp; (try with_reducible rfl)
  simp only [Act.put, List.getElem_toArray, List.getElem_cons_succ, List.getElem_cons_zero, List.setIfInBounds_toArray, List.set_cons_zero, List.set_cons_succ]
  refine RegionBut.but_take (i := 1) (v := ?_) rfl (by kernel_rfl) (by kernel_rfl) (by kernel_rfl) (by kernel_rfl) (fun _ _ _ h => h) (Or.inl ⟨by rfl, ?_⟩) (by assumption) ?_
  rotate_left
  · intro wq hSw; (try dsimp only at hSw); go_simp; (try with_reducible rfl)
  simp only [Act.put, List.getElem_toArray, List.getElem_cons_succ, List.getElem_cons_zero, List.setIfInBounds_toArray, List.set_cons_zero, List.set_cons_succ]
  refine RegionBut.but_take (i := 2) (v := ?_) rfl (by kernel_rfl) (by kernel_rfl) (by kernel_rfl) (by kernel_rfl) (fun _ _ _ h => h) (Or.inl ⟨by rfl, ?_⟩) (by assumption) ?_
  rotate_left
  · intro wq hSw; (try dsimp only at hSw); go_simp; (try with_reducible rfl)
  simp only [Act.put, List.getElem_toArray, List.getElem_cons_succ, List.getElem_cons_zero, List.setIfInBounds_toArray, List.set_cons_zero, List.set_cons_succ]
  refine RegionBut.but_take (i := 3) (v := ?_) rfl (by kernel_rfl) (by kernel_rfl) (by kernel_rfl) (by kernel_rfl) (fun _ _ _ h => h) (Or.inl ⟨by rfl, ?_⟩) (by assumption) ?_
  rotate_left
  · intro wq hSw; (try dsimp only at hSw); go_simp; (try with_reducible rfl)
  simp only [Act.put, List.getElem_toArray, List.getElem_cons_succ, List.getElem_cons_zero, List.setIfInBounds_toArray, List.set_cons_zero, List.set_cons_succ]
  refine RegionBut.but_take (i := 4) (v := ?_) rfl (by kernel_rfl) (by kernel_rfl) (by kernel_rfl) (by kernel_rfl) (fun _ _ _ h => h) (Or.inl ⟨by rfl, ?_⟩) (by assumption) ?_
  rotate_left
  · intro wq hSw; (try dsimp only at hSw); have hq := hSw; go_simp; (try with_reducible rfl)
  simp only [Act.put, List.getElem_toArray, List.getElem_cons_succ, List.getElem_cons_zero, List.setIfInBounds_toArray, List.set_cons_zero, List.set_cons_succ]
  refine RegionBut.but_take (i := 5) (v := ?_) rfl (by kernel_rfl) (by kernel_rfl) (by kernel_rfl) (by kernel_rfl) (fun _ _ _ h => h) (Or.inl ⟨by rfl, ?_⟩) (by assumption) ?_
  rotate_left
  · intro wq hSw; (try dsimp only at hSw); go_simp; (try with_reducible rfl)
  simp only [Act.put, List.getElem_toArray, List.getElem_cons_succ, List.getElem_cons_zero, List.setIfInBounds_toArray, List.set_cons_zero, List.set_cons_succ]
  refine RegionBut.but_ready (rs := [6]) (by kernel_rfl) (by simp) ?_
  refine RegionBut.Nexts.cons rfl (fun K hK => ?_) RegionBut.Nexts.nil
  go_simp
  refine (HP2.out _).mono ?_
  rintro e w3 ⟨A3, c3, rfl, _, _, hr3, hb3⟩
  have h3 := (H2.out.keep (undrew_b hb3))
  have HH3 := Lib.hid h3
  have HR3 := Lib.hid hr3
  have hsz3 := hb3.size
  clear h3 hr3 hb3
  (try go_wp2_with fail)
  refine hK.out _ _ ?_ (fun hHeld => ?_)
  · exact HH3.out.blk.cell 0 rfl
  clear hK K
  try simp only [Act.put, List.getElem_toArray, List.getElem_cons_succ, List.getElem_cons_zero, List.setIfInBounds_toArray, List.set_cons_zero, List.set_cons_succ]
  refine RegionBut.but_ready (rs := [7]) (by kernel_rfl) (by simp) ?_
  refine RegionBut.Nexts.cons rfl (fun K hK => ?_) RegionBut.Nexts.nil
  refine step_bytes rfl (.tmp 23) (.tmp 25) rfl B (.slice (some ⟨g2, 0, none⟩) m1 c2) z1 pb z2 m2 HZ2.out HM2.out rfl HH3.out.own A3 lb c3 rfl HLB.out HR3.out (by rw [HLB.out]; exact lb0) hq2 (Nat.le_trans hBs2 hsz3) ?_
  intro g4 c4 w4 hown4 hgr4 hor4
  have hb4 : Blk w4 gw #[.slice (some ⟨g2, 0, none⟩) m1 c2] 71 := HH3.out.blk.same (grown_at hgr4 HH3.out.blk.lt (own_apart HH3.out.own HH3.out.blk (by decide)))
  refine hK.out _ _ ?_ (fun hHeld => ?_)
  · exact hb4.cell 0 rfl
  clear hK K
  try simp only [Act.put, List.getElem_toArray, List.getElem_cons_succ, List.getElem_cons_zero, List.setIfInBounds_toArray, List.set_cons_zero, List.set_cons_succ]
  refine RegionBut.but_ready (rs := [8]) (by kernel_rfl) (by simp) ?_
  refine RegionBut.Nexts.cons rfl (fun K hK => ?_) RegionBut.Nexts.nil
  go_simp
  (try go_wp2_with fail)
  refine hK.out _ _ ?_ (fun hHeld => ?_)
  · exact hHeld
  clear hK K
  try simp only [Act.put, List.getElem_toArray, List.getElem_cons_succ, List.getElem_cons_zero, List.setIfInBounds_toArray, List.set_cons_zero, List.set_cons_succ]
  refine RegionBut.but_take (i := 9) (v := ?_) rfl (by kernel_rfl) (by kernel_rfl) (by kernel_rfl) (by kernel_rfl) (fun _ _ _ h => h) (Or.inl ⟨by rfl, ?_⟩) (by assumption) ?_
  rotate_left
  · intro wq hSw; (try dsimp only at hSw); go_simp; (try with_reducible rfl)
  simp only [Act.put, List.getElem_toArray, List.getElem_cons_succ, List.getElem_cons_zero, List.setIfInBounds_toArray, List.set_cons_zero, List.set_cons_succ]
  refine RegionBut.but_ready (rs := [10]) (by kernel_rfl) (by simp) ?_
  refine RegionBut.Nexts.last rfl (fun K hK => ?_)
  have y4 := hb4.free 0
  have x4 : w4.cell? ⟨gw, 0, none⟩ = some (.slice (some ⟨g2, 0, none⟩) m1 c2) := hb4.cell 0 rfl
  have H5 := Lib.hid (HH3.out.put hown4 hgr4 (fun k hk => by simp [Value.ownBlock] at hk; subst hk; exact hor4))
  clear hown4 hgr4 hor4
  go_simp
  (try go_wp2_with fail)
  refine hK.out _ _ trivial (fun _ => ?_)
  clear hK K
  try simp only [Act.put, List.getElem_toArray, List.getElem_cons_succ, List.getElem_cons_zero, List.setIfInBounds_toArray, List.set_cons_zero, List.set_cons_succ]
  refine RegionBut.but_done (by kernel_rfl) ?_ _
  clear hHeld
  go_wp2_with fail
  go_end0
  exact ⟨rfl, _, H5.out⟩

set_option linter.unusedSimpArgs false in
set_option maxRecDepth 100000 in
set_option maxHeartbeats 4000000 in
/-- **A text laid.** -/
theorem text_any (B N gw g0 k : Nat) (s : ByteArray) (W0 W : World) (cs : List UInt8) (v : Value) (hk : k < 100) (hs : s.size ≤ 90000) (hl : cs.length ≤ 900000) (h : Wr B N gw g0 W0 W cs v) :
    Calls Try.prog 35 #[.pointer (some ⟨gw, 0, none⟩), .int .u64 (k : Int), .string s] W fun e W' => e = .returned (.tuple #[]) ∧ ∃ v', Wr B N gw g0 W0 W' (cs ++ fieldT k s.data.toList) v' := by
  by_cases h0 : s.size = 0
  · have d0 := empty_of h0
    have e : cs ++ fieldT k s.data.toList = cs := by
      have : s.data.toList = [] := List.eq_nil_of_length_eq_zero (by rw [size_list]; exact h0)
      simp [fieldT, this]
    rw [e]
    clear h0 e
    go_enter Try.func35, Try.ntmps35
    go_wp2
    go_end0
    exact ⟨rfl, v, h⟩
  have d0 := full_of h0
  have HE : Hid (cs ++ fieldT k s.data.toList = (cs ++ put (2 * k + 1)) ++ putText s.data.toList) := Lib.hid (by
    have : s.data.toList ≠ [] := fun e => h0 (by rw [← size_list, e]; rfl)
    simp only [fieldT, this, if_false, putText, List.append_assoc])
  clear h0
  obtain ⟨z1, hz1⟩ : ∃ z, cs ++ put (2 * k + 1) = z := ⟨_, rfl⟩
  obtain ⟨m1, hm1⟩ : ∃ m, z1.length = m := ⟨_, rfl⟩
  obtain ⟨z2, hz2⟩ : ∃ z, z1 ++ putText s.data.toList = z := ⟨_, rfl⟩
  obtain ⟨m2, hm2⟩ : ∃ m, z2.length = m := ⟨_, rfl⟩
  obtain ⟨pa, hpa⟩ : ∃ p, put (2 * k + 1) = p := ⟨_, rfl⟩
  obtain ⟨pb, hpb⟩ : ∃ p, putText s.data.toList = p := ⟨_, rfl⟩
  obtain ⟨la, hla⟩ : ∃ p, pa.length = p := ⟨_, rfl⟩
  obtain ⟨lb, hlb⟩ : ∃ p, pb.length = p := ⟨_, rfl⟩
  have la0 : 0 < la := by rw [← hla, ← hpa]; exact put_pos _
  have lb0 : 0 < lb := by rw [← hlb, ← hpb]; unfold putText; have := put_pos s.data.toList.length; simp at this ⊢; omega
  have la1 : la ≤ 10 := by rw [← hla, ← hpa]; exact put_len10 (by omega)
  have lb1 : lb ≤ 90010 := by rw [← hlb, ← hpb]; unfold putText; have := put_len10 (n := s.data.toList.length) (by simp; omega); simp; simp at this; omega
  have b1 : m1 = cs.length + la := by rw [← hm1, ← hz1, hpa, ← hla]; simp
  have b2 : m2 = m1 + lb := by rw [← hm2, ← hz2, hpb, ← hm1, ← hlb]; simp
  have hp1 := fun W => put_holds (2 * k + 1) (by omega) W
  have hp2 := fun W => putText_holds s W (by omega)
  have hT := fun w => textTag_any k (by omega) w
  rw [hpa, hla] at hp1
  rw [hpb, hlb] at hp2
  rw [hpa] at hz1
  rw [hpb] at hz2
  rw [hpa, hz1, hpb, hz2] at HE
  rw [HE.out]
  have HP1 := Lib.hid hp1
  have HP2 := Lib.hid hp2
  have HT := Lib.hid hT
  have HZ1 := Lib.hid hz1
  have HZ2 := Lib.hid hz2
  have HM1 := Lib.hid hm1
  have HM2 := Lib.hid hm2
  have HLA := Lib.hid hla
  have HLB := Lib.hid hlb
  have hq1 : m1 ≤ 1000000 := by omega
  have hq2 : m2 ≤ 1000000 := by omega
  have hv : W.cell? ⟨gw, 0, none⟩ = some v := h.blk.cell 0 rfl
  have H := Lib.hid h
  have hBs : B ≤ W.heap.size := Nat.le_trans h.base (Nat.le_of_lt h.blk.lt)
  clear h HE hp1 hp2 hT hz1 hz2 hm1 hm2 hla hlb hpa hpb b1 b2
  go_enter Try.func35, Try.ntmps35
  go_wp2_with fail
  refine RegionBut.region_but 11 (S := fun w => w.cell? ⟨gw, 0, none⟩ = some v) (by kernel_rfl) ?_ (fun hHeld => ?_)
  · exact hv
  refine RegionBut.but_take (i := 0) (v := ?_) rfl (by kernel_rfl) (by kernel_rfl) (by kernel_rfl) (by kernel_rfl) (fun _ _ _ h => h) (Or.inl ⟨by rfl, ?_⟩) (by assumption) ?_
  rotate_left
  · intro wq hSw; (try dsimp only at hSw); go_simp; (try with_reducible rfl)
  simp only [Act.put, List.getElem_toArray, List.getElem_cons_succ, List.getElem_cons_zero, List.setIfInBounds_toArray, List.set_cons_zero, List.set_cons_succ]
  refine RegionBut.but_take (i := 1) (v := ?_) rfl (by kernel_rfl) (by kernel_rfl) (by kernel_rfl) (by kernel_rfl) (fun _ _ _ h => h) (Or.inl ⟨by rfl, ?_⟩) (by assumption) ?_
  rotate_left
  · intro wq hSw; (try dsimp only at hSw); go_simp; (try with_reducible rfl)
  simp only [Act.put, List.getElem_toArray, List.getElem_cons_succ, List.getElem_cons_zero, List.setIfInBounds_toArray, List.set_cons_zero, List.set_cons_succ]
  refine RegionBut.but_take (i := 2) (v := ?_) rfl (by kernel_rfl) (by kernel_rfl) (by kernel_rfl) (by kernel_rfl) (fun _ _ _ h => h) (Or.inl ⟨by rfl, ?_⟩) (by assumption) ?_
  rotate_left
  · intro wq hSw; (try dsimp only at hSw); go_simp; (try with_reducible rfl)
  simp only [Act.put, List.getElem_toArray, List.getElem_cons_succ, List.getElem_cons_zero, List.setIfInBounds_toArray, List.set_cons_zero, List.set_cons_succ]
  refine RegionBut.but_take (i := 3) (v := ?_) rfl (by kernel_rfl) (by kernel_rfl) (by kernel_rfl) (by kernel_rfl) (fun _ _ _ h => h) (Or.inl ⟨by rfl, ?_⟩) (by assumption) ?_
  rotate_left
  · intro wq hSw; (try dsimp only at hSw); go_simp; (try with_reducible rfl)
  simp only [Act.put, List.getElem_toArray, List.getElem_cons_succ, List.getElem_cons_zero, List.setIfInBounds_toArray, List.set_cons_zero, List.set_cons_succ]
  refine RegionBut.but_take (i := 4) (v := ?_) rfl (by kernel_rfl) (by kernel_rfl) (by kernel_rfl) (by kernel_rfl) (fun _ _ _ h => h) (Or.inl ⟨by rfl, ?_⟩) (by assumption) ?_
  rotate_left
  · intro wq hSw; (try dsimp only at hSw); have hq := hSw; go_simp; (try with_reducible rfl)
  simp only [Act.put, List.getElem_toArray, List.getElem_cons_succ, List.getElem_cons_zero, List.setIfInBounds_toArray, List.set_cons_zero, List.set_cons_succ]
  refine RegionBut.but_take (i := 5) (v := ?_) rfl (by kernel_rfl) (by kernel_rfl) (by kernel_rfl) (by kernel_rfl) (fun _ _ _ h => h) (Or.inl ⟨by rfl, ?_⟩) (by assumption) ?_
  rotate_left
  · intro wq hSw; (try dsimp only at hSw); go_simp; (try with_reducible rfl)
  simp only [Act.put, List.getElem_toArray, List.getElem_cons_succ, List.getElem_cons_zero, List.setIfInBounds_toArray, List.set_cons_zero, List.set_cons_succ]
  refine RegionBut.but_ready (rs := [6]) (by kernel_rfl) (by simp) ?_
  refine RegionBut.Nexts.cons rfl (fun K hK => ?_) RegionBut.Nexts.nil
  go_simp
  refine (HT.out _).mono ?_
  rintro e w' ⟨rfl, rfl⟩
  (try go_wp2_with fail)
  refine hK.out _ _ ?_ (fun hHeld => ?_)
  · exact hHeld
  clear hK K
  try simp only [Act.put, List.getElem_toArray, List.getElem_cons_succ, List.getElem_cons_zero, List.setIfInBounds_toArray, List.set_cons_zero, List.set_cons_succ]
  refine RegionBut.but_ready (rs := [7]) (by kernel_rfl) (by simp) ?_
  refine RegionBut.Nexts.cons rfl (fun K hK => ?_) RegionBut.Nexts.nil
  go_simp
  refine (HP1.out _).mono ?_
  rintro e w1 ⟨A1, c1, rfl, _, _, hr1, hb1⟩
  have h1 := (H.out.keep (undrew_b hb1))
  have HH1 := Lib.hid h1
  have HR1 := Lib.hid hr1
  have hsz1 := hb1.size
  clear h1 hr1 hb1
  (try go_wp2_with fail)
  refine hK.out _ _ ?_ (fun hHeld => ?_)
  · exact HH1.out.blk.cell 0 rfl
  clear hK K
  try simp only [Act.put, List.getElem_toArray, List.getElem_cons_succ, List.getElem_cons_zero, List.setIfInBounds_toArray, List.set_cons_zero, List.set_cons_succ]
  refine RegionBut.but_ready (rs := [8]) (by kernel_rfl) (by simp) ?_
  refine RegionBut.Nexts.cons rfl (fun K hK => ?_) RegionBut.Nexts.nil
  refine step_bytes rfl (.tmp 12) (.tmp 15) rfl B v cs pa z1 m1 HZ1.out HM1.out rfl HH1.out.own A1 la c1 rfl HLA.out HR1.out (by rw [HLA.out]; exact la0) hq1 (Nat.le_trans hBs hsz1) ?_
  intro g2 c2 w2 hown2 hgr2 hor2
  have hb2 : Blk w2 gw #[v] 71 := HH1.out.blk.same (grown_at hgr2 HH1.out.blk.lt (own_apart HH1.out.own HH1.out.blk (by decide)))
  refine hK.out _ _ ?_ (fun hHeld => ?_)
  · exact hb2.cell 0 rfl
  clear hK K
  try simp only [Act.put, List.getElem_toArray, List.getElem_cons_succ, List.getElem_cons_zero, List.setIfInBounds_toArray, List.set_cons_zero, List.set_cons_succ]
  refine RegionBut.but_ready (rs := [9]) (by kernel_rfl) (by simp) ?_
  refine RegionBut.Nexts.cons rfl (fun K hK => ?_) RegionBut.Nexts.nil
  go_simp
  (try go_wp2_with fail)
  refine hK.out _ _ ?_ (fun hHeld => ?_)
  · exact hHeld
  clear hK K
  try simp only [Act.put, List.getElem_toArray, List.getElem_cons_succ, List.getElem_cons_zero, List.setIfInBounds_toArray, List.set_cons_zero, List.set_cons_succ]
  refine RegionBut.but_take (i := 10) (v := ?_) rfl (by kernel_rfl) (by kernel_rfl) (by kernel_rfl) (by kernel_rfl) (fun _ _ _ h => h) (Or.inl ⟨by rfl, ?_⟩) (by assumption) ?_
  rotate_left
  · intro wq hSw; (try dsimp only at hSw); go_simp; (try with_reducible rfl)
  simp only [Act.put, List.getElem_toArray, List.getElem_cons_succ, List.getElem_cons_zero, List.setIfInBounds_toArray, List.set_cons_zero, List.set_cons_succ]
  refine RegionBut.but_ready (rs := [11]) (by kernel_rfl) (by simp) ?_
  refine RegionBut.Nexts.last rfl (fun K hK => ?_)
  have y1 := hb2.free 0
  have x1 : w2.cell? ⟨gw, 0, none⟩ = some v := hb2.cell 0 rfl
  have H2 := Lib.hid (HH1.out.put hown2 hgr2 (fun k hk => by simp [Value.ownBlock] at hk; subst hk; exact hor2))
  clear hown2 hgr2 hor2
  go_simp
  (try go_wp2_with fail)
  refine hK.out _ _ trivial (fun _ => ?_)
  clear hK K
  try simp only [Act.put, List.getElem_toArray, List.getElem_cons_succ, List.getElem_cons_zero, List.setIfInBounds_toArray, List.set_cons_zero, List.set_cons_succ]
  refine RegionBut.but_done (by kernel_rfl) ?_ _
  clear hHeld
  have hv2 : (w2.setCell ⟨gw, 0, none⟩ (.slice (some ⟨g2, 0, none⟩) m1 c2)).cell? ⟨gw, 0, none⟩ = some (.slice (some ⟨g2, 0, none⟩) m1 c2) := H2.out.blk.cell 0 rfl
  generalize w2.setCell ⟨gw, 0, none⟩ (.slice (some ⟨g2, 0, none⟩) m1 c2) = W2 at H2 hv2 ⊢
  have hBs2 : B ≤ W2.heap.size := Nat.le_trans H2.out.base (Nat.le_of_lt H2.out.blk.lt)
  clear x1 y1 hb2
  go_wp2_with fail
  refine RegionBut.region_but 10 (S := fun w => w.cell? ⟨gw, 0, none⟩ = some (.slice (some ⟨g2, 0, none⟩) m1 c2)) (by kernel_rfl) ?_ (fun hHeld => ?_)
  · exact hv2
  refine RegionBut.but_take (i := 0) (v := ?_) rfl (by kernel_rfl) (by kernel_rfl) (by kernel_rfl) (by kernel_rfl) (fun _ _ _ h => h) (Or.inl ⟨by rfl, ?_⟩) (by assumption) ?_
  rotate_left
  · intro wq hSw; (try dsimp only at hSw); go_simp; (try with_reducible rfl)
  simp only [Act.put, List.getElem_toArray, List.getElem_cons_succ, List.getElem_cons_zero, List.setIfInBounds_toArray, List.set_cons_zero, List.set_cons_succ]
  refine RegionBut.but_take (i := 1) (v := ?_) rfl (by kernel_rfl) (by kernel_rfl) (by kernel_rfl) (by kernel_rfl) (fun _ _ _ h => h) (Or.inl ⟨by rfl, ?_⟩) (by assumption) ?_
  rotate_left
  · intro wq hSw; (try dsimp only at hSw); go_simp; (try with_reducible rfl)
  simp only [Act.put, List.getElem_toArray, List.getElem_cons_succ, List.getElem_cons_zero, List.setIfInBounds_toArray, List.set_cons_zero, List.set_cons_succ]
  refine RegionBut.but_take (i := 2) (v := ?_) rfl (by kernel_rfl) (by kernel_rfl) (by kernel_rfl) (by kernel_rfl) (fun _ _ _ h => h) (Or.inl ⟨by rfl, ?_⟩) (by assumption) ?_
  rotate_left
  · intro wq hSw; (try dsimp only at hSw); go_simp; (try with_reducible rfl)
  simp only [Act.put, List.getElem_toArray, List.getElem_cons_succ, List.getElem_cons_zero, List.setIfInBounds_toArray, List.set_cons_zero, List.set_cons_succ]
  refine RegionBut.but_take (i := 3) (v := ?_) rfl (by kernel_rfl) (by kernel_rfl) (by kernel_rfl) (by kernel_rfl) (fun _ _ _ h => h) (Or.inl ⟨by rfl, ?_⟩) (by assumption) ?_
  rotate_left
  · intro wq hSw; (try dsimp only at hSw); go_simp; (try with_reducible rfl)
  simp only [Act.put, List.getElem_toArray, List.getElem_cons_succ, List.getElem_cons_zero, List.setIfInBounds_toArray, List.set_cons_zero, List.set_cons_succ]
  refine RegionBut.but_take (i := 4) (v := ?_) rfl (by kernel_rfl) (by kernel_rfl) (by kernel_rfl) (by kernel_rfl) (fun _ _ _ h => h) (Or.inl ⟨by rfl, ?_⟩) (by assumption) ?_
  rotate_left
  · intro wq hSw; (try dsimp only at hSw); have hq := hSw; go_simp; (try with_reducible rfl)
  simp only [Act.put, List.getElem_toArray, List.getElem_cons_succ, List.getElem_cons_zero, List.setIfInBounds_toArray, List.set_cons_zero, List.set_cons_succ]
  refine RegionBut.but_take (i := 5) (v := ?_) rfl (by kernel_rfl) (by kernel_rfl) (by kernel_rfl) (by kernel_rfl) (fun _ _ _ h => h) (Or.inl ⟨by rfl, ?_⟩) (by assumption) ?_
  rotate_left
  · intro wq hSw; (try dsimp only at hSw); go_simp; (try with_reducible rfl)
  simp only [Act.put, List.getElem_toArray, List.getElem_cons_succ, List.getElem_cons_zero, List.setIfInBounds_toArray, List.set_cons_zero, List.set_cons_succ]
  refine RegionBut.but_ready (rs := [6]) (by kernel_rfl) (by simp) ?_
  refine RegionBut.Nexts.cons rfl (fun K hK => ?_) RegionBut.Nexts.nil
  go_simp
  refine (HP2.out _).mono ?_
  rintro e w3 ⟨A3, c3, rfl, _, _, hr3, hb3⟩
  have h3 := (H2.out.keep (undrew_b hb3))
  have HH3 := Lib.hid h3
  have HR3 := Lib.hid hr3
  have hsz3 := hb3.size
  clear h3 hr3 hb3
  (try go_wp2_with fail)
  refine hK.out _ _ ?_ (fun hHeld => ?_)
  · exact HH3.out.blk.cell 0 rfl
  clear hK K
  try simp only [Act.put, List.getElem_toArray, List.getElem_cons_succ, List.getElem_cons_zero, List.setIfInBounds_toArray, List.set_cons_zero, List.set_cons_succ]
  refine RegionBut.but_ready (rs := [7]) (by kernel_rfl) (by simp) ?_
  refine RegionBut.Nexts.cons rfl (fun K hK => ?_) RegionBut.Nexts.nil
  refine step_bytes rfl (.tmp 23) (.tmp 25) rfl B (.slice (some ⟨g2, 0, none⟩) m1 c2) z1 pb z2 m2 HZ2.out HM2.out rfl HH3.out.own A3 lb c3 rfl HLB.out HR3.out (by rw [HLB.out]; exact lb0) hq2 (Nat.le_trans hBs2 hsz3) ?_
  intro g4 c4 w4 hown4 hgr4 hor4
  have hb4 : Blk w4 gw #[.slice (some ⟨g2, 0, none⟩) m1 c2] 71 := HH3.out.blk.same (grown_at hgr4 HH3.out.blk.lt (own_apart HH3.out.own HH3.out.blk (by decide)))
  refine hK.out _ _ ?_ (fun hHeld => ?_)
  · exact hb4.cell 0 rfl
  clear hK K
  try simp only [Act.put, List.getElem_toArray, List.getElem_cons_succ, List.getElem_cons_zero, List.setIfInBounds_toArray, List.set_cons_zero, List.set_cons_succ]
  refine RegionBut.but_ready (rs := [8]) (by kernel_rfl) (by simp) ?_
  refine RegionBut.Nexts.cons rfl (fun K hK => ?_) RegionBut.Nexts.nil
  go_simp
  (try go_wp2_with fail)
  refine hK.out _ _ ?_ (fun hHeld => ?_)
  · exact hHeld
  clear hK K
  try simp only [Act.put, List.getElem_toArray, List.getElem_cons_succ, List.getElem_cons_zero, List.setIfInBounds_toArray, List.set_cons_zero, List.set_cons_succ]
  refine RegionBut.but_take (i := 9) (v := ?_) rfl (by kernel_rfl) (by kernel_rfl) (by kernel_rfl) (by kernel_rfl) (fun _ _ _ h => h) (Or.inl ⟨by rfl, ?_⟩) (by assumption) ?_
  rotate_left
  · intro wq hSw; (try dsimp only at hSw); go_simp; (try with_reducible rfl)
  simp only [Act.put, List.getElem_toArray, List.getElem_cons_succ, List.getElem_cons_zero, List.setIfInBounds_toArray, List.set_cons_zero, List.set_cons_succ]
  refine RegionBut.but_ready (rs := [10]) (by kernel_rfl) (by simp) ?_
  refine RegionBut.Nexts.last rfl (fun K hK => ?_)
  have y4 := hb4.free 0
  have x4 : w4.cell? ⟨gw, 0, none⟩ = some (.slice (some ⟨g2, 0, none⟩) m1 c2) := hb4.cell 0 rfl
  have H5 := Lib.hid (HH3.out.put hown4 hgr4 (fun k hk => by simp [Value.ownBlock] at hk; subst hk; exact hor4))
  clear hown4 hgr4 hor4
  go_simp
  (try go_wp2_with fail)
  refine hK.out _ _ trivial (fun _ => ?_)
  clear hK K
  try simp only [Act.put, List.getElem_toArray, List.getElem_cons_succ, List.getElem_cons_zero, List.setIfInBounds_toArray, List.set_cons_zero, List.set_cons_succ]
  refine RegionBut.but_done (by kernel_rfl) ?_ _
  clear hHeld
  go_wp2_with fail
  go_end0
  exact ⟨rfl, _, H5.out⟩

end Go.Proofs.Ytklgggolkclebaa
