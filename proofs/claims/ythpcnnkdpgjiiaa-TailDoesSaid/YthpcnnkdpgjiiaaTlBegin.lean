/-
  A trace of which nothing waits begins to: its number, its place in the heap, its block.
-/
import Derived.StillTailTactics
import Derived.Deep.DeepCutAuto
import Derived.Test.YthpcnnkdpgjiiaaRegionBut
import Derived.Test.YthpcnnkdpgjiiaaTlEasy
namespace Go.Proofs.Ythpcnnkdpgjiiaa
open Go.RowKit Go.Maps Go.Proofs.HeapMath Go.Proofs.TailMath

theorem step_am_put {ops : Array Oper} {o : Oper} {a : Act} {w : World} {K : Act → World → Prop} {Q : Exit → Act → World → Prop} {X : Prop} (hgd : o.guard = none) (m x v : Operand) {t k e : TypeId} (hop : o.op = Op.mapUpdate t m x v)
    (Ky : Keyed Try.prog k) (ht : Try.prog.underlying t = some (.map k e)) {R : Rr} {M : Nat} {E F : List (Lit × Value)} {kl : Lit} {key val : Value} {d : DataW Unit} (hm : a.eval m = .map (some M)) (h : Am w k R M E) (hb : But kl E F) (hl : E.length ≤ 100000) (hx : a.eval x = key) (hv : a.eval v = val)
    (hkey : keyOf Try.prog k key = some kl) (hkl : WideAt.IsKeyLit kl) (hval : R val = some (d, []))
    (hK : ∀ w', Am w' k R M (F ++ [(kl, val)]) → w.grownBy w' (some M) → K (a.put o.dst undef) w') :
    if Region.wanted o (yielded ops a.tmps) = true then Oper.wp Try.prog o a w K Q else X := by
  have hw : Region.wanted o (yielded ops a.tmps) = true := by simp [Region.wanted, hgd]
  rw [if_pos hw]
  obtain ⟨D, hD, hAs⟩ := h
  obtain ⟨w', hrun, r1, r2⟩ := hD.update Ky ht (by unfold maxLen; omega) hkey hval
  unfold Oper.wp
  simp [execOp, hop, hm, hx, hv, hrun, Result.andThen]
  exact hK w' (Am.of r1 (hAs.put hb (hD.tidy Ky) hkl hval)) r2
theorem wpList_am_put {w : World} {ops : Array Oper} {rest : List Oper} {o : Oper} {a : Act} {Q : Exit → Act → World → Prop} (hgd : o.guard = none) (m x v : Operand) {t k e : TypeId} (hop : o.op = Op.mapUpdate t m x v)
    (Ky : Keyed Try.prog k) (ht : Try.prog.underlying t = some (.map k e)) {R : Rr} {M : Nat} {E F : List (Lit × Value)} {kl : Lit} {key val : Value} {d : DataW Unit} (hm : a.eval m = .map (some M)) (h : Am w k R M E) (hb : But kl E F) (hl : E.length ≤ 100000) (hx : a.eval x = key) (hv : a.eval v = val)
    (hkey : keyOf Try.prog k key = some kl) (hkl : WideAt.IsKeyLit kl) (hval : R val = some (d, []))
    (hK : ∀ w', Am w' k R M (F ++ [(kl, val)]) → w.grownBy w' (some M) → wpList Try.prog ops Q rest (a.put o.dst undef) w') : wpList Try.prog ops Q (o :: rest) a w := by
  obtain ⟨D, hD, hAs⟩ := h
  refine wpList_mapUpdate_own w hgd m x v t hop k e Ky ht R M E.length D hm hD (by unfold maxLen; omega) key val kl hx hv hkey d [] hval ?_
  intro w' r1 r2
  exact hK w' (Am.of r1 (hAs.put hb (hD.tidy Ky) hkl hval)) r2
theorem wpList_am_del {w : World} {ops : Array Oper} {rest : List Oper} {o : Oper} {a : Act} {Q : Exit → Act → World → Prop} (hgd : o.guard = none) (m x : Operand) {t k e : TypeId} (hop : o.op = Op.call { callee := Callee.builtin Builtin.delete, args := #[m, x], argTypes := #[t, k] })
    (Ky : Keyed Try.prog k) (ht : Try.prog.underlying t = some (.map k e)) {R : Rr} {M : Nat} {E A B : List (Lit × Value)} {kl : Lit} {v0 : Value} {key : Value} (hm : a.eval m = .map (some M)) (h : Am w k R M E) (he : E = A ++ (kl, v0) :: B) (hx : a.eval x = key) (hkey : keyOf Try.prog k key = some kl)
    (hK : ∀ w', Am w' k R M (A ++ B) → w.grownBy w' (some M) → wpList Try.prog ops Q rest (a.put o.dst (.tuple #[])) w') : wpList Try.prog ops Q (o :: rest) a w := by
  subst he
  obtain ⟨D, hD, hAs⟩ := h
  refine wpList_delete_own w hgd m x t k hop e Ky ht R M _ D hm hD key kl hx hkey ?_
  intro w' r1 r2
  exact hK w' (Am.of r1 (hAs.del (hD.tidy Ky))) r2.grown

/-- The five blocks apart. -/
theorem Bf.nes {W : World} {S T N M H : Nat} {v : Value} {hbs : List Nat} {G : List Ge} {b : St} {s : List Tm} (h : Bf W S T N M H v hbs G b s) : S ≠ T ∧ S ≠ N ∧ S ≠ M ∧ T ≠ N ∧ T ≠ M ∧ N ≠ M := by
  have hnd := h.nd
  simp only [core, List.nodup_cons, List.mem_cons, List.mem_append, not_or] at hnd
  obtain ⟨⟨s1, s2, s3, _⟩, ⟨t2, t3, _⟩, ⟨n3, _⟩, _⟩ := hnd
  exact ⟨s1, s2, s3, t2, t3, n3⟩
/-- The row of decisions, and the traces' blocks, are none of the other ones. -/
theorem Bf.far {W : World} {S T N M H : Nat} {v : Value} {hbs : List Nat} {G : List Ge} {b : St} {s : List Tm} (h : Bf W S T N M H v hbs G b s) :
    (∀ g, v.ownBlock = some g → g ≠ S ∧ g ≠ T ∧ g ≠ N ∧ g ≠ M ∧ g ∉ G.flatMap Ge.own) ∧ ∀ k ∈ G.flatMap Ge.own, k ≠ S ∧ k ≠ T ∧ k ≠ N ∧ k ≠ M := by
  have hnd := h.nd
  simp only [core, List.nodup_cons, List.mem_cons, List.mem_append, not_or] at hnd
  obtain ⟨⟨s1, s2, s3, s4, s5⟩, ⟨t2, t3, t4, t5⟩, ⟨n3, n4, n5⟩, ⟨m4, m5⟩, n6⟩ := hnd
  refine ⟨fun g hg => ?_, fun k hk => ⟨fun e => s5 (e ▸ hk), fun e => t5 (e ▸ hk), fun e => n5 (e ▸ hk), fun e => m5 (e ▸ hk)⟩⟩
  have hg2 : g ∈ v.ownBlock.toList := by simpa using hg
  exact ⟨fun e => s4 (e ▸ hg2), fun e => t4 (e ▸ hg2), fun e => n4 (e ▸ hg2), fun e => m4 (e ▸ hg2), fun hk => (List.nodup_append.1 n6).2.2 g hg2 g hk rfl⟩
theorem gE_no {G : List Ge} {L : List Gr} (h : G.map (·.g) = L) {no : Nat} (hn : ∀ g ∈ L, g.no ≠ no) : ∀ p ∈ gE G, p.1 ≠ kl (no : Int) := fun p hp e => by
  obtain ⟨x, hx, rfl⟩ := List.mem_map.1 hp
  have h1 : x.g ∈ L := by rw [← h]; exact List.mem_map.2 ⟨x, hx, rfl⟩
  unfold kl at e
  injection e with _ e
  exact hn _ h1 (by omega)
theorem nE_no {L : List Gr} {hi lo : Nat} (hu : ∀ g ∈ L, u64 g.hi ∧ u64 g.lo) (h1 : u64 hi) (h2 : u64 lo) (hn : isNew hi lo L = true) : ∀ p ∈ nE L, p.1 ≠ tk hi lo := fun p hp e => by
  obtain ⟨g, hg, rfl⟩ := List.mem_map.1 hp
  exact isNew_true.1 hn g hg (tk_inj (hu g hg).1 (hu g hg).2 h1 h2 e)
theorem len_tot {top came : Nat} : ∀ {L : List Gr}, Lv top came L → L.length ≤ tot L
  | [], _ => by simp
  | g :: L, h => by
    have h1 := len_tot (h.sub (List.sublist_cons_self g L))
    have h2 := (h.ok g (by simp)).2.2.2.2
    have h3 : 0 < g.spans.length := by cases e : g.spans with | nil => exact absurd e h2 | cons a l => simp
    rw [tot_cons]
    simp
    omega

def newGe (due no hi lo p : Nat) : Ge := ⟨⟨due, no, hi, lo, []⟩, p, none, 0⟩
def begun (b : St) (hi lo : Nat) : St := { b with came := b.came + 1, L := b.L ++ [⟨b.time + b.wait, b.came, hi, lo, []⟩] }
/-- Behind the beginning. -/
def BeE (w : World) (S T N M H : Nat) (v : Value) (hbs : List Nat) (G : List Ge) (b : St) (hi lo : Nat) (w' : World) : Prop :=
  ∃ hbs' p, Bf w' S T N M H v hbs' (G ++ [newGe (b.time + b.wait) b.came hi lo p]) (begun b hi lo) (tms (begun b hi lo).L) ∧ Mut (S :: N :: M :: hbs) w w' ∧ Ext w hbs hbs' ∧ w.heap.size ≤ p
theorem be_fin {w W : World} {S T N M H hi lo p : Nat} {v : Value} {hbs hbs' : List Nat} {G : List Ge} {b : St} (h : Bf w S T N M H v hbs G b (tms b.L)) (hm : Mut (S :: N :: M :: hbs) w W) (hp : w.heap.size ≤ p)
    (hblk : Blk W S (bfC (begun b hi lo) T N M H v) 79) (hN : Am W 83 (plainElem Try.prog 3) N (nE b.L ++ [(tk hi lo, .int .i64 (b.came : Int))])) (hM : Am W 3 ptrElem M (gE G ++ [(kl (b.came : Int), .pointer (some ⟨p, 0, none⟩))]))
    (hP : Blk W p #[.int .u64 (hi : Int), .int .u64 (lo : Int), .slice none 0 0] 41) (hH : Hp W hbs' H b.sp (tms b.L ++ [(((b.time + b.wait : Nat) : Int), (b.came : Int))])) (hx : Ext w hbs hbs') (hph : p ∉ hbs') : BeE w S T N M H v hbs G b hi lo W := by
  obtain ⟨s1, s2, s3, t2, t3, n3⟩ := h.nes
  obtain ⟨f1, f2⟩ := h.far
  have hlt := h.lt
  have hhlt := h.heap.lt
  have hTh : T ∉ hbs := h.hnd T (by simp [core])
  have oth : ∀ k, (k = T ∨ v.ownBlock = some k ∨ k ∈ G.flatMap Ge.own) → k ∉ S :: N :: M :: hbs := fun k hk => by
    simp only [List.mem_cons, not_or]
    rcases hk with rfl | hk | hk
    · exact ⟨s1.symm, t2, t3, hTh⟩
    · obtain ⟨a1, a2, a3, a4, _⟩ := f1 k hk
      exact ⟨a1, a3, a4, h.hnd k (by simp [core, hk])⟩
    · obtain ⟨a1, a2, a3, a4⟩ := f2 k hk
      exact ⟨a1, a3, a4, h.hnd k (by simp only [core, List.mem_cons, List.mem_append]; exact .inr (.inr (.inr (.inr (.inr hk)))))⟩
  have hcore : ∀ k ∈ core S T N M v G, k ≠ p := fun k hk e => by have := hlt k hk; omega
  have hcl : core S T N M v (G ++ [newGe (b.time + b.wait) b.came hi lo p]) = core S T N M v G ++ [p] := by simp [core, newGe, Ge.own, Ge.v, Value.ownBlock]
  refine ⟨hbs', p, ⟨hblk, ?_, ?_, ?_, ?_, ?_, ?_, ?_, ?_, ?_⟩, hm, hx, hp⟩
  · exact h.told.same (hm.block _ h.told.lt (oth T (.inl rfl)))
  · exact h.row.mut hm fun g hg => oth g (.inr (.inl hg))
  · show Hp W hbs' H b.sp (tms (b.L ++ [⟨b.time + b.wait, b.came, hi, lo, []⟩]))
    rw [tms_append]
    exact hH
  · simpa [nE, begun] using hN
  · simpa [gE, newGe] using hM
  · intro x hx
    rcases List.mem_append.1 hx with e | e
    · exact (h.each x e).mut hm fun k hk => oth k (.inr (.inr (List.mem_flatMap.2 ⟨x, e, hk⟩)))
    · rw [List.mem_singleton.1 e]
      exact ⟨hP, World.ownsRow_nil _ _ _ _⟩
  · show List.map _ _ = b.L ++ _
    rw [List.map_append, h.gl]
    rfl
  · rw [hcl]
    exact List.nodup_append.2 ⟨h.nd, by simp, fun a ha c hc => by rw [List.mem_singleton.1 hc]; exact hcore a ha⟩
  · rw [hcl]
    intro k hk hm2
    rcases List.mem_append.1 hk with e | e
    · rcases hx k hm2 with h1 | h1
      · exact h.hnd k e h1
      · have := hlt k e; omega
    · rw [List.mem_singleton.1 e] at hm2
      exact hph hm2

set_option linter.unusedSimpArgs false in
set_option maxRecDepth 100000 in
set_option maxHeartbeats 2000000 in
theorem begin_any {S T N M H : Nat} {v : Value} {hbs : List Nat} {G : List Ge} {b : St} (hi lo : Nat) (w : World) (h : Bf w S T N M H v hbs G b (tms b.L)) (hiv : Iv b) (h1 : u64 hi) (h2 : u64 lo) (hnew : isNew hi lo b.L = true) (hroom : tot b.L < b.sp) (hcame : b.came ≤ 1000000000) :
    Calls Try.prog 39 #[.pointer (some ⟨S, 3, none⟩), .agg #[.int .u64 (hi : Int), .int .u64 (lo : Int)], .int .i64 ((b.time + b.wait : Nat) : Int)] w fun e w' => e = .returned (.int .i64 (b.came : Int)) ∧ BeE w S T N M H v hbs G b hi lo w' := by
  obtain ⟨n0, hn0⟩ : ∃ n0, w.heap.size = n0 := ⟨_, rfl⟩
  obtain ⟨ca, hca⟩ : ∃ ca, b.came = ca := ⟨_, rfl⟩
  obtain ⟨due, hdue⟩ : ∃ d, b.time + b.wait = d := ⟨_, rfl⟩
  have hlt := h.lt
  have hes := h.nes
  have hSn : S < n0 := hn0 ▸ hlt S (by simp [core])
  have hNn : N < n0 := hn0 ▸ hlt N (by simp [core])
  have hMn : M < n0 := hn0 ▸ hlt M (by simp [core])
  have hlen := len_tot hiv.L
  have c4 : w.cell? ⟨S, 4, none⟩ = some (.int .i64 (ca : Int)) := hca ▸ h.blk.cell 4 rfl
  have c4' : (w.alloc (.cells #[.int .u64 (hi : Int), .int .u64 (lo : Int)] 83)).cell? ⟨S, 4, none⟩ = some (.int .i64 (ca : Int)) := hca ▸ (h.later (box_below _)).blk.cell 4 rfl
  have f4 := h.blk.free 4
  have f4' : (w.alloc (.cells #[.int .u64 (hi : Int), .int .u64 (lo : Int)] 83)).frozen? ⟨S, 4, none⟩ = false := (h.later (box_below _)).blk.free 4
  have hf0 : Bf (w.setCell ⟨S, 4, none⟩ (.int .i64 ((ca : Int) + 1))) S T N M H v hbs G { b with came := ca + 1 } (tms b.L) :=
    h.rest (cs := [S]) ((Mut.refl [S] w).setCell (by simp) _) (fun k _ hk => by simpa using hk) (fun k hk e => h.apartS (by rw [← List.mem_singleton.1 e]; exact hk)) (h.blk.set 4 _) rfl rfl rfl
  have hsz0 : (w.setCell ⟨S, 4, none⟩ (.int .i64 ((ca : Int) + 1))).heap.size = n0 := by simp [World.setCell, hn0]
  have hf1 : Bf ((w.setCell ⟨S, 4, none⟩ (.int .i64 ((ca : Int) + 1))).alloc (.cells #[.int .u64 (hi : Int), .int .u64 (lo : Int)] 83)) S T N M H v hbs G { b with came := ca + 1 } (tms b.L) := hf0.later (box_below _)
  have hb1 := blk_new (w.setCell ⟨S, 4, none⟩ (.int .i64 ((ca : Int) + 1))) #[.int .u64 (hi : Int), .int .u64 (lo : Int)] 83
  rw [hsz0] at hb1
  have hm1 : Mut (S :: N :: M :: hbs) w ((w.setCell ⟨S, 4, none⟩ (.int .i64 ((ca : Int) + 1))).alloc (.cells #[.int .u64 (hi : Int), .int .u64 (lo : Int)] 83)) := ((Mut.refl _ w).setCell (by simp) _).trans (Mut.of_below (box_below _))
  have hd2 : due ≤ 2199023255552 := by have := hiv.time; have := hiv.wait; omega
  have HF0 := Lib.hid h
  have HF1 := Lib.hid (show Bf ((w.setCell ⟨S, 4, none⟩ (.int .i64 ((ca : Int) + 1))).alloc (.cells #[.int .u64 (hi : Int), .int .u64 (lo : Int)] 83)) S T N M H v hbs G { b with came := ca + 1 } (tms b.L) ∧ Blk ((w.setCell ⟨S, 4, none⟩ (.int .i64 ((ca : Int) + 1))).alloc (.cells #[.int .u64 (hi : Int), .int .u64 (lo : Int)] 83)) n0 #[.int .u64 (hi : Int), .int .u64 (lo : Int)] 83 ∧ Mut (S :: N :: M :: hbs) w ((w.setCell ⟨S, 4, none⟩ (.int .i64 ((ca : Int) + 1))).alloc (.cells #[.int .u64 (hi : Int), .int .u64 (lo : Int)] 83)) from ⟨hf1, hb1, hm1⟩)
  have HI := Lib.hid hiv
  have HU := Lib.hid (show u64 hi ∧ u64 lo ∧ isNew hi lo b.L = true ∧ tot b.L < b.sp ∧ b.L.length ≤ tot b.L from ⟨h1, h2, hnew, hroom, hlen⟩)
  have HES := Lib.hid hes
  have HN0 := Lib.hid hn0
  have HCA := Lib.hid (show b.came = ca ∧ b.time + b.wait = due from ⟨hca, hdue⟩)
  rw [hca] at hcame
  rw [hca, hdue]
  clear h hf0 hf1 hsz0 hb1 hm1 hiv h1 h2 hnew hroom hlen hes hlt hca hdue
  go_enter Try.func39, Try.ntmps39
  go_wp2_with fail
  clear c4 c4' f4 f4' hn0
  generalize (w.setCell ⟨S, 4, none⟩ (.int .i64 ((ca : Int) + 1))).alloc (.cells #[.int .u64 (hi : Int), .int .u64 (lo : Int)] 83) = w1 at HF1 ⊢
  have u1 : w1.cell? ⟨S, 6, none⟩ = some (.map (some N)) := HF1.out.1.blk.cell 6 rfl
  have u2 := HF1.out.2.1.cell 0 rfl
  have u3 := HF1.out.2.1.cell 1 rfl
  go_still_tail 6, (by kernel_rfl)
  change wpList _ _ _ _ _ w1.drew
  refine wpList_am_put rfl _ _ _ (t := 74) (kl := tk hi lo) (key := .agg #[.int .u64 (hi : Int), .int .u64 (lo : Int)]) (val := .int .i64 (ca : Int)) rfl law_tr Try.underlying74 rfl (HF1.out.1.drew.nums) (.inl ⟨rfl, nE_no (fun g hg => ⟨(HI.out.L.ok g hg).2.2.1, (HI.out.L.ok g hg).2.2.2.1⟩) HU.out.1 HU.out.2.1 HU.out.2.2.1⟩) (by have := HU.out; have := HI.out.sp; simp [nE]; omega) rfl rfl (key_tr HU.out.1 HU.out.2.1) (tk_key hi lo) (plainElem_int Try.underlying3 (wf64 (by omega) (by omega))) ?_
  intro w2 hN2 hg2
  have hm2 : Mut [N] w1 w2 := (Mut.refl [N] w1).drew.grown hg2 (by simp)
  have hS2 : Blk w2 S (bfC { b with came := ca + 1 } T N M H v) 79 := HF1.out.1.blk.mut hm2 (by simpa using HES.out.2.1)
  have h02 : Blk w2 n0 #[.int .u64 (hi : Int), .int .u64 (lo : Int)] 83 := HF1.out.2.1.mut hm2 (by simp; omega)
  have hM2 : Am w2 3 ptrElem M (gE G) := HF1.out.1.grps.same (hm2.block _ HF1.out.1.grps.lt (by simpa using HES.out.2.2.2.2.2.symm))
  have hH2 : Hp w2 hbs H b.sp (tms b.L) := HF1.out.1.heap.mut hm2 fun k hk e => HF0.out.hnd N (by simp [core]) (by rw [← List.mem_singleton.1 e]; exact hk)
  have hm2' : Mut (S :: N :: M :: hbs) w w2 := HF1.out.2.2.trans (hm2.wider (by simp))
  have HX2 := Lib.hid (show Blk w2 S (bfC { b with came := ca + 1 } T N M H v) 79 ∧ Blk w2 n0 #[.int .u64 (hi : Int), .int .u64 (lo : Int)] 83 ∧ Am w2 3 ptrElem M (gE G) ∧ Hp w2 hbs H b.sp (tms b.L) ∧ Mut (S :: N :: M :: hbs) w w2 ∧ Am w2 83 (plainElem Try.prog 3) N (nE b.L ++ [(tk hi lo, .int .i64 (ca : Int))]) from ⟨hS2, h02, hM2, hH2, hm2', hN2⟩)
  clear hN2 hg2 hm2 hM2 hH2 hm2' HF1 u1 u2 u3
  obtain ⟨n2, hn2⟩ : ∃ n2, w2.heap.size = n2 := ⟨_, rfl⟩
  have hn2d : w2.drew.heap.size = n2 := hn2
  have hn02 : n0 < n2 := hn2 ▸ h02.lt
  have z1 : Blk w2.drew S (bfC { b with came := ca + 1 } T N M H v) 79 := hS2
  have z2 : Blk w2.drew n0 #[.int .u64 (hi : Int), .int .u64 (lo : Int)] 83 := h02
  clear hS2 h02
  dsimp only [Act.put]
  go_wp2_with fail
  refine wp_region_held_drew (S := fun W => Blk W S (bfC { b with came := ca + 1 } T N M H v) 79 ∧ Blk W n0 #[.int .u64 (hi : Int), .int .u64 (lo : Int)] 83) (by kernel_rfl) ?_ (fun hHeld => ?_)
  · exact ⟨z1, z2⟩
  refine wpAnyH_take (i := 0) (v := ?_) rfl (by kernel_rfl) (by kernel_rfl) (by kernel_rfl) (fun _ _ _ h => h) (Or.inl ⟨by rfl, ?_⟩) (by assumption) ?_
  rotate_left
  · intro wq hSw; (try dsimp only at hSw); go_simp; (try with_reducible rfl)
  simp only [Act.put, List.getElem_toArray, List.getElem_cons_succ, List.getElem_cons_zero, List.setIfInBounds_toArray, List.set_cons_zero, List.set_cons_succ]
  refine wpAnyH_take (i := 1) (v := ?_) rfl (by kernel_rfl) (by kernel_rfl) (by kernel_rfl) (fun _ _ _ h => h) (Or.inl ⟨by rfl, ?_⟩) (by assumption) ?_
  rotate_left
  · intro wq hSw; (try dsimp only at hSw); go_simp; (try with_reducible rfl)
  simp only [Act.put, List.getElem_toArray, List.getElem_cons_succ, List.getElem_cons_zero, List.setIfInBounds_toArray, List.set_cons_zero, List.set_cons_succ]
  refine wpAnyH_take (i := 2) (v := ?_) rfl (by kernel_rfl) (by kernel_rfl) (by kernel_rfl) (fun _ _ _ h => h) (Or.inl ⟨by rfl, ?_⟩) (by assumption) ?_
  rotate_left
  · intro wq hSw; (try dsimp only at hSw); go_simp; (try with_reducible rfl)
  simp only [Act.put, List.getElem_toArray, List.getElem_cons_succ, List.getElem_cons_zero, List.setIfInBounds_toArray, List.set_cons_zero, List.set_cons_succ]
  refine wpAnyH_take (i := 3) (v := ?_) rfl (by kernel_rfl) (by kernel_rfl) (by kernel_rfl) (fun _ _ _ h => h) (Or.inl ⟨by rfl, ?_⟩) (by assumption) ?_
  rotate_left
  · intro wq hSw; (try dsimp only at hSw); have q0 : wq.cell? ⟨S, 7, none⟩ = some (.map (some M)) := hSw.1.cell 7 rfl; go_simp; (try with_reducible rfl)
  simp only [Act.put, List.getElem_toArray, List.getElem_cons_succ, List.getElem_cons_zero, List.setIfInBounds_toArray, List.set_cons_zero, List.set_cons_succ]
  refine wpAnyH_take (i := 4) (v := ?_) rfl (by kernel_rfl) (by kernel_rfl) (by kernel_rfl) (fun _ _ _ h => h) (Or.inl ⟨by rfl, ?_⟩) (by assumption) ?_
  rotate_left
  · intro wq hSw; (try dsimp only at hSw); go_simp; (try with_reducible rfl)
  simp only [Act.put, List.getElem_toArray, List.getElem_cons_succ, List.getElem_cons_zero, List.setIfInBounds_toArray, List.set_cons_zero, List.set_cons_succ]
  refine wpAnyH_take (i := 5) (v := ?_) rfl (by kernel_rfl) (by kernel_rfl) (by kernel_rfl) (fun _ _ _ h => h) (Or.inl ⟨by rfl, ?_⟩) (by assumption) ?_
  rotate_left
  · intro wq hSw; (try dsimp only at hSw); go_simp; (try with_reducible rfl)
  simp only [Act.put, List.getElem_toArray, List.getElem_cons_succ, List.getElem_cons_zero, List.setIfInBounds_toArray, List.set_cons_zero, List.set_cons_succ]
  refine wpAnyH_take (i := 6) (v := ?_) rfl (by kernel_rfl) (by kernel_rfl) (by kernel_rfl) (fun _ _ _ h => h) (Or.inl ⟨by rfl, ?_⟩) (by assumption) ?_
  rotate_left
  · intro wq hSw; (try dsimp only at hSw); have q0 := hSw.2.cell 0 rfl; go_simp; (try with_reducible rfl)
  simp only [Act.put, List.getElem_toArray, List.getElem_cons_succ, List.getElem_cons_zero, List.setIfInBounds_toArray, List.set_cons_zero, List.set_cons_succ]
  refine wpAnyH_take (i := 7) (v := ?_) rfl (by kernel_rfl) (by kernel_rfl) (by kernel_rfl) (fun _ _ _ h => h) (Or.inl ⟨by rfl, ?_⟩) (by assumption) ?_
  rotate_left
  · intro wq hSw; (try dsimp only at hSw); go_simp; (try with_reducible rfl)
  simp only [Act.put, List.getElem_toArray, List.getElem_cons_succ, List.getElem_cons_zero, List.setIfInBounds_toArray, List.set_cons_zero, List.set_cons_succ]
  refine wpAnyH_take (i := 8) (v := ?_) rfl (by kernel_rfl) (by kernel_rfl) (by kernel_rfl) (fun _ _ _ h => h) (Or.inl ⟨by rfl, ?_⟩) (by assumption) ?_
  rotate_left
  · intro wq hSw; (try dsimp only at hSw); have q0 := hSw.2.cell 1 rfl; go_simp; (try with_reducible rfl)
  simp only [Act.put, List.getElem_toArray, List.getElem_cons_succ, List.getElem_cons_zero, List.setIfInBounds_toArray, List.set_cons_zero, List.set_cons_succ]
  refine wpAnyH_take (i := 9) (v := ?_) rfl (by kernel_rfl) (by kernel_rfl) (by kernel_rfl) (fun _ _ _ h => h) (Or.inl ⟨by rfl, ?_⟩) (by assumption) ?_
  rotate_left
  · intro wq hSw; (try dsimp only at hSw); go_simp; (try with_reducible rfl)
  simp only [Act.put, List.getElem_toArray, List.getElem_cons_succ, List.getElem_cons_zero, List.setIfInBounds_toArray, List.set_cons_zero, List.set_cons_succ]
  refine wpAnyH_ready (rs := [10]) (by kernel_rfl) (by simp) ?_
  refine AllReadyH.cons rfl (fun K hK => ?_) AllReadyH.nil
  go_simp
  (try go_wp2_with fail)
  refine hK.out _ _ ?_ (fun hHeld => ?_)
  · exact ⟨z1.later (box_below _), z2.later (box_below _)⟩
  clear hK K
  try simp only [Act.put, List.getElem_toArray, List.getElem_cons_succ, List.getElem_cons_zero, List.setIfInBounds_toArray, List.set_cons_zero, List.set_cons_succ]
  refine wpAnyH_ready (rs := [11]) (by kernel_rfl) (by simp) ?_
  refine AllReadyH.cons rfl (fun K hK => ?_) AllReadyH.nil
  refine step_am_put rfl _ _ _ (t := 75) (kl := kl (ca : Int)) (key := .int .i64 (ca : Int)) (val := .pointer (some ⟨n2, 0, none⟩)) rfl law_int Try.underlying75 rfl (HX2.out.2.2.1.same (W' := (w2.drew.alloc (.cells #[.int .u64 (hi : Int), .int .u64 (lo : Int), .slice none 0 0] 41)).drew) (Below.heap_alloc w2 _ _ HX2.out.2.2.1.lt)) (.inl ⟨rfl, gE_no HF0.out.gl fun g hg => by have := (HI.out.L.ok g hg).1; rw [HCA.out.1] at this; omega⟩) (by have := HU.out; have := HI.out.sp; have := congrArg List.length HF0.out.gl; simp [gE] at this ⊢; omega) rfl rfl (key_int (by omega) (by omega)) (kl_key _) rfl ?_
  intro w4 hM4 hg4
  have hszA : (w2.alloc (.cells #[.int .u64 (hi : Int), .int .u64 (lo : Int), .slice none 0 0] 41)).drew.heap.size = n2 + 1 := by show (w2.alloc _).heap.size = _; rw [World.size_alloc, hn2]
  have hsz4 : n2 + 1 ≤ w4.heap.size := by have := hg4.size; rw [hszA] at this; exact this
  have hm4 : Mut [M] w2 w4 := ⟨hg4.os, hg4.tape, hg4.output, by omega, fun k hk hn => (hg4.block k (by rw [hszA]; omega) (by simpa using hn)).trans (Below.heap_alloc w2 _ _ hk)⟩
  have hP4 : Blk w4 n2 #[.int .u64 (hi : Int), .int .u64 (lo : Int), .slice none 0 0] 41 := (hn2 ▸ blk_new w2 #[.int .u64 (hi : Int), .int .u64 (lo : Int), .slice none 0 0] 41).same (hg4.block n2 (by rw [hszA]; omega) (by simp; omega))
  have hS4 : Blk w4 S (bfC { b with came := ca + 1 } T N M H v) 79 := HX2.out.1.mut hm4 (by simpa using HES.out.2.2.1)
  have h04 : Blk w4 n0 #[.int .u64 (hi : Int), .int .u64 (lo : Int)] 83 := HX2.out.2.1.mut hm4 (by simp; omega)
  have hN4 := HX2.out.2.2.2.2.2.same (hm4.block _ HX2.out.2.2.2.2.2.lt (by simpa using HES.out.2.2.2.2.2))
  have hH4 : Hp w4 hbs H b.sp (tms b.L) := HX2.out.2.2.2.1.mut hm4 fun k hk e => HF0.out.hnd M (by simp [core]) (by rw [← List.mem_singleton.1 e]; exact hk)
  have hmm4 : Mut (S :: N :: M :: hbs) w w4 := HX2.out.2.2.2.2.1.trans (hm4.wider (by simp))
  have HX4 := Lib.hid (show Blk w4 S (bfC { b with came := ca + 1 } T N M H v) 79 ∧ Am w4 83 (plainElem Try.prog 3) N (nE b.L ++ [(tk hi lo, .int .i64 (ca : Int))]) ∧ Am w4 3 ptrElem M (gE G ++ [(kl (ca : Int), .pointer (some ⟨n2, 0, none⟩))]) ∧ Blk w4 n2 #[.int .u64 (hi : Int), .int .u64 (lo : Int), .slice none 0 0] 41 ∧ Hp w4 hbs H b.sp (tms b.L) ∧ Mut (S :: N :: M :: hbs) w w4 from ⟨hS4, hN4, hM4, hP4, hH4, hmm4⟩)
  clear hszA hm4 hP4 hN4 hH4 hmm4 hM4 hg4
  refine hK.out _ _ ?_ (fun hHeld => ?_)
  · exact ⟨hS4, h04⟩
  clear hK K
  try simp only [Act.put, List.getElem_toArray, List.getElem_cons_succ, List.getElem_cons_zero, List.setIfInBounds_toArray, List.set_cons_zero, List.set_cons_succ]
  refine wpAnyH_done (by kernel_rfl) ?_ _
  clear hHeld
  have c3 : w4.cell? ⟨S, 3, none⟩ = some (.pointer (some ⟨H, 0, none⟩)) := hS4.cell 3 rfl
  have hpush := hpush_ok ((due : Int), (ca : Int)) w4 HX4.out.2.2.2.2.1 ⟨⟨by simp only; omega, by simp only; omega⟩, ⟨by simp only; omega, by simp only; omega⟩⟩ (isin_tms fun g hg => by have := (HI.out.L.ok g hg).1; rw [HCA.out.1] at this; omega) (by have := HU.out; simp [tms]; omega)
  have hins : ins ((due : Int), (ca : Int)) (tms b.L) = tms b.L ++ [((due : Int), (ca : Int))] := ins_last (by have := HI.out.L.lt; rw [HCA.out.1, HCA.out.2] at this; exact this)
  rw [hins] at hpush
  have HPU := Lib.hid hpush
  clear hpush hins hS4 h04 z1 z2
  go_wp2_with fail
  refine HPU.out.mono ?_
  rintro e w5 ⟨rfl, hbs', hH5, hm5, hx5⟩
  have hfar : ∀ k, k ∈ core S T N M v G → k ∉ hbs := HF0.out.hnd
  have hhlt := HX4.out.2.2.2.2.1.lt
  have hh0 := HF0.out.heap.lt
  have hn2h : n2 ∉ hbs := fun hm => by have := hh0 n2 hm; rw [HN0.out] at this; omega
  have hend := be_fin (hi := hi) (lo := lo) HF0.out (HX4.out.2.2.2.2.2.trans (hm5.wider fun k hk => List.mem_cons_of_mem _ (List.mem_cons_of_mem _ (List.mem_cons_of_mem _ hk)))) (p := n2) (by rw [HN0.out]; omega) (by have := HX4.out.1.mut hm5 (hfar S (by simp [core])); rw [show bfC (begun b hi lo) T N M H v = bfC { b with came := ca + 1 } T N M H v by simp [bfC, begun, HCA.out.1, tot_append, tot_cons, tot_nil]]; exact this) (by rw [HCA.out.1]; exact HX4.out.2.1.same (hm5.block _ HX4.out.2.1.lt (hfar N (by simp [core])))) (by rw [HCA.out.1]; exact HX4.out.2.2.1.same (hm5.block _ HX4.out.2.2.1.lt (hfar M (by simp [core])))) (HX4.out.2.2.2.1.mut hm5 hn2h) (by rw [HCA.out.1, HCA.out.2]; exact hH5) (fun k hk => (hx5 k hk).imp id fun h => Nat.le_trans HX4.out.2.2.2.2.2.size h) (fun hm => by rcases hx5 n2 hm with h | h; exact hn2h h; have := HX4.out.2.2.2.1.lt; omega)
  have HEND := Lib.hid hend
  clear hend hH5 hm5 hx5 hfar hhlt hh0 hn2h
  go_wp2_with fail
  go_ret
  exact ⟨rfl, HEND.out⟩
end Go.Proofs.Ythpcnnkdpgjiiaa
