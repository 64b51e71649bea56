/-
  A span is put to those of its trace, which begins if none waits.
-/
import Derived.Test.YthpcnnkdpgjiiaaTlBegin
namespace Go.Proofs.Ythpcnnkdpgjiiaa
open Go.RowKit Go.Maps Go.Proofs.HeapMath Go.Proofs.TailMath

theorem spA_toList (s : Sp) : (spA s).toList = spL s := rfl
theorem spA_set (s : Sp) : (spA s).setIfInBounds 8 (.slice none 0 0) = spA s := rfl
def zero10 : Value := .agg #[.int .u64 0, .int .u64 0, .int .u64 0, .int .u64 0, .string ⟨#[]⟩, .int .i64 0, .int .i64 0, .bool false, .slice none 0 0, .int .u64 0]
theorem info_sp : (Try.prog.info? 35).map (fun i => (i.zero, i.size, i.bytes)) = some (some zero10, 10, 104) := by kernel_rfl
/-- One more span in a trace that waits. -/
def Ge.more (x : Ge) (s : Sp) (A : Option Addr) (cap : Nat) : Ge := ⟨{ x.g with spans := x.g.spans ++ [s] }, x.p, A, cap⟩
theorem core_mid (S T N M : Nat) (v : Value) (a c : List Ge) (x : Ge) : core S T N M v (a ++ x :: c) = (S :: T :: N :: M :: (v.ownBlock.toList ++ a.flatMap Ge.own)) ++ (x.p :: (x.v.ownBlock.toList ++ c.flatMap Ge.own)) := by simp [core, Ge.own]
theorem nodup_swap {A B l : List Nat} {p g : Nat} (h : (A ++ (p :: (l ++ B))).Nodup) (hg : ∀ k ∈ A ++ (p :: (l ++ B)), k ≠ g) : (A ++ (p :: ([g] ++ B))).Nodup := by
  have hs : (A ++ (p :: B)).Sublist (A ++ (p :: (l ++ B))) := List.Sublist.append (List.Sublist.refl _) ((List.sublist_append_right l B).cons_cons p)
  have h2 : (g :: (A ++ (p :: B))).Nodup := List.nodup_cons.2 ⟨fun hm => hg g (hs.subset hm) rfl, h.sublist hs⟩
  refine (List.Perm.nodup_iff ?_).1 h2
  have := (List.perm_middle (a := g) (l₁ := A ++ [p]) (l₂ := B)).symm
  simpa using this
theorem nE_old (a c : List Gr) (g : Gr) (l : List Sp) : nE (a ++ { g with spans := l } :: c) = nE (a ++ g :: c) := by simp [nE]
theorem pu_fin {W1 W : World} {S T N M H : Nat} {v : Value} {hbs cs : List Nat} {a c : List Ge} {x : Ge} {b b2 : St} {s : Sp} {A : Option Addr} {cap : Nat} (h : Bf W1 S T N M H v hbs (a ++ x :: c) b (tms b.L)) (hm : Mut cs W1 W) (hcs : ∀ k ∈ cs, k = S ∨ k = x.p ∨ x.v.ownBlock = some k ∨ k ∉ core S T N M v (a ++ x :: c) ++ hbs)
    (e1 : b2.K = b.K) (e2 : b2.sp = b.sp) (eL : b2.L = a.map (·.g) ++ { x.g with spans := x.g.spans ++ [s] } :: c.map (·.g)) (hblk : Blk W S (bfC b2 T N M H v) 79) (hx : Gok W (x.more s A cap)) (hown : ∀ g, (x.more s A cap).v.ownBlock = some g → x.v.ownBlock = some g ∨ W1.heap.size ≤ g) (hA : (x.more s A cap).v.ownBlock ≠ none) :
    Bf W S T N M H v hbs (a ++ x.more s A cap :: c) b2 (tms b2.L) ∧ ∀ k ∈ core S T N M v (a ++ x.more s A cap :: c), k ∈ core S T N M v (a ++ x :: c) ∨ W1.heap.size ≤ k := by
  have hlt := h.lt
  have hhlt := h.heap.lt
  have hnd := h.nd
  have hgl := h.gl
  have eL0 : b.L = a.map (·.g) ++ x.g :: c.map (·.g) := by rw [← hgl]; simp
  have hin : ∀ k ∈ core S T N M v (a ++ x :: c), (k ≠ S ∧ k ≠ x.p ∧ x.v.ownBlock ≠ some k) → k ∉ cs := fun k hk hn hc => by
    rcases hcs k hc with e | e | e | e
    · exact hn.1 e
    · exact hn.2.1 e
    · exact hn.2.2 e
    · exact e (by simp [hk])
  rw [core_mid] at hnd
  obtain ⟨n1, n2, n3⟩ := List.nodup_append.1 hnd
  obtain ⟨n4, n5⟩ := List.nodup_cons.1 n2
  obtain ⟨n6, n7, n8⟩ := List.nodup_append.1 n5
  obtain ⟨nS, _⟩ := List.nodup_cons.1 n1
  have hA1 : ∀ k ∈ S :: T :: N :: M :: (v.ownBlock.toList ++ a.flatMap Ge.own), k ≠ S → k ∉ cs := fun k hk hkS => hin k (by rw [core_mid]; exact List.mem_append_left _ hk) ⟨hkS, n3 k hk x.p (by simp), fun e => n3 k hk k (by simp [e]) rfl⟩
  have hC1 : ∀ k ∈ c.flatMap Ge.own, k ∉ cs := fun k hk => hin k (by rw [core_mid]; exact List.mem_append_right _ (List.mem_cons_of_mem _ (List.mem_append_right _ hk))) ⟨fun e => n3 S (by simp) k (by simp only [List.mem_cons, List.mem_append]; exact .inr (.inr hk)) e.symm, fun e => n4 (by rw [← e]; exact List.mem_append_right _ hk), fun e => n8 k (by simp [e]) k hk rfl⟩
  have hneS : ∀ k ∈ T :: N :: M :: (v.ownBlock.toList ++ a.flatMap Ge.own), k ≠ S := fun k hk e => nS (e ▸ hk)
  have hTc : T ∉ cs := hA1 T (by simp) (hneS T (by simp))
  have hNc : N ∉ cs := hA1 N (by simp) (hneS N (by simp))
  have hMc : M ∉ cs := hA1 M (by simp) (hneS M (by simp))
  obtain ⟨g2, hg2⟩ : ∃ g, (x.more s A cap).v.ownBlock = some g := Option.ne_none_iff_exists'.1 hA
  have hcore : core S T N M v (a ++ x.more s A cap :: c) = (S :: T :: N :: M :: (v.ownBlock.toList ++ a.flatMap Ge.own)) ++ (x.p :: ([g2] ++ c.flatMap Ge.own)) := by
    rw [core_mid, hg2]; rfl
  have hsub : ∀ k ∈ core S T N M v (a ++ x.more s A cap :: c), k ∈ core S T N M v (a ++ x :: c) ∨ W1.heap.size ≤ k := fun k hk => by
    rw [hcore] at hk
    rw [core_mid]
    rcases List.mem_append.1 hk with e | e
    · exact .inl (List.mem_append_left _ e)
    · rcases List.mem_cons.1 e with e | e
      · exact .inl (by rw [e]; simp)
      · rcases List.mem_append.1 e with e | e
        · rw [List.mem_singleton.1 e]
          rcases hown g2 hg2 with e2 | e2
          · exact .inl (by rw [e2]; simp)
          · exact .inr e2
        · exact .inl (List.mem_append_right _ (List.mem_cons_of_mem _ (List.mem_append_right _ e)))
  refine ⟨⟨hblk, ?_, ?_, ?_, ?_, ?_, ?_, ?_, ?_, ?_⟩, hsub⟩
  · rw [e1]; exact h.told.same (hm.block _ h.told.lt hTc)
  · rw [e1]; exact h.row.mut hm fun g hg => hA1 g (by simp [hg]) (hneS g (by simp [hg]))
  · rw [e2, eL, tms_old]
    have hhp := h.heap
    rw [eL0] at hhp
    exact hhp.mut hm fun k hk hc => by
      rcases hcs k hc with e | e | e | e
      · exact h.hnd S (by simp [core]) (e ▸ hk)
      · exact h.hnd x.p (by rw [core_mid]; simp) (e ▸ hk)
      · exact h.hnd k (by rw [core_mid]; simp [e]) hk
      · exact e (by simp [hk])
  · rw [eL, nE_old]
    have hn := h.nums
    rw [eL0] at hn
    exact hn.same (hm.block _ hn.lt hNc)
  · have hg := h.grps
    have e : gE (a ++ x.more s A cap :: c) = gE (a ++ x :: c) := by simp [gE, Ge.more]
    rw [e]
    exact hg.same (hm.block _ hg.lt hMc)
  · intro y hy
    rcases List.mem_append.1 hy with e | e
    · exact (h.each y (by simp [e])).mut hm fun k hk => hA1 k (by simp only [List.mem_cons, List.mem_append, List.mem_flatMap]; exact .inr (.inr (.inr (.inr (.inr ⟨y, e, hk⟩))))) (hneS k (by simp only [List.mem_cons, List.mem_append, List.mem_flatMap]; exact .inr (.inr (.inr (.inr ⟨y, e, hk⟩)))))
    · rcases List.mem_cons.1 e with rfl | e
      · exact hx
      · exact (h.each y (by simp [e])).mut hm fun k hk => hC1 k (List.mem_flatMap.2 ⟨y, e, hk⟩)
  · rw [eL]; simp [Ge.more]
  · rw [hcore]
    rcases hown g2 hg2 with e2 | e2
    · rw [e2] at hnd; exact hnd
    · exact nodup_swap hnd fun k hk e => by
        have := hlt k (by rw [core_mid]; exact hk)
        omega
  · intro k hk hm2
    rcases hsub k hk with e | e
    · exact h.hnd k e hm2
    · have := hhlt k hm2; omega

/-- Behind the choice: the trace is there. -/
structure PuMid (w : World) (bs : List Nat) (n0 S T N M H : Nat) (v : Value) (b : St) (s : Sp) (hbs : List Nat) (a c : List Ge) (x : Ge) (b1 : St) (wx : World) : Prop where
  bf : Bf wx S T N M H v hbs (a ++ x :: c) b1 (tms b1.L)
  tot_ : tot b1.L = tot b.L
  K : b1.K = b.K
  sp : b1.sp = b.sp
  off : offered b s = { b1 with L := a.map (·.g) ++ { x.g with spans := x.g.spans ++ [s] } :: c.map (·.g) }
  nos : x.g.no ≤ 1000000000 ∧ x.g.spans.length ≤ 5000
  mut_ : Mut bs w wx
  in_ : ∀ k ∈ core S T N M v (a ++ x :: c) ++ hbs, k ∈ bs ∨ n0 < k
  box : Blk wx n0 (spA s) 35
theorem pu_new {w w5 wx : World} {bs : List Nat} {n0 S T N M H : Nat} {v : Value} {hbs : List Nat} {G : List Ge} {b : St} {s : Sp} (hbs0 : bs = core S T N M v G ++ hbs) (hn5 : n0 < w5.heap.size) (h5 : Mut [] w w5) (hnew : isNew s.hi s.lo b.L = true) (hc : b.came ≤ 1000000000) (hb : BeE w5 S T N M H v hbs G b s.hi s.lo wx) (hbx : Blk w5 n0 (spA s) 35) (hlt : ∀ k ∈ bs, k < n0) :
    ∃ hbs1 a c x b1, x.g.no = b.came ∧ PuMid w bs n0 S T N M H v b s hbs1 a c x b1 wx := by
  obtain ⟨hbs', p, k1, k2, k3, k4⟩ := hb
  refine ⟨hbs', G, [], _, _, rfl, k1, ?_, rfl, rfl, ?_, ⟨hc, by simp [newGe]⟩, ?_, ?_, ?_⟩
  · simp [begun, tot_append, tot_cons, tot_nil]
  · simp only [offered, hnew, if_pos, put_new hnew, begun, newGe]
    have := k1.gl
    simp [begun, newGe] at this
    simp [this]
  · refine (h5.wider (by simp)).trans (k2.wider fun k hk => ?_)
    subst hbs0
    simp only [List.mem_cons, List.mem_append, core] at hk ⊢
    rcases hk with e | e | e | e
    · exact .inl (.inl e)
    · exact .inl (.inr (.inr (.inl e)))
    · exact .inl (.inr (.inr (.inr (.inl e))))
    · exact .inr e
  · intro k hk
    subst hbs0
    rcases List.mem_append.1 hk with e | e
    · have : core S T N M v (G ++ [newGe (b.time + b.wait) b.came s.hi s.lo p]) = core S T N M v G ++ [p] := by simp [core, newGe, Ge.own, Ge.v, Value.ownBlock]
      rw [this] at e
      rcases List.mem_append.1 e with e | e
      · exact .inl (by simp [e])
      · rw [List.mem_singleton.1 e]; exact .inr (by omega)
    · rcases k3 k e with e | e
      · exact .inl (by simp [e])
      · exact .inr (by omega)
  · refine hbx.mut k2 fun hm => ?_
    have : n0 ∈ bs := by
      subst hbs0
      simp only [List.mem_cons, List.mem_append, core] at hm ⊢
      rcases hm with e | e | e | e
      · exact .inl (.inl e)
      · exact .inl (.inr (.inr (.inl e)))
      · exact .inl (.inr (.inr (.inr (.inl e))))
      · exact .inr e
    have := hlt _ this
    omega
theorem pu_old {w wx : World} {bs : List Nat} {n0 S T N M H : Nat} {v : Value} {hbs : List Nat} {G : List Ge} {b : St} {s : Sp} (h : Bf wx S T N M H v hbs G b (tms b.L)) (hiv : Iv b) (hbs0 : bs = core S T N M v G ++ hbs) (h5 : Mut [] w wx) (hnew : isNew s.hi s.lo b.L = false) (hc : b.came ≤ 1000000000) (hbx : Blk wx n0 (spA s) 35) :
    ∃ a c x, x.g ∈ b.L ∧ x.g.hi = s.hi ∧ x.g.lo = s.lo ∧ PuMid w bs n0 S T N M H v b s hbs a c x b wx := by
  obtain ⟨la, g, lc, hL, e1, e2⟩ := isNew_false hnew
  have hgl := h.gl
  rw [hL] at hgl
  obtain ⟨a, y, rfl, ha, hy⟩ := List.map_eq_append_iff.1 hgl
  obtain ⟨x, c, rfl, hx, hcc⟩ := List.map_eq_cons_iff.1 hy
  subst hx
  have hm : x.g ∈ b.L := by rw [hL]; simp
  have hpo : put (b.time + b.wait) b.came s b.L = la ++ { x.g with spans := x.g.spans ++ [s] } :: lc := by
    have hnd := hiv.L.nd
    rw [hL] at hnd ⊢
    exact put_old hnd e1 e2
  have htot := hiv.tot
  rw [hL, tot_split] at htot
  have hsp := hiv.sp
  refine ⟨a, c, x, hm, e1, e2, h, rfl, rfl, rfl, ?_, ⟨by have := (hiv.L.ok _ hm).1; omega, by omega⟩, h5.wider (by simp), fun k hk => .inl (by rw [hbs0]; exact hk), hbx⟩
  simp only [offered, hnew, hpo, ha, hcc]
  simp
end Go.Proofs.Ythpcnnkdpgjiiaa
