/-
  A heap of a law's own: Due.
-/
import Derived.Deep.LoopGhost
import Derived.Test.YthpcnnkdpgjiiaaHpOw
namespace Go.Proofs.Ythpcnnkdpgjiiaa
open Go.RowKit Go.Maps Go.Proofs.HeapMath

/-- The slice value holds the timers l, below B. -/
def Tms (B : Nat) (W : World) (A : Option Addr) (l : List Tm) : Prop :=
  0 < l.length → ∃ g off, A = some ⟨g, off, none⟩ ∧ g < B ∧ ∀ j, j < l.length → W.cell? ⟨g, off + j * 2, none⟩ = some (.int .i64 (at_ l j).1) ∧ W.cell? ⟨g, off + j * 2 + 1, none⟩ = some (.int .i64 (at_ l j).2)
theorem Tms.below {B : Nat} {W W' : World} {A : Option Addr} {l : List Tm} (h : Tms B W A l) (hb : Below B W W') : Tms B W' A l := fun h0 => by
  obtain ⟨g, off, e, hg, hc⟩ := h h0
  exact ⟨g, off, e, hg, fun j hj => ⟨(hb.cell (p := ⟨g, off + j * 2, none⟩) hg).trans (hc j hj).1, (hb.cell (p := ⟨g, off + j * 2 + 1, none⟩) hg).trans (hc j hj).2⟩⟩
theorem Tms.mono {B B' : Nat} {W : World} {A : Option Addr} {l : List Tm} (h : Tms B W A l) (hb : B ≤ B') : Tms B' W A l := fun h0 => by
  obtain ⟨g, off, e, hg, hc⟩ := h h0
  exact ⟨g, off, e, by omega, hc⟩
theorem tms_own {W : World} {base T n cap : Nat} {A : Option Addr} {l : List Tm} (h : W.ownsRow base T 2 (.slice A n cap) n (cl l)) (hn : l.length = n) : Tms W.heap.size W A l := fun h0 => by
  obtain ⟨g, cap', e, hg1, hg2⟩ := h.form (by omega)
  injection e with e1 _ e2
  subst e1 e2
  refine ⟨g, 0, rfl, hg2, fun j hj => ?_⟩
  have c1 := (cl_at hj).1
  have c2 := (cl_at hj).2
  have z : ∀ k, (⟨g, 0, none⟩ : Addr).add k = ⟨g, k, none⟩ := fun k => by unfold Addr.add; split <;> simp_all
  have r1 := h.cells (g := g) rfl _ _ c1
  have r2 := h.cells (g := g) rfl _ _ c2
  rw [z] at r1 r2
  simp only [Nat.zero_add]
  exact ⟨r1, r2⟩

structure DueMid (w : World) (bs : List Nat) (S most : Nat) (s : List Tm) (now : Int) (wr : World) (A : Option Addr) (n cap p : Nat) (a b : Int) (out rest : List Tm) (bs' : List Nat) : Prop where
  hp : Hp wr bs' S most rest
  turn : Mut bs w wr
  ext : Ext w bs bs'
  row : wr.ownsRow w.heap.size 89 2 (.slice A n cap) n (cl out)
  far : ∀ g, (Value.slice A n cap).ownBlock = some g → g ∉ bs'
  blk : Blk wr p #[.int .i64 a, .int .i64 b] 89
  pfar : p ∉ bs' ∧ (Value.slice A n cap).ownBlock ≠ some p ∧ w.heap.size ≤ p
  first : ∀ t r, rest = t :: r → t = (a, b)
  all : out ++ rest = s
  due : ∀ t ∈ out, t.1 ≤ now
  len : out.length = n
def DueF (w : World) (bs : List Nat) (S most : Nat) (s : List Tm) (now : Int) (e : Ending) (w' : World) : Prop :=
  ∃ A bs', e = .returned (.slice A (dueOf now s).length (dueOf now s).length) ∧ Tms w'.heap.size w' A (dueOf now s) ∧ (∀ a, A = some a → w.heap.size ≤ a.block) ∧ Hp w' bs' S most (lateOf now s) ∧ Mut bs w w' ∧ Ext w bs bs'
theorem DueMid.stop {w : World} {bs : List Nat} {S most : Nat} {s : List Tm} {now : Int} {wr : World} {A : Option Addr} {n cap p : Nat} {a b : Int} {out rest : List Tm} {bs' : List Nat} (h : DueMid w bs S most s now wr A n cap p a b out rest bs') (hr : ∀ t r, rest = t :: r → now < t.1) :
    DueF w bs S most s now (.returned (.slice A n n)) wr := by
  obtain ⟨h1, h2⟩ := due_split h.all h.due hr
  have hl := h.len
  refine ⟨A, bs', ?_, ?_, fun a ha => ?_, h2 ▸ h.hp, h.turn, h.ext⟩
  · rw [← h1, hl]
  · rw [← h1]; exact tms_own h.row hl
  · subst ha; exact (h.row.lt a.block rfl).1

theorem DueMid.cap {w : World} {bs : List Nat} {S most : Nat} {s : List Tm} {now : Int} {wr : World} {A : Option Addr} {n cap p : Nat} {a b : Int} {out rest : List Tm} {bs' : List Nat} (h : DueMid w bs S most s now wr A n cap p a b out rest bs') : n ≤ cap := by
  rcases h.row.2 with ⟨e, _⟩ | ⟨g, c, cur, e, _, _, h2, _⟩
  · injection e with _ e1 e2; omega
  · injection e with _ e1 e2; omega
theorem info_api : (Try.prog.info? 89).map (fun i => (i.zero, i.size, i.bytes)) = some (some (.agg #[.int .i64 0, .int .i64 0]), 2, 16) := by kernel_rfl
theorem DueMid.pop {w : World} {bs : List Nat} {S most : Nat} {s : List Tm} {now : Int} {wr w3 : World} {A : Option Addr} {n cap p : Nat} {a b : Int} {out rest : List Tm} {bs' : List Nat} {o : Obj} (h : DueMid w bs S most s now wr A n cap p a b out rest bs')
    (hg : (wr.alloc o).grownBy w3 (Value.slice A n cap).ownBlock) : Hp w3 bs' S most rest ∧ Mut (Value.slice A n cap).ownBlock.toList wr w3 := by
  have hm : Mut (Value.slice A n cap).ownBlock.toList wr w3 := ⟨hg.os, hg.tape, hg.output, by have := hg.size; rw [World.size_alloc] at this; omega, fun k hk hn => (hg.block k (by rw [World.size_alloc]; omega) (fun e => hn (by rw [← e]; simp))).trans (Below.heap_alloc _ _ _ hk)⟩
  exact ⟨h.hp.mut hm fun k hk hc => by
    cases e : (Value.slice A n cap).ownBlock with
    | none => rw [e] at hc; simp at hc
    | some g =>
      rw [e] at hc
      simp at hc
      subst hc
      exact h.far _ e hk, hm⟩
theorem DueMid.next {w : World} {bs : List Nat} {S most : Nat} {s : List Tm} {now : Int} {wr w3 w4 w5 : World} {A : Option Addr} {n cap p g2 c2 nr p2 : Nat} {a b a' b' : Int} {out r : List Tm} {t : Tm} {bs' bs4 : List Nat} {o : Obj}
    (h : DueMid w bs S most s now wr A n cap p a b out (t :: r) bs') (hle : a ≤ now) (hnr : wr.heap.size = nr) (hg : (wr.alloc o).grownBy w3 (Value.slice A n cap).ownBlock)
    (hown : w3.ownsRow w.heap.size 89 2 (.slice (some ⟨g2, 0, none⟩) (n + 1) c2) (n + 1) (cl out ++ [.int .i64 a, .int .i64 b])) (hor : (Value.slice A n cap).ownBlock = some g2 ∨ g2 = nr + 1) (hlt : g2 < w3.heap.size)
    (h4 : Hp w4 bs4 S most r) (hm4 : Mut bs' w3 w4) (hx4 : Ext w3 bs' bs4) (hp2 : w4.heap.size = p2) (hb5 : Below (p2 + 1) (w4.alloc (.cells #[.int .i64 a, .int .i64 b] 89)) w5) (hf : ∀ t' r', r = t' :: r' → t' = (a', b')) :
    DueMid w bs S most s now ((w5.setCell ⟨p2, 0, none⟩ (.int .i64 a')).setCell ⟨p2, 1, none⟩ (.int .i64 b')) (some ⟨g2, 0, none⟩) (n + 1) c2 p2 a' b' (out ++ [t]) r bs4 := by
  have ht := h.first t r rfl
  obtain ⟨_, hm3⟩ := h.pop hg
  have hlt' := h.hp.lt
  have hs3 := hm3.size
  have hs4 := hm4.size
  have hgb : g2 ∉ bs' := by
    rcases hor with e | e
    · exact h.far _ e
    · intro hm; have := hlt' _ hm; omega
  have hb45 : Below w4.heap.size w4 w5 := (box_below _).trans (hb5.mono (by omega))
  have hp2b : p2 ∉ bs4 := fun hm => by have := h4.lt _ hm; omega
  have hmS : Mut [p2] w5 ((w5.setCell ⟨p2, 0, none⟩ (.int .i64 a')).setCell ⟨p2, 1, none⟩ (.int .i64 b')) := ((Mut.refl _ _).setCell (by simp) _).setCell (by simp) _
  have hblk : Blk w5 p2 #[.int .i64 a, .int .i64 b] 89 := by
    have := blk_new w4 #[.int .i64 a, .int .i64 b] 89
    rw [hp2] at this
    exact this.same (hb5.block _ (by omega))
  have hwr := h.turn.size
  have hext : Ext w bs bs4 := h.ext.trans (fun k hk => (hx4 k hk).imp id fun h => Nat.le_trans hs3 h) hwr
  have hown4 : w4.ownsRow w.heap.size 89 2 (.slice (some ⟨g2, 0, none⟩) (n + 1) c2) (n + 1) (cl out ++ [.int .i64 a, .int .i64 b]) := row_same hown fun g hgv => by
    simp [Value.ownBlock] at hgv
    subst hgv
    exact hm4.block _ hlt hgb
  refine ⟨(h4.later hb45).mut hmS fun k hk hc => ?_, ?_, hext, ?_, fun g hgv => ?_, ?_, ⟨hp2b, ?_, by omega⟩, hf, by rw [← h.all]; simp, fun x hx => ?_, by simp [h.len]⟩
  · rw [List.mem_singleton.1 hc] at hk; exact hp2b hk
  · have m1 : Mut bs w w3 := h.turn.onto hm3 fun k hk => by
      cases e : (Value.slice A n cap).ownBlock with
      | none => rw [e] at hk; simp at hk
      | some g =>
        rw [e] at hk
        simp at hk
        subst hk
        exact .inr (h.row.lt _ e).1
    have m2 : Mut bs w w4 := m1.onto hm4 fun k hk => h.ext k hk
    exact (m2.trans (Mut.of_below hb45)).onto hmS fun k hk => .inr (by rw [List.mem_singleton.1 hk]; omega)
  · rw [cl_append, ht]
    refine row_same hown4 fun g hgv => ?_
    have hgl : g < w4.heap.size := by simp [Value.ownBlock] at hgv; omega
    exact (hmS.block g (by have := hb45.size; omega) (by simp; omega)).trans (hb45.block g hgl)
  · simp [Value.ownBlock] at hgv
    subst hgv
    intro hm
    rcases hx4 _ hm with e | e
    · exact hgb e
    · omega
  · exact (hblk.set 0 (.int .i64 a')).set 1 (.int .i64 b')
  · simp [Value.ownBlock]; omega
  · rcases List.mem_append.1 hx with e | e
    · exact h.due x e
    · rw [List.mem_singleton.1 e, ht]; exact hle

set_option maxRecDepth 100000 in
set_option maxHeartbeats 2000000 in
theorem hdue_far {bs : List Nat} {S most : Nat} {s : List Tm} (now : Int) (w : World) (h : Hp w bs S most s) :
    Calls Try.prog 29 #[.pointer (some ⟨S, 0, none⟩), .int .i64 now] w (DueF w bs S most s now) := by
  have hs5 : s.length ≤ 5000 := by have := h.so; omega
  have hF : Calls Try.prog 37 #[.pointer (some ⟨S, 0, none⟩)] w fun e w' => ∃ a b : Int, e = .returned (.tuple #[.agg #[.int .i64 a, .int .i64 b], .bool (!s.isEmpty)]) ∧ Hid (Below w.heap.size w w' ∧ ∀ t r, s = t :: r → t = (a, b)) := by
    cases s with
    | nil => exact (hfirst_no w h).mono fun e w' ⟨x1, x2⟩ => ⟨0, 0, x1, Lib.hid ⟨x2, fun t r e => by cases e⟩⟩
    | cons t r => exact (hfirst_any w h).mono fun e w' ⟨x1, x2⟩ => ⟨t.1, t.2, x1, Lib.hid ⟨x2, fun t' r' e => by injection e with e1 _; rw [← e1]⟩⟩
  obtain ⟨ne, hne⟩ : ∃ ne, (!s.isEmpty) = ne := ⟨_, rfl⟩
  have HNE := Lib.hid hne
  rw [hne] at hF
  have hlt := h.lt
  have HH := Lib.hid (show Hp w bs S most s ∧ ∀ k ∈ bs, k < w.heap.size from ⟨h, hlt⟩)
  have HF := Lib.hid hF
  obtain ⟨G, hG⟩ : ∃ G, s.length = G := ⟨_, rfl⟩
  have HG := Lib.hid hG
  rw [hG] at hs5
  clear h hF hne hlt hG
  go_enter Try.func29, Try.ntmps29
  go_wp2_with fail
  refine HF.out.mono ?_
  rintro e w1 ⟨a, b, rfl, H1⟩
  have h0 : DueMid w bs S most s now (w1.alloc (.cells #[.int .i64 a, .int .i64 b] 89)) none 0 0 w1.heap.size a b [] s bs := by
    have hb : Below w.heap.size w (w1.alloc (.cells #[.int .i64 a, .int .i64 b] 89)) := H1.out.1.alloc H1.out.1.size _
    refine ⟨HH.out.1.later hb, Mut.of_below hb, Ext.refl _ _, World.ownsRow_nil _ _ _ _, fun g hg => by simp [Value.ownBlock] at hg, blk_new _ _ _, ⟨fun hm => ?_, by simp [Value.ownBlock], H1.out.1.size⟩, H1.out.2, rfl, by simp, rfl⟩
    have := HH.out.2 _ hm
    have := H1.out.1.size
    omega
  have H0 := Lib.hid h0
  clear h0 H1 HF
  go_wp2_with fail
  obtain ⟨p0, hp0⟩ : ∃ p0, w1.heap.size = p0 := ⟨_, rfl⟩
  rw [hp0] at H0 ⊢
  clear hp0
  go_loopg [5, 6, 7] G (fun gk vv pv iv wr => ∃ (A : Option Addr) (n cap p : Nat) (a b : Int) (out rest : List Tm) (bs' : List Nat) (ne : Bool), vv = .slice A n cap ∧ pv = .pointer (some ⟨p, 0, none⟩) ∧ iv = .bool ne ∧ n ≤ 5000 ∧ Hid ((!rest.isEmpty) = ne ∧ gk = rest.length ∧ n + gk = G ∧ G ≤ 5000) ∧ Hid (DueMid w bs S most s now wr A n cap p a b out rest bs'))
  case atStart => exact ⟨none, 0, 0, p0, a, b, [], s, bs, ne, rfl, rfl, rfl, by omega, Lib.hid ⟨HNE.out, HG.out.symm, by omega, hs5⟩, H0⟩
  case round =>
    clear H0 HNE HG
    obtain ⟨A, n, cap, p, a, b, out, rest, bs', ne', rfl, rfl, rfl, hn5, HE, HM⟩ := hrel
    have k0 := HM.out.blk.cell 0 rfl
    have k1 := HM.out.blk.cell 1 rfl
    have hcap := HM.out.cap
    cases rest with
    | nil =>
      have hne : ne' = false := HE.out.1.symm
      subst hne
      have hend := HM.out.stop (fun t r e => by cases e)
      have HX := Lib.hid hend
      clear hend HM HE
      go_wp2_with fail
      go_ret
      exact HX.out
    | cons t r =>
      have hne : ne' = true := HE.out.1.symm
      subst hne
      have ht := HM.out.first t r rfl
      by_cases hle : a ≤ now
      · have d1 : decide (a ≤ now) = true := by simp; omega
        have hnG := HE.out.2.2.1
        have hG1 := HE.out.2.2.2
        have hgk := HE.out.2.1
        simp only [List.length_cons] at hgk
        have hn4 : n < 5000 := by omega
        obtain ⟨nr, hnr⟩ : ∃ nr, wr.heap.size = nr := ⟨_, rfl⟩
        have HNR := Lib.hid hnr
        obtain ⟨i0, hi, hz0, hz1, hz2⟩ := info_parts info_api
        have hwle := HM.out.turn.size
        have HWL := Lib.hid hwle
        clear hle hnG hG1 hgk
        go_wp2_with (at_builtin; refine wpList_append_lies _ rfl (.tmp 25) (.tmp 27) 86 rfl w.heap.size 89 i0 (.agg #[.int .i64 0, .int .i64 0]) 2 16 Try.underlying86 hi hz0 hz1 hz2 rfl (by decide) (.slice A n cap) n (cl out) rfl (World.ownsRow.alloc (w := wr) HM.out.row _) ⟨nr, 0, none⟩ 1 1 [.int .i64 a, .int .i64 b] rfl rfl (pair_at wr nr hnr a b _) (by simp [Value.oneCell']) (by decide) (by unfold maxLen; omega) (by omega) (by rw [World.size_alloc]; omega) (nr + 1) (by rw [World.size_alloc, hnr]) ?_; intro g2 c2 w3 hown3 hgr3 hor3 hlt3)
        have hpp := HM.out.pop hgr3
        have hpop := hpop_any w3 hpp.1
        rw [ht] at hpop
        have HPOP := Lib.hid hpop
        have hblk3 : Blk w3 p #[.int .i64 a, .int .i64 b] 89 := HM.out.blk.mut hpp.2 (fun hm => by
          cases e : (Value.slice A n cap).ownBlock with
          | none => rw [e] at hm; simp at hm
          | some g =>
            rw [e] at hm
            simp at hm
            subst hm
            exact HM.out.pfar.2.1 e)
        have HB3 := Lib.hid hblk3
        have HOWN := Lib.hid hown3
        have HGR := Lib.hid hgr3
        have HOR := Lib.hid hor3
        have HLT := Lib.hid hlt3
        have HT := Lib.hid ht
        clear hpp hpop hblk3 hown3 hgr3 hor3 hlt3 ht hnr k0 k1 hi hz0 hz1 hz2 hwle
        go_wp2_with fail
        refine HPOP.out.mono ?_
        rintro e w4 ⟨rfl, bs4, hp4, hm4, hx4⟩
        obtain ⟨p2, hp2⟩ : ∃ p2, w4.heap.size = p2 := ⟨_, rfl⟩
        have hblk4 : Blk w4 p #[.int .i64 a, .int .i64 b] 89 := HB3.out.mut hm4 HM.out.pfar.1
        have k0 := hblk4.cell 0 rfl
        have k1 := hblk4.cell 1 rfl
        have hF : Calls Try.prog 37 #[.pointer (some ⟨S, 0, none⟩)] (w4.alloc (.cells #[.int .i64 a, .int .i64 b] 89)) fun e w' => ∃ a2 b2 : Int, e = .returned (.tuple #[.agg #[.int .i64 a2, .int .i64 b2], .bool (!r.isEmpty)]) ∧ Hid (Below (p2 + 1) (w4.alloc (.cells #[.int .i64 a, .int .i64 b] 89)) w' ∧ ∀ t' r', r = t' :: r' → t' = (a2, b2)) := by
          have hpa := hp4.later (box_below (.cells #[.int .i64 a, .int .i64 b] 89))
          have hsz : (w4.alloc (.cells #[.int .i64 a, .int .i64 b] 89)).heap.size = p2 + 1 := by rw [World.size_alloc, hp2]
          cases r with
          | nil => exact (hfirst_no _ hpa).mono fun e w' ⟨x1, x2⟩ => ⟨0, 0, x1, Lib.hid ⟨hsz ▸ x2, fun t r e => by cases e⟩⟩
          | cons t r => exact (hfirst_any _ hpa).mono fun e w' ⟨x1, x2⟩ => ⟨t.1, t.2, x1, Lib.hid ⟨hsz ▸ x2, fun t' r' e => by injection e with e1 _; rw [← e1]⟩⟩
        obtain ⟨ne2, hne2⟩ : ∃ ne2, (!r.isEmpty) = ne2 := ⟨_, rfl⟩
        rw [hne2] at hF
        have HN2 := Lib.hid hne2
        have HF := Lib.hid hF
        have H4 := Lib.hid (show Hp w4 bs4 S most r ∧ Mut bs' w3 w4 ∧ Ext w3 bs' bs4 ∧ w4.heap.size = p2 from ⟨hp4, hm4, hx4, hp2⟩)
        clear hF hne2 hp4 hm4 hx4 hblk4
        go_wp2_with fail
        refine HF.out.mono ?_
        rintro e w5 ⟨a2, b2, rfl, H5⟩
        have hb5 : Blk w5 p2 #[.int .i64 a, .int .i64 b] 89 := by
          have := blk_new w4 #[.int .i64 a, .int .i64 b] 89
          rw [hp2] at this
          exact this.same (H5.out.1.block _ (by omega))
        have y0 := hb5.cell 0 rfl
        have y1 := hb5.cell 1 rfl
        have f0 := hb5.free 0
        have f1 := hb5.free 1
        clear hp2 hb5 k0 k1
        have hnext := HM.out.next (by simpa using d1) HNR.out HGR.out HOWN.out HOR.out HLT.out H4.out.1 H4.out.2.1 H4.out.2.2.1 H4.out.2.2.2 H5.out.1 H5.out.2
        have HX := Lib.hid hnext
        clear hnext
        go_wp2_with fail
        go_roundg (gk - 1)
        case measure => have := HE.out.2.1; simp at this; omega
        case rel => exact ⟨some ⟨g2, 0, none⟩, n + 1, c2, p2, a2, b2, out ++ [t], r, bs4, ne2, rfl, rfl, rfl, by omega, Lib.hid ⟨HN2.out, by have := HE.out.2.1; simp at this; omega, by have := HE.out; simp at this; omega, HE.out.2.2.2⟩, HX⟩
      · have hnl : now < a := by omega
        have d1 : decide (a ≤ now) = false := by simp; omega
        have hend := HM.out.stop (fun t' r' e => by injection e with e1 _; rw [← e1, ht]; exact hnl)
        have HX := Lib.hid hend
        clear hend HM HE ht hnl hle
        go_wp2_with fail
        go_ret
        exact HX.out
def DueE (w : World) (bs : List Nat) (S most : Nat) (s : List Tm) (now : Int) (e : Ending) (w' : World) : Prop :=
  ∃ A bs', e = .returned (.slice A (dueOf now s).length (dueOf now s).length) ∧ Tms w'.heap.size w' A (dueOf now s) ∧ Hp w' bs' S most (lateOf now s) ∧ Mut bs w w' ∧ Ext w bs bs'
theorem hdue_any {bs : List Nat} {S most : Nat} {s : List Tm} (now : Int) (w : World) (h : Hp w bs S most s) :
    Calls Try.prog 29 #[.pointer (some ⟨S, 0, none⟩), .int .i64 now] w (DueE w bs S most s now) :=
  (hdue_far now w h).mono fun _ _ ⟨A, bs', h1, h2, _, h3⟩ => ⟨A, bs', h1, h2, h3⟩
end Go.Proofs.Ythpcnnkdpgjiiaa
