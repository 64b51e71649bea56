/-
  The document's own Due of timers.
-/
import Derived.Test.YtlbopajnnbnolaaHpRefPop
namespace Go.Proofs.Ytlbopajnnbnolaa
open Go.RowKit Go.Maps Go.Proofs.HeapMath

structure RdMid (w : World) (most : Nat) (bs : List Nat) (s : List Tm) (now : Int) (n0 : Nat) (wr : World) (A : Option Addr) (n cap : Nat) (A2 : Option Addr) (n2 cap2 : Nat) (out rest : List Tm) : Prop where
  below : Below n0 w wr
  h : Blk wr n0 #[.slice A n cap, .int .i64 (most : Int)] 40
  res : Blk wr (n0 + 1) #[.slice none 0 0, .int .i64 0] 40
  dc : Dc wr A n cap rest (n0 :: (n0 + 1) :: ((Value.slice A2 n2 cap2).ownBlock.toList ++ bs))
  row : wr.ownsRow (n0 + 2) 31 2 (.slice A2 n2 cap2) n2 (cl out)
  all : out ++ rest = s
  due : ∀ t ∈ out, t.1 ≤ now
  len : out.length = n2
  nn : Nn rest
def RefDueE (w : World) (most : Nat) (bs : List Nat) (s : List Tm) (now : Int) (e : Ending) (w' : World) : Prop :=
  ∃ A n cap A2 n2 cap2, e = .returned (.tuple #[.agg #[.slice A n cap, .int .i64 (most : Int)], .slice A2 n2 cap2]) ∧ Hid (Below w.heap.size w w' ∧ Dc w' A n cap (lateOf now s) bs ∧ Dc w' A2 n2 cap2 (dueOf now s) bs)

theorem RdMid.step1 {w : World} {most : Nat} {bs : List Nat} {s : List Tm} {now : Int} {n0 : Nat} {wr w4 : World} {A A' : Option Addr} {n cap n' cap' : Nat} {A2 : Option Addr} {n2 cap2 : Nat} {out r : List Tm} {ta tb : Int} (h : RdMid w most bs s now n0 wr A n cap A2 n2 cap2 out ((ta, tb) :: r))
    (hb : Below wr.heap.size wr w4) (hd : Dc w4 A' n' cap' r (n0 :: (n0 + 1) :: ((Value.slice A2 n2 cap2).ownBlock.toList ++ bs))) :
    RdMid w most bs (out ++ r) now n0 ((((w4.setCell ⟨n0, 0, none⟩ (.slice A' n' cap')).setCell ⟨n0, 1, none⟩ (.int .i64 (most : Int))).alloc (.cells #[.slice A' n' cap', .int .i64 (most : Int)] 40)).alloc (.cells #[.int .i64 ta, .int .i64 tb] 31)) A' n' cap' A2 n2 cap2 out r ∧ ((((w4.setCell ⟨n0, 0, none⟩ (.slice A' n' cap')).setCell ⟨n0, 1, none⟩ (.int .i64 (most : Int))).alloc (.cells #[.slice A' n' cap', .int .i64 (most : Int)] 40)).alloc (.cells #[.int .i64 ta, .int .i64 tb] 31)).heap.size = w4.heap.size + 2 ∧ n0 + 2 ≤ w4.heap.size := by
  have hs := hb.size
  have h0 := h.h.lt
  have h1 := h.res.lt
  have hb4 : Below n0 w w4 := h.below.trans (hb.mono (by omega))
  have hm : Mut (n0 :: (n0 + 1) :: ((Value.slice A2 n2 cap2).ownBlock.toList ++ bs)) w4 ((w4.setCell ⟨n0, 0, none⟩ (.slice A' n' cap')).setCell ⟨n0, 1, none⟩ (.int .i64 (most : Int))) := ((Mut.refl _ _).setCell (by simp) _).setCell (by simp) _
  have hk : Blk ((w4.setCell ⟨n0, 0, none⟩ (.slice A' n' cap')).setCell ⟨n0, 1, none⟩ (.int .i64 (most : Int))) n0 #[.slice A' n' cap', .int .i64 (most : Int)] 40 := ((h.h.same (hb.block _ h0)).set 0 _).set 1 _
  have hr : Blk ((w4.setCell ⟨n0, 0, none⟩ (.slice A' n' cap')).setCell ⟨n0, 1, none⟩ (.int .i64 (most : Int))) (n0 + 1) #[.slice none 0 0, .int .i64 0] 40 := ((h.res.same (hb.block _ h1)).same (Below.heap_setCell _ _ _ _ (by simp))).same (Below.heap_setCell _ _ _ _ (by simp))
  have hrow : ((w4.setCell ⟨n0, 0, none⟩ (.slice A' n' cap')).setCell ⟨n0, 1, none⟩ (.int .i64 (most : Int))).ownsRow (n0 + 2) 31 2 (.slice A2 n2 cap2) n2 (cl out) := row_same h.row fun g hg => by
    obtain ⟨g1, g2⟩ := h.row.lt g hg
    rw [Below.heap_setCell _ _ _ _ (by simp; omega), Below.heap_setCell _ _ _ _ (by simp; omega)]
    exact hb.block _ g2
  have hbb : Below n0 w ((w4.setCell ⟨n0, 0, none⟩ (.slice A' n' cap')).setCell ⟨n0, 1, none⟩ (.int .i64 (most : Int))) := (hb4.setCell (by simp) _).setCell (by simp) _
  have hsz : ((w4.setCell ⟨n0, 0, none⟩ (.slice A' n' cap')).setCell ⟨n0, 1, none⟩ (.int .i64 (most : Int))).heap.size = w4.heap.size := by simp
  refine ⟨⟨(hbb.alloc (by rw [hsz]; omega) _).alloc (by rw [World.size_alloc, hsz]; omega) _, (hk.later (box_below _)).later (box_below _), (hr.later (box_below _)).later (box_below _), ((hd.mut hm (Ext.refl _ _)).later (box_below _)).later (box_below _), (hrow.alloc _).alloc _, rfl, h.due, h.len, ?_⟩, by rw [World.size_alloc, World.size_alloc, hsz], by omega⟩
  exact (List.pairwise_cons.1 h.nn).2
theorem RdMid.step2 {w : World} {most : Nat} {bs : List Nat} {s : List Tm} {now : Int} {n0 : Nat} {w5 w6 : World} {A : Option Addr} {n cap : Nat} {A2 A8 : Option Addr} {n2 cap2 cap8 : Nat} {out r : List Tm} {ta tb : Int} {o : Obj} (h : RdMid w most bs (out ++ r) now n0 w5 A n cap A2 n2 cap2 out r) (hle : ta ≤ now) (hs : out ++ (ta, tb) :: r = s) (h2 : n0 + 2 ≤ w5.heap.size)
    (hg : (w5.alloc o).grownBy w6 (Value.slice A2 n2 cap2).ownBlock) (ho : w6.ownsRow (n0 + 2) 31 2 (.slice A8 (n2 + 1) cap8) (n2 + 1) (cl (out ++ [(ta, tb)]))) (hl : ∀ g, (Value.slice A8 (n2 + 1) cap8).ownBlock = some g → (Value.slice A2 n2 cap2).ownBlock = some g ∨ (w5.alloc o).heap.size ≤ g) :
    RdMid w most bs s now n0 w6 A n cap A8 (n2 + 1) cap8 (out ++ [(ta, tb)]) r := by
  have hm : Mut (n0 :: (n0 + 1) :: ((Value.slice A2 n2 cap2).ownBlock.toList ++ bs)) w5 w6 := ⟨hg.os, hg.tape, hg.output, by have := hg.size; rw [World.size_alloc] at this; omega, fun k hk hn => (hg.block k (by rw [World.size_alloc]; omega) (fun e => hn (by simp [← e]))).trans (Below.heap_alloc _ _ _ hk)⟩
  have own : ∀ g, (Value.slice A2 n2 cap2).ownBlock = some g → n0 + 2 ≤ g := fun g e => (h.row.lt g e).1
  have hx : Ext w5 (n0 :: (n0 + 1) :: ((Value.slice A2 n2 cap2).ownBlock.toList ++ bs)) (n0 :: (n0 + 1) :: ((Value.slice A8 (n2 + 1) cap8).ownBlock.toList ++ bs)) := fun k hk => by
    rcases List.mem_cons.1 hk with rfl | hk
    · exact .inl (by simp)
    · rcases List.mem_cons.1 hk with rfl | hk
      · exact .inl (by simp)
      · rcases List.mem_append.1 hk with hk | hk
        · rcases hl k (by simpa using hk) with e | e
          · exact .inl (by simp [e])
          · rw [World.size_alloc] at e; exact .inr (by omega)
        · exact .inl (by simp [hk])
  have blk : ∀ k, k < n0 + 2 → w6.heap[k]? = w5.heap[k]? := fun k hk => (hg.block k (by rw [World.size_alloc]; omega) (fun e => by have := own k e.symm; omega)).trans (Below.heap_alloc _ _ _ (by omega))
  refine ⟨?_, h.h.same (blk _ (by omega)), h.res.same (blk _ (by omega)), h.dc.mut hm hx, ho, by rw [← hs]; simp, fun x hx => ?_, by simp [h.len], h.nn⟩
  · exact (h.below.alloc (by omega) o).trans ⟨hg.os, hg.tape, hg.output, hg.size, fun k hk => hg.block k (by rw [World.size_alloc]; omega) (fun e => by have := own k e.symm; omega)⟩
  · rcases List.mem_append.1 hx with e | e
    · exact h.due x e
    · rw [List.mem_singleton.1 e]; exact hle
theorem RdMid.stop {w : World} {most : Nat} {bs : List Nat} {s : List Tm} {now : Int} {n0 : Nat} {wr : World} {A : Option Addr} {n cap : Nat} {A2 : Option Addr} {n2 cap2 : Nat} {out rest : List Tm} (h : RdMid w most bs s now n0 wr A n cap A2 n2 cap2 out rest) (hn0 : w.heap.size = n0) (h5 : n2 ≤ 5000) (hbs : ∀ k ∈ bs, k < w.heap.size) (hr : ∀ t r, rest = t :: r → now < t.1) :
    RefDueE w most bs s now (.returned (.tuple #[.agg #[.slice A n cap, .int .i64 (most : Int)], .slice A2 n2 cap2])) ((wr.setCell ⟨n0 + 1, 0, none⟩ (.slice A n cap)).setCell ⟨n0 + 1, 1, none⟩ (.int .i64 (most : Int))) ∧
    ((wr.setCell ⟨n0 + 1, 0, none⟩ (.slice A n cap)).setCell ⟨n0 + 1, 1, none⟩ (.int .i64 (most : Int))).cell? ⟨n0 + 1, 0, none⟩ = some (.slice A n cap) ∧ ((wr.setCell ⟨n0 + 1, 0, none⟩ (.slice A n cap)).setCell ⟨n0 + 1, 1, none⟩ (.int .i64 (most : Int))).cell? ⟨n0 + 1, 1, none⟩ = some (.int .i64 (most : Int)) := by
  obtain ⟨e1, e2⟩ := due_split h.all h.due hr
  have hk := (h.res.set 0 (.slice A n cap)).set 1 (.int .i64 (most : Int))
  have hm : Mut (n0 :: (n0 + 1) :: ((Value.slice A2 n2 cap2).ownBlock.toList ++ bs)) wr ((wr.setCell ⟨n0 + 1, 0, none⟩ (.slice A n cap)).setCell ⟨n0 + 1, 1, none⟩ (.int .i64 (most : Int))) := ((Mut.refl _ _).setCell (by simp) _).setCell (by simp) _
  refine ⟨⟨A, n, cap, A2, n2, cap2, rfl, Lib.hid ⟨hn0 ▸ (h.below.setCell (by simp; omega) _).setCell (by simp; omega) _, ?_, ?_⟩⟩, hk.cell 0 rfl, hk.cell 1 rfl⟩
  · rw [← e2]
    exact (h.dc.mut hm (Ext.refl _ _)).mut (Mut.refl _ _) (fun k hk => .inl (by simp [hk]))
  · rw [← e1]
    refine row_dc (row_same h.row fun g hg => ?_) h.len h5 (fun k hk => by have := hbs k hk; omega)
    have := (h.row.lt g hg).1
    rw [Below.heap_setCell _ _ _ _ (by simp; omega), Below.heap_setCell _ _ _ _ (by simp; omega)]

set_option maxRecDepth 100000 in
set_option maxHeartbeats 4000000 in
theorem refDue_any {A : Option Addr} {n cap most : Nat} {s : List Tm} {bs : List Nat} (now : Int) (w : World) (h : Dc w A n cap s bs) (hn : Nn s) (hbs : ∀ k ∈ bs, k < w.heap.size) :
    Calls Try.prog 19 #[.agg #[.slice A n cap, .int .i64 (most : Int)], .int .i64 now] w (RefDueE w most bs s now) := by
  obtain ⟨n0, hn0⟩ : ∃ n0, w.heap.size = n0 := ⟨_, rfl⟩
  have h5 := h.five
  have hsl : s.length ≤ 5000 := by have := h.len; omega
  have hB : Below n0 w ((w.alloc (.cells #[.slice A n cap, .int .i64 (most : Int)] 40)).alloc (.cells #[.slice none 0 0, .int .i64 0] 40)) := by
    rw [← hn0]
    exact (box_below _).alloc (by simp) _
  have hk0 := blk_new w #[.slice A n cap, .int .i64 (most : Int)] 40
  have hk2 := blk_new (w.alloc (.cells #[.slice A n cap, .int .i64 (most : Int)] 40)) #[.slice none 0 0, .int .i64 0] 40
  simp only [World.size_alloc, hn0] at hk0 hk2
  have hk0' := hk0.later (box_below (.cells #[.slice none 0 0, .int .i64 0] 40))
  have hx : Ext w bs (n0 :: (n0 + 1) :: ((Value.slice none 0 0).ownBlock.toList ++ bs)) := fun k hk => by
    rcases List.mem_cons.1 hk with rfl | hk
    · exact .inr (by omega)
    · rcases List.mem_cons.1 hk with rfl | hk
      · exact .inr (by omega)
      · simp [Value.ownBlock] at hk; exact .inl hk
  have h0 : RdMid w most bs s now n0 ((w.alloc (.cells #[.slice A n cap, .int .i64 (most : Int)] 40)).alloc (.cells #[.slice none 0 0, .int .i64 0] 40)) A n cap none 0 0 [] s :=
    ⟨hB, hk0', hk2, (h.mut (Mut.refl _ _) hx).later (hn0 ▸ hB), World.ownsRow_nil _ _ _ _, rfl, by simp, rfl, hn⟩
  have H0 := Lib.hid h0
  have HBS := Lib.hid hbs
  have HN0 := Lib.hid hn0
  obtain ⟨G, hG⟩ : ∃ G, s.length = G := ⟨_, rfl⟩
  have HG := Lib.hid hG
  rw [hG] at hsl
  clear hB hk0 hk2 hk0' hx h0 h hn hbs hG
  go_enter Try.func19, Try.ntmps19
  go_wp2_with fail
  clear hn0
  go_loopg [6] G (fun gk ov wr => ∃ (A : Option Addr) (n cap : Nat) (A2 : Option Addr) (n2 cap2 : Nat) (out rest : List Tm), ov = .slice A2 n2 cap2 ∧ Hid (gk = rest.length ∧ n2 + gk = G) ∧ Hid (RdMid w most bs s now n0 wr A n cap A2 n2 cap2 out rest))
  case atStart => exact ⟨A, n, cap, none, 0, 0, [], s, rfl, Lib.hid ⟨HG.out.symm, by omega⟩, H0⟩
  case round =>
    clear H0 HG
    obtain ⟨A, n, cap, A2, n2, cap2, out, rest, rfl, HE, HM⟩ := hrel
    have k0 := HM.out.h.cell 0 rfl
    have k1 := HM.out.h.cell 1 rfl
    have hl := HM.out.dc.len
    have hfive := HM.out.dc.five
    cases rest with
    | nil =>
      obtain rfl : n = 0 := by simpa using hl.symm
      clear hl hfive
      have hgk := HE.out.2
      have hn2 : n2 ≤ 5000 := by omega
      have hx := HM.out.stop HN0.out hn2 HBS.out (fun t r e => by cases e)
      have HX := Lib.hid hx
      have r0 := HM.out.res.cell 0 rfl
      have r1 := HM.out.res.cell 1 rfl
      have f0 := HM.out.res.free 0
      have f1 := HM.out.res.free 1
      clear hx HM HE hgk
      go_wp2_with fail
      have z0 := HX.out.2.1
      have z1 := HX.out.2.2
      exact bodyPost_ret (v := .tuple #[.agg #[.slice A 0 cap, .int .i64 (most : Int)], .slice A2 n2 cap2]) (by simp [results, Try.results19, go_sem, z0, z1]) rfl HX.out.1
    | cons t r =>
      obtain ⟨g, rfl, hg, hgb, hc⟩ := HM.out.dc.cells (by simp at hl; omega)
      obtain ⟨c0, _⟩ := hc 0 (by simp at hl; omega)
      obtain ⟨ta, tb⟩ := t
      have c0' : wr.cell? ⟨g, 0, none⟩ = some (.int .i64 ta) := c0
      have hn1 : 0 < n := by simp at hl; omega
      have dn : decide (0 < n) = true := by simp; omega
      have dn2 : decide ((0 : Int) < (n : Int)) = true := by simp; omega
      by_cases hle : ta ≤ now
      · have d1 : decide (ta ≤ now) = true := by simp; omega
        have hbs2 : ∀ k ∈ n0 :: (n0 + 1) :: ((Value.slice A2 n2 cap2).ownBlock.toList ++ bs), k < wr.heap.size := fun k hk => by
          rcases List.mem_cons.1 hk with rfl | hk
          · exact HM.out.h.lt
          · rcases List.mem_cons.1 hk with rfl | hk
            · exact HM.out.res.lt
            · rcases List.mem_append.1 hk with hk | hk
              · exact (HM.out.row.lt k (by simpa using hk)).2
              · have := HBS.out k hk; have := HM.out.below.size; have := HN0.out; omega
        have hP : Calls Try.prog 28 #[.agg #[.slice (some ⟨g, 0, none⟩) n cap, .int .i64 (most : Int)]] wr fun e w' => ∃ A' n' cap', e = .returned (.tuple #[.agg #[.slice A' n' cap', .int .i64 (most : Int)], .agg #[.int .i64 ta, .int .i64 tb], .bool true]) ∧ Hid (Below wr.heap.size wr w' ∧ Dc w' A' n' cap' r (n0 :: (n0 + 1) :: ((Value.slice A2 n2 cap2).ownBlock.toList ++ bs))) :=
          (refPop_any (most := most) wr HM.out.dc HM.out.nn hbs2).mono fun e w' ⟨A', n', cap', x1, x2⟩ => ⟨A', n', cap', x1, x2⟩
        have HP := Lib.hid hP
        clear hP hbs2 hc c0 hl hgb
        go_wp2_with fail
        refine HP.out.mono ?_
        rintro e w4 ⟨A', n', cap', rfl, H4⟩
        have hk4 := HM.out.h.same (H4.out.1.block _ HM.out.h.lt)
        have r0 := hk4.cell 0 rfl
        have r1 := hk4.cell 1 rfl
        have f0 := hk4.free 0
        have f1 := hk4.free 1
        have hn0l := hk4.lt
        obtain ⟨h5a, h5b, h5c⟩ := HM.out.step1 H4.out.1 H4.out.2
        obtain ⟨n4, hn4⟩ : ∃ n4, w4.heap.size = n4 := ⟨_, rfl⟩
        rw [hn4] at hn0l h5b h5c
        have H5 := Lib.hid h5a
        have H5B := Lib.hid h5b
        have hall := HM.out.all
        have HALL := Lib.hid hall
        have hgk := HE.out.2
        have hgk1 : gk = r.length + 1 := by have := HE.out.1; simpa using this
        have HGK := Lib.hid hgk1
        have hn25 : n2 + 1 ≤ 5000 := by omega
        clear hk4 k0 k1 h5a h5b hall HM HP H4 hgk hgk1
        go_wp2_with (at_builtin; refine app_tms rfl (.tmp 30) (.tmp 32) rfl (n0 + 2) A2 (some ⟨n4 + 1 + 1, 0, none⟩) n2 cap2 1 1 (n2 + 1) rfl out [(ta, tb)] rfl (H5.out.row.alloc _) rfl (rd_one _ (n4 + 1 + 1) H5B.out ta tb) (fun h => by cases h) (by omega) (by rw [World.size_alloc, H5B.out]; omega) ?_; intro A8 cap8 w6 hown6 hgr6 hl6; have h6 := H5.out.step2 hle HALL.out (by rw [H5B.out]; omega) hgr6 hown6 hl6; have H6 := Lib.hid h6; clear hown6 hgr6 hl6 h6)
        go_roundg (gk - 1)
        case measure => have := HGK.out; omega
        case rel => exact ⟨A', n', cap', A8, n2 + 1, cap8, out ++ [(ta, tb)], r, rfl, Lib.hid ⟨by have := HGK.out; omega, by have := HGK.out; have := HE.out.2; omega⟩, H6⟩
      · have hnl : now < ta := by omega
        have d1 : decide (ta ≤ now) = false := by simp; omega
        clear hc c0 hl hgb
        have hgk := HE.out.2
        have hn2 : n2 ≤ 5000 := by omega
        have hx := HM.out.stop HN0.out hn2 HBS.out (fun t r e => by injection e with e1 _; rw [← e1]; exact hnl)
        have HX := Lib.hid hx
        have r0 := HM.out.res.cell 0 rfl
        have r1 := HM.out.res.cell 1 rfl
        have f0 := HM.out.res.free 0
        have f1 := HM.out.res.free 1
        clear hx HM HE hgk hnl hle
        go_wp2_with fail
        have z0 := HX.out.2.1
        have z1 := HX.out.2.2
        exact bodyPost_ret (v := .tuple #[.agg #[.slice (some ⟨g, 0, none⟩) n cap, .int .i64 (most : Int)], .slice A2 n2 cap2]) (by simp [results, Try.results19, go_sem, z0, z1]) rfl HX.out.1
end Go.Proofs.Ytlbopajnnbnolaa
