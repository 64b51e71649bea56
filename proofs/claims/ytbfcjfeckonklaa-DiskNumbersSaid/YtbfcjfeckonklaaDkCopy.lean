/-
  What a disk's Copy makes: another one, in blocks of its own, that is the same.
-/
import Derived.Test.YtbfcjfeckonklaaDkCrashW
namespace Go.Proofs.Ytbfcjfeckonklaa
open Go.RowKit Go.Maps Go.Proofs.DiskMath

theorem make_map (n : Nat) (W : World) : (Instr.makeMap 59 (some (.int .i64 (n : Int)))).run Try.prog W = .ok (.map (some W.heap.size)) (W.alloc (.map #[] 0)) := by
  unfold Instr.makeMap
  simp [run_underlying Try.underlying59, asInt, asIntOf]
/-- Files that are one row's, in another order. -/
theorem sorted_of {α β : Type} {h : α → β} {s : List β} : ∀ {G : List α}, (G.map h).Perm s → ∃ F : List α, F.Perm G ∧ F.map h = s := by
  induction s with
  | nil =>
    intro G hp
    have : G.map h = [] := List.perm_nil.1 hp
    have : G = [] := List.map_eq_nil_iff.1 this
    subst this
    exact ⟨[], List.Perm.refl _, rfl⟩
  | cons b s ih =>
    intro G hp
    have hb : b ∈ G.map h := hp.mem_iff.2 (by simp)
    obtain ⟨y, hy, rfl⟩ := List.mem_map.1 hb
    obtain ⟨G1, G2, rfl⟩ := List.append_of_mem hy
    have hp2 : ((G1 ++ G2).map h).Perm s := by
      have h1 : (h y :: (G1 ++ G2).map h).Perm ((G1 ++ y :: G2).map h) := by
        simp only [List.map_append, List.map_cons]
        exact List.perm_middle.symm
      exact (h1.trans hp).cons_inv
    obtain ⟨F, h1, h2⟩ := ih hp2
    exact ⟨y :: F, (h1.cons y).trans List.perm_middle.symm, by simp [h2]⟩
/-- The copy on its way: the files that have been copied, in the order in which they came. -/
structure Cp (n0 : Nat) (w W : World) (F : List Fe) (D : DataW Unit) (left : Lit → Bool) (G : List Fe) : Prop where
  below : Below n0 w W
  out : Am W 3 ptrElem n0 (fE G)
  coll : Coll D left (G.map fun y => (y.f.no : Int))
  each : ∀ y ∈ G, Fok W y
  own : ∀ y ∈ G, ∀ k ∈ y.own, n0 + 2 ≤ k
  nd : (G.flatMap Fe.own).Nodup
  sub : ∀ y ∈ G, ∃ x ∈ F, x.f = y.f
theorem Cp.step {n0 : Nat} {w W W' : World} {F : List Fe} {D : DataW Unit} {left : Lit → Bool} {G : List Fe} (h : Cp n0 w W F D left G) (hn : n0 + 2 ≤ W.heap.size) (hm : Mut [n0, n0 + 1] W W') (y : Fe) (hl : left (kl (y.f.no : Int)) = true) (hy : Fok W' y) (ho : ∀ k ∈ y.own, W.heap.size ≤ k) (ha : Am W' 3 ptrElem n0 (fE G ++ [(kl (y.f.no : Int), .pointer (some ⟨y.p, 0, none⟩))])) (hs : ∃ x ∈ F, x.f = y.f) :
    Cp n0 w W' F D (fun z => left z && !z.sameKey (kl (y.f.no : Int))) (G ++ [y]) := by
  have hap := hy.apart
  refine ⟨h.below.trans (hm.below (by omega) (by simp)), by rw [fE_append]; exact ha, by rw [List.map_append]; exact h.coll.step hl, fun z hz => ?_, fun z hz k hk => ?_, ?_, fun z hz => ?_⟩
  · rcases List.mem_append.1 hz with e | e
    · exact (h.each z e).mut hm fun k hk hc => by
        have := h.own z e k hk
        simp at hc
        omega
    · rw [List.mem_singleton.1 e]; exact hy
  · rcases List.mem_append.1 hz with e | e
    · exact h.own z e k hk
    · rw [List.mem_singleton.1 e] at hk
      have := ho k hk; omega
  · rw [List.flatMap_append]
    refine List.nodup_append.2 ⟨h.nd, ?_, fun a hA b hB e => ?_⟩
    · simp only [List.flatMap_cons, List.flatMap_nil, List.append_nil]
      unfold Fe.own
      rw [List.nodup_cons]
      refine ⟨fun hm => ?_, by cases y.v.ownBlock <;> simp⟩
      exact hap y.p (by simpa using hm) rfl
    · obtain ⟨z, hz, hk⟩ := List.mem_flatMap.1 hA
      have h1 := (h.each z hz).lt a hk
      have h2 := ho b (by simpa using hB)
      omega
  · rcases List.mem_append.1 hz with e | e
    · exact h.sub z e
    · rw [List.mem_singleton.1 e]; exact hs
/-- All of it. -/
theorem Cp.done {n0 : Nat} {w W : World} {S M : Nat} {F : List Fe} {s : List Fi} {D : DataW Unit} {left : Lit → Bool} {G : List Fe} (h : Cp n0 w W F D left G) (hl : ∀ k, left k = false) (hD : As ptrElem D (fE F)) (hk : Dk w S M F s) (hn0 : w.heap.size = n0) (hn : n0 + 2 ≤ W.heap.size) :
    ∃ bs2, Dd (W.alloc (.cells #[.map (some n0)] 61)) bs2 W.heap.size s ∧ Below w.heap.size w (W.alloc (.cells #[.map (some n0)] 61)) ∧ ∀ k ∈ bs2, w.heap.size ≤ k := by
  have hp := h.coll.perm (W := w) (M := 0) hl hD hk.fl hk.iv (.inr trivial)
  have hins : ∀ a b, a ∈ s → b ∈ s → a.no = b.no → a = b := fun a b ha hb e => by
    have h1 := seek_mem hk.iv ha
    have h2 := seek_mem hk.iv hb
    rw [e, h2] at h1
    injection h1 with h1
    exact h1.symm
  have hGs : ∀ y ∈ G, y.f ∈ s := fun y hy => by
    obtain ⟨x, hx, e⟩ := h.sub y hy
    rw [← e, ← hk.fl]
    exact List.mem_map.2 ⟨x, hx, rfl⟩
  have hp2 : (G.map (·.f)).Perm s := by
    have n1 : (G.map (·.f)).Nodup := by
      have h1 := h.coll.nd
      rw [List.nodup_iff_pairwise_ne, List.pairwise_map] at h1 ⊢
      exact h1.imp fun {a b} hne e => hne (by rw [e])
    have n2 : s.Nodup := by
      rw [List.nodup_iff_pairwise_ne]
      exact hk.iv.rise.imp fun {a b} hlt e => by rw [e] at hlt; omega
    rw [List.perm_ext_iff_of_nodup n1 n2]
    intro f
    constructor
    · intro hf
      obtain ⟨y, hy, rfl⟩ := List.mem_map.1 hf
      exact hGs y hy
    · intro hf
      have h1 : (f.no : Int) ∈ G.map (fun y => (y.f.no : Int)) := hp.mem_iff.2 (List.mem_map.2 ⟨f, hf, rfl⟩)
      obtain ⟨y, hy, e⟩ := List.mem_map.1 h1
      exact List.mem_map.2 ⟨y, hy, hins _ _ (hGs y hy) hf (by omega)⟩
  obtain ⟨F2, q1, q2⟩ := sorted_of hp2
  have hal : Below W.heap.size W (W.alloc (.cells #[.map (some n0)] 61)) := box_below _
  have hperm : (fE G).Perm (fE F2) := by unfold fE; exact q1.symm.map _
  obtain ⟨D2, k1, k2⟩ := h.out
  have hlt : n0 < W.heap.size := by omega
  refine ⟨core W.heap.size n0 F2, ⟨n0, F2, ⟨blk_new W _ _, (Am.of k1 (k2.perm hperm)).same (hal.block _ hlt), fun y hy => ?_, q2, ?_, hk.iv⟩, rfl⟩, ?_, fun k hk2 => ?_⟩
  · exact (h.each y (q1.mem_iff.1 hy)).mut (Mut.of_below hal (bs := [])) (by simp)
  · unfold core
    have hfp : (F2.flatMap Fe.own).Perm (G.flatMap Fe.own) := q1.flatMap_right _
    have hmem : ∀ k ∈ F2.flatMap Fe.own, n0 + 2 ≤ k ∧ k < W.heap.size := fun k hk => by
      obtain ⟨y, hy, hk⟩ := List.mem_flatMap.1 hk
      have hy' := q1.mem_iff.1 hy
      exact ⟨h.own y hy' k hk, (h.each y hy').lt k hk⟩
    refine List.nodup_cons.2 ⟨fun hm => ?_, List.nodup_cons.2 ⟨fun hm => ?_, hfp.nodup_iff.2 h.nd⟩⟩
    · rcases List.mem_cons.1 hm with e | e
      · omega
      · have := (hmem _ e).2; omega
    · have := (hmem _ hm).1; omega
  · rw [hn0]; exact h.below.trans (hal.mono (by omega))
  · simp only [core, List.mem_cons, List.mem_flatMap] at hk2
    rcases hk2 with e | e | ⟨y, hy, hk⟩
    · omega
    · omega
    · have := h.own y (q1.mem_iff.1 hy) k hk; omega

set_option linter.unusedSimpArgs false in
set_option maxRecDepth 100000 in
set_option maxHeartbeats 2000000 in
theorem copy_any {bs : List Nat} {S : Nat} {s : List Fi} (w : World) (h : Dd w bs S s) (N : Nat) (hN : Bd N s) (hN2 : N ≤ 100000) :
    Calls Try.prog 22 #[.pointer (some ⟨S, 0, none⟩)] w fun e w' => ∃ S2 bs2, e = .returned (.pointer (some ⟨S2, 0, none⟩)) ∧ Dd w' bs2 S2 s ∧ Below w.heap.size w w' ∧ ∀ k ∈ bs2, w.heap.size ≤ k := by
  obtain ⟨M, F, hk, hbs⟩ := h
  have c0 : w.cell? ⟨S, 0, none⟩ = some (.map (some M)) := hk.blk.cell 0 rfl
  obtain ⟨D, hown, hD⟩ := hk.map
  have hMlt := hown.lt
  have hSlt := hk.blk.lt
  have hFn : F.length ≤ 100000 := by have := hN.1; rw [← hk.fl, List.length_map] at this; omega
  obtain ⟨n, hnn⟩ : ∃ n, F.length = n := ⟨_, rfl⟩
  have hsize : Maps.size D = n := by rw [hD.size]; simp [fE, hnn]
  have hn1 : n ≤ 100000 := by omega
  have hmm := fun W => make_map n W
  obtain ⟨n0, hn0⟩ : ∃ n0, w.heap.size = n0 := ⟨_, rfl⟩
  have hb1 : Below w.heap.size w (w.alloc (.map #[] 0)) := box_below _
  have c0' : (w.alloc (.map #[] 0)).cell? ⟨S, 0, none⟩ = some (.map (some M)) := (hk.blk.later hb1).cell 0 rfl
  have HO := Lib.hid (show w.ownsMap Try.prog 3 ptrElem M (fE F).length D ∧ (w.alloc (.map #[] 0)).ownsMap Try.prog 3 ptrElem M (fE F).length D from ⟨hown, hown.alloc _⟩)
  have HD := Lib.hid (show As ptrElem D (fE F) ∧ Maps.size D = n from ⟨hD, hsize⟩)
  have HK := Lib.hid hk
  have HN := Lib.hid (show ∀ f ∈ s, f.bs.length ≤ N from hN.2)
  have HM0 := Lib.hid (Am.made w 3 ptrElem)
  have HB1 := Lib.hid hb1
  have HL := Lib.hid (show M < w.heap.size ∧ S < w.heap.size from ⟨hMlt, hSlt⟩)
  have e1 : (w.alloc (.map #[] 0)).heap.size = n0 + 1 := by rw [World.size_alloc, hn0]
  have HE1 := Lib.hid e1
  rw [hn0] at HM0
  clear hk hbs hown hD hN hMlt hSlt hsize hFn hb1 hnn e1
  go_enter Try.func22, Try.ntmps22
  go_wp2_with (first
    | (at_len; refine wpList_len_own _ rfl _ 59 rfl 3 62 Try.underlying59 _ M _ D rfl HO.out.1 ?_; rw [HD.out.2])
    | (at_range; refine wpList_range_own _ rfl _ 59 rfl 3 62 law_int Try.underlying59 _ M _ _ rfl HO.out.2 ?_; intro w0 hrg0 hg0 hs0)
    | fail)
  go_frame
  rw [HE1.out] at hrg0 hs0 ⊢
  have HG0 := Lib.hid (And.intro hg0 hs0)
  have HR0 := Lib.hid hrg0
  clear hrg0 hg0 hs0 hmm
  go_loopw [4] (fun _ wr => ∃ (left : Lit → Bool) (cnt : Nat) (G : List Fe), Hid (wr.ranges Try.prog 3 ptrElem M (n0 + 1) (fE F).length D left cnt) ∧ Hid (G.length + cnt ≤ n) ∧ Hid (Cp n0 w wr F D left G) ∧ Hid (n0 + 2 ≤ wr.heap.size))
    (fun _ wr => wr.rangeLeft M (n0 + 1))
  case atStart =>
    refine ⟨_, _, [], HR0, Lib.hid ?_, Lib.hid ⟨?_, ?_, Coll.start D, by simp, by simp, by simp, by simp⟩, Lib.hid (by have := HG0.out.2; omega)⟩
    · simp [HD.out.2]
    · have hg := HG0.out.1
      have h2 := HB1.out
      rw [hn0] at h2
      exact h2.trans ⟨hg.os, hg.tape, hg.output, hg.size, fun k hk => hg.block k (by have := HE1.out; omega) (by simp)⟩
    · exact HM0.out.same (HG0.out.1.block n0 (by have := HE1.out; omega) (by simp))
  case round =>
    obtain ⟨left, cnt, G, HRG, HC, HP, HS⟩ := hrel
    go_wp2_with (first
      | (at_next; refine wpList_next_ranges _ rfl _ rfl 3 law_int ptrElem (Value.int .i64) Value.pointer (fun key kl hkey => by obtain ⟨x, rfl, _⟩ := Maps.keyOf_int_inv Try.underlying3 hkey; exact ⟨x, rfl⟩) (fun v y hv => by rcases ptrElem_inv hv with ⟨b, rfl, _⟩ | ⟨rfl, _⟩ <;> exact ⟨_, rfl⟩) M (n0 + 1) _ _ _ _ rfl HRG.out ?_ ?_)
      | fail)
    · intro hc0 hl0
      have HX := Lib.hid (HP.out.done hl0 HD.out.1 HK.out hn0 HS.out)
      clear HRG HC HP hc0 hl0 HK
      go_wp2_with fail
      go_ret
      obtain ⟨bs2, x1, x2, x3⟩ := HX.out
      exact ⟨_, bs2, rfl, x1, x2, x3⟩
    · intro x c kl' yd yp w1 cnt1 hkey hlk hv hat hrg1 hlt1 hg1 hs1 hen
      obtain ⟨x', ex, rfl, _⟩ := Maps.keyOf_int_inv Try.underlying3 hkey
      obtain rfl : x = x' := by injection ex
      obtain ⟨p, hpF, hpk⟩ := HD.out.1.only _ (HP.out.coll.sub _ hlk)
      obtain ⟨y, hyF, rfl⟩ := List.mem_map.1 hpF
      obtain rfl : x = (y.f.no : Int) := by
        unfold kl at hpk
        injection hpk with _ e
        exact e.symm
      obtain ⟨ps, hps⟩ := (HD.out.1.has _ hpF).2
      have hc := rd_ptr _ _ _ _ _ hv ((hps yd).trans (by rw [show (kl (y.f.no : Int), Value.pointer (some ⟨y.p, 0, none⟩)).1 = Lit.int .i64 (y.f.no : Int) from rfl, hat yd]))
      injection hc with hc
      subst hc
      have hbw1 : Below n0 w w1 := HP.out.below.grown hg1 (by have := HS.out; omega) (fun j hj => by cases hj; exact Nat.le_succ _)
      have hy1 : Fok w1 y := (HK.out.each y hyF).mut (bs := []) (Mut.of_below (by rw [hn0]; exact hbw1)) (by simp)
      have hlk' : left (kl (y.f.no : Int)) = true := hlk
      have hne : ∀ q ∈ fE G, q.1 ≠ kl (y.f.no : Int) := fun q hq e => by
        obtain ⟨z, hz, rfl⟩ := List.mem_map.1 hq
        have h1 := ((HP.out.coll.mem (z.f.no : Int)).1 (List.mem_map.2 ⟨z, hz, rfl⟩)).2
        have e' : kl (z.f.no : Int) = kl (y.f.no : Int) := e
        rw [e', hlk'] at h1
        cases h1
      obtain ⟨A, cap, hvv, _, _, hH⟩ := hy1.len
      obtain ⟨m, hm⟩ : ∃ m, y.f.bs.length = m := ⟨_, rfl⟩
      have hmN : m ≤ 100000 := by
        have := HN.out y.f (by rw [← HK.out.fl]; exact List.mem_map.2 ⟨y, hyF, rfl⟩)
        omega
      have z1 : w1.drew.cell? ⟨y.p, 0, none⟩ = some (.slice A m cap) := hy1.blk.cell 0 (by simp [hvv, hm])
      have z2 : w1.drew.cell? ⟨y.p, 1, none⟩ = some (.int .i64 (y.f.sure : Int)) := hy1.blk.cell 1 rfl
      have HA := Lib.hid (apart_any m cap A y.f.bs w1.drew hH hm (by omega))
      have hylt : y.p < w1.heap.size := hy1.blk.lt
      have hm1 : Mut [n0, n0 + 1] wr w1 := (Mut.refl _ wr).grown hg1 (by simp)
      have ham1 : Am w1 3 ptrElem n0 (fE G) := HP.out.out.same (hg1.block n0 (by have := HS.out; omega) (by simp))
      have hn01 : n0 < w1.heap.size := by have := HS.out; omega
      obtain ⟨no, hno⟩ : ∃ no, y.f.no = no := ⟨_, rfl⟩
      obtain ⟨su, hsu⟩ : ∃ su, y.f.sure = su := ⟨_, rfl⟩
      obtain ⟨p, hpp⟩ : ∃ p, y.p = p := ⟨_, rfl⟩
      rw [hsu] at z2
      have hsz1 : w1.drew.heap.size = wr.heap.size := hs1
      have HE := Lib.hid (show ∀ g W3, w1.drew.heap.size ≤ g → W3.ownsRow g 5 1 (.slice (some ⟨g, 0, none⟩) m m) m (y.f.bs.map b8) → Below w1.drew.heap.size w1.drew W3 →
          (W3.cell? ⟨p, 0, none⟩ = some (.slice A m cap) ∧ W3.cell? ⟨p, 1, none⟩ = some (.int .i64 (su : Int))) ∧ Am (W3.alloc (.cells #[.slice (some ⟨g, 0, none⟩) m m, .int .i64 (su : Int)] 65)) 3 ptrElem n0 (fE G) ∧
          ∀ w4, Am w4 3 ptrElem n0 (fE G ++ [(kl (no : Int), .pointer (some ⟨W3.heap.size, 0, none⟩))]) → (W3.alloc (.cells #[.slice (some ⟨g, 0, none⟩) m m, .int .i64 (su : Int)] 65)).grownBy w4 (some n0) →
            (w4.cell? ⟨p, 0, none⟩ = some (.slice A m cap) ∧ w4.cell? ⟨p, 1, none⟩ = some (.int .i64 (su : Int))) ∧ w4.ranges Try.prog 3 ptrElem M (n0 + 1) (fE F).length D (fun z => left z && !z.sameKey (kl (no : Int))) cnt1 ∧
            Cp n0 w w4 F D (fun z => left z && !z.sameKey (kl (no : Int))) (G ++ [⟨y.f, W3.heap.size, .slice (some ⟨g, 0, none⟩) m m⟩]) ∧ n0 + 2 ≤ w4.heap.size from fun g W3 hg ho hbl => by
        have hbl2 : Below w1.heap.size w1 W3 := undrewn hbl
        have hs3 := hbl2.size
        have hgl : g < W3.heap.size := (ho.lt g rfl).2
        have hg' : w1.heap.size ≤ g := hg
        have hal : Below W3.heap.size W3 (W3.alloc (.cells #[.slice (some ⟨g, 0, none⟩) m m, .int .i64 (su : Int)] 65)) := box_below _
        have hbn := blk_new W3 #[.slice (some ⟨g, 0, none⟩) m m, .int .i64 (su : Int)] 65
        rw [← hpp]
        have x1 : W3.cell? ⟨y.p, 0, none⟩ = some (.slice A m cap) := (hbl2.cell (p := ⟨y.p, 0, none⟩) hylt).trans z1
        have x2 : W3.cell? ⟨y.p, 1, none⟩ = some (.int .i64 (su : Int)) := (hbl2.cell (p := ⟨y.p, 1, none⟩) hylt).trans z2
        refine ⟨⟨x1, x2⟩, (ham1.same (hbl2.block _ hn01)).same (hal.block _ (by omega)), fun w4 ha hgr => ?_⟩
        have hw4 : ∀ k, k < W3.heap.size → k ≠ n0 → w4.heap[k]? = W3.heap[k]? := fun k hk hkn => (hgr.block k (by simp; omega) (by simp; exact fun e => hkn e)).trans (hal.block k hk)
        have hyn0 : y.p ≠ n0 := fun e => by
          have := (HK.out.each y hyF).blk.lt
          omega
        have hmm4 : Mut [n0, n0 + 1] wr w4 := ((hm1.trans (Mut.of_below hbl2)).trans (Mut.of_below hal)).grown hgr (by simp)
        have hsz4 := hgr.size
        rw [World.size_alloc] at hsz4
        have hf4 : Fok w4 ⟨y.f, W3.heap.size, .slice (some ⟨g, 0, none⟩) m m⟩ := by
          refine ⟨?_, ?_⟩
          · have := hbn.same (hgr.block W3.heap.size (by simp) (by simp; omega))
            simpa [hsu] using this
          · have h1 := row_base ho
            rw [← hm] at h1 ⊢
            refine row_same h1 fun g' hg2 => ?_
            simp [Value.ownBlock] at hg2
            subst hg2
            exact hw4 g hgl (by omega)
        refine ⟨⟨(World.cell?_of_block (hw4 y.p (by omega) hyn0)).trans x1, (World.cell?_of_block (hw4 y.p (by omega) hyn0)).trans x2⟩, ?_, ?_, by have := HS.out; omega⟩
        · rw [← hno]
          have h1 := ((hrg1.kept (row := none) (w' := W3) ⟨hbl2.os, hbl2.tape, hbl2.output, hbl2.size, fun i hi _ => hbl2.block i hi⟩ (by simp) (by simp)).alloc (.cells #[.slice (some ⟨g, 0, none⟩) m m, .int .i64 (su : Int)] 65)).kept hgr (fun e => by injection e with e; have := HL.out.1; omega) (fun e => by injection e with e; omega)
          exact h1
        · have := HP.out.step HS.out hmm4 ⟨y.f, W3.heap.size, .slice (some ⟨g, 0, none⟩) m m⟩ hlk' hf4 (fun k hk => by
            simp [Fe.own, Value.ownBlock] at hk
            rcases hk with e | e <;> omega) (by rw [hno]; exact ha) ⟨y, hyF, rfl⟩
          rw [hno] at this
          exact this)
      have HNE := Lib.hid (show (∀ q ∈ fE G, q.1 ≠ kl (no : Int)) ∧ (fE G).length ≤ 100000 from ⟨hno ▸ hne, by have := HC.out; simp [fE]; omega⟩)
      have HKI := Lib.hid (show keyOf Try.prog 3 (.int .i64 (no : Int)) = some (kl (no : Int)) from hno ▸ hkey)
      have HLE := Lib.hid (show cnt1 < cnt from hlt1)
      rw [hno, hpp] at hen
      rw [hpp] at z1 z2 ⊢
      rw [hno]
      clear ham1 hn01 hsz1 hm1 hylt hne hlk' hlk hv hat hrg1 hlt1 hg1 hs1 hkey hpk hps hpF hyF ex hbw1 hy1 hvv hH hmN hm hno hsu hpp
      go_wp2_with fail
      refine wp_region_held_drew (S := fun W => W.cell? ⟨p, 0, none⟩ = some (.slice A m cap) ∧ W.cell? ⟨p, 1, none⟩ = some (.int .i64 (su : Int))) (by kernel_rfl) ?_ (fun hHeld => ?_)
      · exact ⟨z1, z2⟩
      refine wpAnyH_take (i := 0) (v := ?_) rfl (by kernel_rfl) (by kernel_rfl) (by kernel_rfl) (fun _ _ _ h => h) (Or.inl ⟨by rfl, ?_⟩) (by assumption) ?_
      rotate_left
      · intro wq hSw; (try dsimp only at hSw); go_simp; (try with_reducible rfl)
      simp only [Act.put, List.getElem_toArray, List.getElem_cons_succ, List.getElem_cons_zero, List.setIfInBounds_toArray, List.set_cons_zero, List.set_cons_succ]
      refine wpAnyH_take (i := 1) (v := ?_) rfl (by kernel_rfl) (by kernel_rfl) (by kernel_rfl) (fun _ _ _ h => h) (Or.inl ⟨by rfl, ?_⟩) (by assumption) ?_
      rotate_left
      · intro wq hSw; (try dsimp only at hSw); go_simp; (try with_reducible rfl)
      simp only [Act.put, List.getElem_toArray, List.getElem_cons_succ, List.getElem_cons_zero, List.setIfInBounds_toArray, List.set_cons_zero, List.set_cons_succ]
      refine wpAnyH_take (i := 2) (v := ?_) rfl (by kernel_rfl) (by kernel_rfl) (by kernel_rfl) (fun _ _ _ h => h) (Or.inl ⟨by rfl, ?_⟩) (by assumption) ?_
      rotate_left
      · intro wq hSw; (try dsimp only at hSw); go_simp; (try with_reducible rfl)
      simp only [Act.put, List.getElem_toArray, List.getElem_cons_succ, List.getElem_cons_zero, List.setIfInBounds_toArray, List.set_cons_zero, List.set_cons_succ]
      refine wpAnyH_take (i := 3) (v := ?_) rfl (by kernel_rfl) (by kernel_rfl) (by kernel_rfl) (fun _ _ _ h => h) (Or.inl ⟨by rfl, ?_⟩) (by assumption) ?_
      rotate_left
      · intro wq hSw; (try dsimp only at hSw); go_simp; (try with_reducible rfl)
      simp only [Act.put, List.getElem_toArray, List.getElem_cons_succ, List.getElem_cons_zero, List.setIfInBounds_toArray, List.set_cons_zero, List.set_cons_succ]
      refine wpAnyH_take (i := 4) (v := ?_) rfl (by kernel_rfl) (by kernel_rfl) (by kernel_rfl) (fun _ _ _ h => h) (Or.inl ⟨by rfl, ?_⟩) (by assumption) ?_
      rotate_left
      · intro wq hSw; (try dsimp only at hSw); go_simp; (try with_reducible rfl)
      simp only [Act.put, List.getElem_toArray, List.getElem_cons_succ, List.getElem_cons_zero, List.setIfInBounds_toArray, List.set_cons_zero, List.set_cons_succ]
      refine wpAnyH_take (i := 5) (v := ?_) rfl (by kernel_rfl) (by kernel_rfl) (by kernel_rfl) (fun _ _ _ h => h) (Or.inl ⟨by rfl, ?_⟩) (by assumption) ?_
      rotate_left
      · intro wq hSw; (try dsimp only at hSw); have hq := hSw.1; go_simp; (try with_reducible rfl)
      simp only [Act.put, List.getElem_toArray, List.getElem_cons_succ, List.getElem_cons_zero, List.setIfInBounds_toArray, List.set_cons_zero, List.set_cons_succ]
      refine wpAnyH_take (i := 7) (v := ?_) rfl (by kernel_rfl) (by kernel_rfl) (by kernel_rfl) (fun _ _ _ h => h) (Or.inl ⟨by rfl, ?_⟩) (by assumption) ?_
      rotate_left
      · intro wq hSw; (try dsimp only at hSw); go_simp; (try with_reducible rfl)
      simp only [Act.put, List.getElem_toArray, List.getElem_cons_succ, List.getElem_cons_zero, List.setIfInBounds_toArray, List.set_cons_zero, List.set_cons_succ]
      refine wpAnyH_take (i := 8) (v := ?_) rfl (by kernel_rfl) (by kernel_rfl) (by kernel_rfl) (fun _ _ _ h => h) (Or.inl ⟨by rfl, ?_⟩) (by assumption) ?_
      rotate_left
      · intro wq hSw; (try dsimp only at hSw); go_simp; (try with_reducible rfl)
      simp only [Act.put, List.getElem_toArray, List.getElem_cons_succ, List.getElem_cons_zero, List.setIfInBounds_toArray, List.set_cons_zero, List.set_cons_succ]
      refine wpAnyH_take (i := 9) (v := ?_) rfl (by kernel_rfl) (by kernel_rfl) (by kernel_rfl) (fun _ _ _ h => h) (Or.inl ⟨by rfl, ?_⟩) (by assumption) ?_
      rotate_left
      · intro wq hSw; (try dsimp only at hSw); go_simp; (try with_reducible rfl)
      simp only [Act.put, List.getElem_toArray, List.getElem_cons_succ, List.getElem_cons_zero, List.setIfInBounds_toArray, List.set_cons_zero, List.set_cons_succ]
      refine wpAnyH_take (i := 10) (v := ?_) rfl (by kernel_rfl) (by kernel_rfl) (by kernel_rfl) (fun _ _ _ h => h) (Or.inl ⟨by rfl, ?_⟩) (by assumption) ?_
      rotate_left
      · intro wq hSw; (try dsimp only at hSw); have hq := hSw.2; go_simp; (try with_reducible rfl)
      simp only [Act.put, List.getElem_toArray, List.getElem_cons_succ, List.getElem_cons_zero, List.setIfInBounds_toArray, List.set_cons_zero, List.set_cons_succ]
      refine wpAnyH_ready (rs := [6]) (by kernel_rfl) (by simp) ?_
      refine AllReadyH.cons rfl (fun K hK => ?_) AllReadyH.nil
      go_simp
      refine HA.out.mono ?_
      rintro e W3 ⟨g, rfl, hg, ho, hbl⟩
      obtain ⟨y1, y2, y3⟩ := HE.out g W3 hg ho hbl
      obtain ⟨n3, hn3⟩ : ∃ n3, W3.heap.size = n3 := ⟨_, rfl⟩
      rw [hn3] at y3
      have HY := Lib.hid y3
      have HAM := Lib.hid y2
      clear hg ho hbl y2 y3 HE HA
      (try go_wp2_with fail)
      refine hK.out _ _ ?_ (fun hHeld => ?_)
      · exact y1
      clear hK K
      try simp only [Act.put, List.getElem_toArray, List.getElem_cons_succ, List.getElem_cons_zero, List.setIfInBounds_toArray, List.set_cons_zero, List.set_cons_succ]
      refine wpAnyH_take (i := 11) (v := ?_) rfl (by kernel_rfl) (by kernel_rfl) (by kernel_rfl) (fun _ _ _ h => h) (Or.inl ⟨by rfl, ?_⟩) (by assumption) ?_
      rotate_left
      · intro wq hSw; (try dsimp only at hSw); go_simp; (try with_reducible rfl)
      simp only [Act.put, List.getElem_toArray, List.getElem_cons_succ, List.getElem_cons_zero, List.setIfInBounds_toArray, List.set_cons_zero, List.set_cons_succ]
      refine wpAnyH_ready (rs := [12]) (by kernel_rfl) (by simp) ?_
      refine AllReadyH.cons rfl (fun K hK => ?_) AllReadyH.nil
      go_simp
      have yb : (W3.alloc (.cells #[.slice (some ⟨g, 0, none⟩) m m, .int .i64 (su : Int)] 65)).cell? ⟨p, 0, none⟩ = some (.slice A m cap) ∧ (W3.alloc (.cells #[.slice (some ⟨g, 0, none⟩) m m, .int .i64 (su : Int)] 65)).cell? ⟨p, 1, none⟩ = some (.int .i64 (su : Int)) := ⟨(World.cell?_alloc_lt _ _ _ (block_lt_of_cell y1.1)).trans y1.1, (World.cell?_alloc_lt _ _ _ (block_lt_of_cell y1.2)).trans y1.2⟩
      (try go_wp2_with fail)
      refine hK.out _ _ ?_ (fun hHeld => ?_)
      · exact yb
      clear hK K
      try simp only [Act.put, List.getElem_toArray, List.getElem_cons_succ, List.getElem_cons_zero, List.setIfInBounds_toArray, List.set_cons_zero, List.set_cons_succ]
      refine wpAnyH_ready (rs := [13]) (by kernel_rfl) (by simp) ?_
      refine AllReadyH.cons rfl (fun K hK => ?_) AllReadyH.nil
      refine step_am_new (key := .int .i64 (no : Int)) (val := .pointer (some ⟨n3, 0, none⟩)) rfl (.tmp 22) (.tmp 23) (.tmp 34) rfl law_int Try.underlying59 rfl HAM.out HNE.out.1 HNE.out.2 rfl rfl HKI.out (kl_key _) rfl ?_
      intro w4 ha4 hg4
      obtain ⟨yc, yd, ye⟩ := HY.out w4 ha4 hg4
      refine hK.out _ _ ?_ (fun hHeld => ?_)
      · exact yc
      clear hK K
      try simp only [Act.put, List.getElem_toArray, List.getElem_cons_succ, List.getElem_cons_zero, List.setIfInBounds_toArray, List.set_cons_zero, List.set_cons_succ]
      refine wpAnyH_done (by kernel_rfl) ?_ _
      clear hHeld
      have HME := Lib.hid (show w4.rangeLeft M (n0 + 1) < wr.rangeLeft M (n0 + 1) from by rw [yd.left_eq, HRG.out.left_eq]; exact HLE.out)
      have HF := Lib.hid (And.intro yd ye)
      have HCN := Lib.hid (show (G ++ [(⟨y.f, n3, .slice (some ⟨g, 0, none⟩) m m⟩ : Fe)]).length + cnt1 ≤ n from by have := HC.out; have := HLE.out; simp; omega)
      clear yc yd ye y1 yb z1 z2 HY HAM HRG HP ha4 hg4 hen
      go_wp2_with fail
      go_roundw
      case rel => exact ⟨_, cnt1, _, Lib.hid HF.out.1, HCN, Lib.hid HF.out.2.1, Lib.hid HF.out.2.2⟩
      case measure => exact HME.out
end Go.Proofs.Ytbfcjfeckonklaa
