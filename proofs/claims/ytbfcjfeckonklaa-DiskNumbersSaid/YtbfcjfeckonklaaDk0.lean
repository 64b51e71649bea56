/-
  How a disk lies in memory: its own block, the map of its files, each file's block and the row of its bytes.
-/
import Derived.Test.YtbfcjfeckonklaaDkMath
import Derived.Test.YtbfcjfeckonklaaBytes0
import Derived.Test.YtbfcjfeckonklaaMap0
namespace Go.Proofs.Ytbfcjfeckonklaa
open Go.RowKit Go.Maps Go.Proofs.DiskMath

/-- A file, its block, where its bytes lie. -/
structure Fe where
  f : Fi
  p : Nat
  v : Value
def Fe.own (x : Fe) : List Nat := x.p :: x.v.ownBlock.toList
structure Fok (W : World) (x : Fe) : Prop where
  blk : Blk W x.p #[x.v, .int .i64 (x.f.sure : Int)] 65
  row : W.ownsRow 0 5 1 x.v x.f.bs.length (x.f.bs.map b8)
theorem Fok.mut {W W' : World} {x : Fe} (h : Fok W x) {bs : List Nat} (hb : Mut bs W W') (hn : ∀ k ∈ x.own, k ∉ bs) : Fok W' x :=
  ⟨h.blk.mut hb (hn _ (by simp [Fe.own])), row_same h.row fun g hg => hb.block g (h.row.lt g hg).2 (hn g (by simp [Fe.own, hg]))⟩
theorem Fok.lt {W : World} {x : Fe} (h : Fok W x) : ∀ k ∈ x.own, k < W.heap.size := fun k hk => by
  simp [Fe.own] at hk
  rcases hk with rfl | hk
  · exact h.blk.lt
  · exact (h.row.lt k hk).2
def fE (F : List Fe) : List (Lit × Value) := F.map fun x => (kl (x.f.no : Int), .pointer (some ⟨x.p, 0, none⟩))
theorem fE_append (A B : List Fe) : fE (A ++ B) = fE A ++ fE B := by simp [fE]
theorem fE_cons (x : Fe) (B : List Fe) : fE (x :: B) = (kl (x.f.no : Int), .pointer (some ⟨x.p, 0, none⟩)) :: fE B := rfl
def core (S M : Nat) (F : List Fe) : List Nat := S :: M :: F.flatMap Fe.own
theorem core_own {S M : Nat} {F : List Fe} {x : Fe} (hx : x ∈ F) {k : Nat} (hk : k ∈ x.own) : k ∈ core S M F := by
  simp only [core, List.mem_cons, List.mem_flatMap]
  exact .inr (.inr ⟨x, hx, hk⟩)
structure Dk (W : World) (S M : Nat) (F : List Fe) (s : List Fi) : Prop where
  blk : Blk W S #[.map (some M)] 61
  map : Am W 3 ptrElem M (fE F)
  each : ∀ x ∈ F, Fok W x
  fl : F.map (·.f) = s
  nd : (core S M F).Nodup
  iv : Iv s
theorem Dk.mut {W W' : World} {S M : Nat} {F : List Fe} {s : List Fi} (h : Dk W S M F s) {cs : List Nat} (hb : Mut cs W W') (hc : ∀ k ∈ core S M F, k ∉ cs) : Dk W' S M F s :=
  { h with
    blk := h.blk.mut hb (hc S (by simp [core]))
    map := h.map.same (hb.block _ h.map.lt (hc M (by simp [core])))
    each := fun x hx => (h.each x hx).mut hb fun k hk => hc k (core_own hx hk) }
theorem Dk.lt {W : World} {S M : Nat} {F : List Fe} {s : List Fi} (h : Dk W S M F s) : ∀ k ∈ core S M F, k < W.heap.size := fun k hk => by
  simp only [core, List.mem_cons, List.mem_flatMap] at hk
  rcases hk with rfl | rfl | ⟨x, hx, hk⟩
  · exact h.blk.lt
  · exact h.map.lt
  · exact (h.each x hx).lt k hk
theorem Dk.later {W W' : World} {S M : Nat} {F : List Fe} {s : List Fi} (h : Dk W S M F s) (hb : Below W.heap.size W W') : Dk W' S M F s := h.mut (cs := []) (Mut.of_below hb) (by simp)
theorem Dk.drewN {W : World} {S M : Nat} {F : List Fe} {s : List Fi} (h : Dk W S M F s) (q : Nat) : Dk (W.drewN q) S M F s := h.mut (cs := []) ⟨rfl, rfl, rfl, Nat.le_refl _, fun _ _ _ => rfl⟩ (by simp)
/-- The parts around one file. -/
theorem nd_mid {S M : Nat} {A B : List Fe} {x : Fe} (h : (core S M (A ++ x :: B)).Nodup) : (core S M (A ++ B)).Nodup ∧ x.own.Nodup ∧ ∀ k ∈ x.own, k ∉ core S M (A ++ B) := by
  have hp : (core S M (A ++ x :: B)).Perm (x.own ++ core S M (A ++ B)) := by
    unfold core
    simp only [List.flatMap_append, List.flatMap_cons]
    refine List.Perm.trans ?_ (List.perm_append_comm (l₁ := S :: M :: (A.flatMap Fe.own ++ B.flatMap Fe.own)) (l₂ := x.own))
    simp only [List.cons_append]
    refine List.Perm.cons _ (List.Perm.cons _ ?_)
    rw [List.append_assoc]
    exact List.Perm.append_left _ List.perm_append_comm
  have h1 := List.nodup_append.1 (hp.nodup_iff.1 h)
  exact ⟨h1.2.1, h1.1, fun k hk hk2 => h1.2.2 k hk k hk2 rfl⟩
theorem nd_put {S M : Nat} {A B : List Fe} {x : Fe} (h : (core S M (A ++ B)).Nodup) (h2 : x.own.Nodup) (h3 : ∀ k ∈ x.own, k ∉ core S M (A ++ B)) : (core S M (A ++ x :: B)).Nodup := by
  have hp : (core S M (A ++ x :: B)).Perm (x.own ++ core S M (A ++ B)) := by
    unfold core
    simp only [List.flatMap_append, List.flatMap_cons]
    refine List.Perm.trans ?_ (List.perm_append_comm (l₁ := S :: M :: (A.flatMap Fe.own ++ B.flatMap Fe.own)) (l₂ := x.own))
    simp only [List.cons_append]
    refine List.Perm.cons _ (List.Perm.cons _ ?_)
    rw [List.append_assoc]
    exact List.Perm.append_left _ List.perm_append_comm
  exact hp.nodup_iff.2 (List.nodup_append.2 ⟨h2, h, fun a ha b hb e => h3 a ha (e ▸ hb)⟩)
/-- A disk but for one file of it. -/
structure Rest (W : World) (S M : Nat) (A B : List Fe) : Prop where
  blk : Blk W S #[.map (some M)] 61
  each : ∀ x ∈ A ++ B, Fok W x
  nd : (core S M (A ++ B)).Nodup
theorem Rest.mut {W W' : World} {S M : Nat} {A B : List Fe} (h : Rest W S M A B) {cs : List Nat} (hb : Mut cs W W') (hc : ∀ k ∈ core S M (A ++ B), k ≠ M → k ∉ cs) : Rest W' S M A B := by
  have hnd := h.nd
  unfold core at hnd
  have h1 := List.nodup_cons.1 hnd
  have h2 := List.nodup_cons.1 h1.2
  refine ⟨h.blk.mut hb (hc S (by simp [core]) fun e => h1.1 (by simp [e])), fun x hx => (h.each x hx).mut hb fun k hk => hc k (core_own hx hk) fun e => h2.1 ?_, h.nd⟩
  rw [← e]
  exact List.mem_flatMap.2 ⟨x, hx, hk⟩
/-- One file has turned. -/
theorem Dk.upd {W W' : World} {S M : Nat} {A B : List Fe} {x : Fe} {s : List Fi} (h : Dk W S M (A ++ x :: B) s) (hb : Mut x.own W W') (x' : Fe) (hp : x'.p = x.p) (hno : x'.f.no = x.f.no) (hx : Fok W' x')
    (hv : ∀ g, x'.v.ownBlock = some g → x'.v.ownBlock = x.v.ownBlock ∨ W.heap.size ≤ g) (hs : x'.f.sure ≤ x'.f.bs.length) : Dk W' S M (A ++ x' :: B) (A.map (·.f) ++ x'.f :: B.map (·.f)) := by
  obtain ⟨n1, n2, n3⟩ := nd_mid h.nd
  have hc : ∀ k ∈ core S M (A ++ B), k ∉ x.own := fun k hk hk2 => n3 k hk2 hk
  have hlt := h.lt
  have sub : ∀ k ∈ core S M (A ++ B), k ∈ core S M (A ++ x :: B) := fun k hk => by
    simp only [core, List.mem_cons, List.flatMap_append, List.flatMap_cons, List.mem_append] at hk ⊢
    rcases hk with e | e | e | e <;> simp [e]
  refine ⟨h.blk.mut hb (hc S (by simp [core])), ?_, fun y hy => ?_, by simp, nd_put n1 ?_ fun k hk hk2 => ?_, ?_⟩
  · have e : fE (A ++ x' :: B) = fE (A ++ x :: B) := by
      rw [fE_append, fE_append, fE_cons, fE_cons, hp, hno]
    rw [e]
    exact h.map.same (hb.block _ h.map.lt (hc M (by simp [core])))
  · have hy' : y = x' ∨ y ∈ A ++ B := by
      rcases List.mem_append.1 hy with e | e
      · exact .inr (by simp [e])
      · rcases List.mem_cons.1 e with e | e
        · exact .inl e
        · exact .inr (by simp [e])
    rcases hy' with rfl | hy'
    · exact hx
    · refine (h.each y ?_).mut hb fun k hk => hc k (core_own hy' hk)
      rcases List.mem_append.1 hy' with e | e <;> simp [e]
  · unfold Fe.own
    rw [List.nodup_cons]
    refine ⟨fun hm => ?_, by cases x'.v.ownBlock <;> simp⟩
    have hm' : x'.v.ownBlock = some x'.p := by simpa using hm
    rcases hv _ hm' with e | e
    · unfold Fe.own at n2
      rw [← e, hm', hp] at n2
      simp at n2
    · have := (h.each x (by simp)).blk.lt
      rw [hp] at e
      omega
  · have hlk := hlt k (sub k hk2)
    simp only [Fe.own, List.mem_cons] at hk
    rcases hk with rfl | hk
    · rw [hp] at hk2
      exact n3 x.p (by simp [Fe.own]) hk2
    · have hk' : x'.v.ownBlock = some k := by simpa using hk
      rcases hv _ hk' with e | e
      · exact n3 k (by simp [Fe.own, ← e, hk']) hk2
      · omega
  · have h5 := h.iv
    rw [← h.fl] at h5
    simp only [List.map_append, List.map_cons] at h5
    exact h5.mid hno hs
theorem find_map {F : List Fe} {f : Fi} (h : f ∈ F.map (·.f)) : ∃ A x B, F = A ++ x :: B ∧ x.f = f := by
  obtain ⟨x, hx, rfl⟩ := List.mem_map.1 h
  obtain ⟨A, B, rfl⟩ := List.append_of_mem hx
  exact ⟨A, x, B, rfl, rfl⟩
/-- One file more. -/
theorem Dk.add {W W' : World} {S M : Nat} {F : List Fe} {s : List Fi} (h : Dk W S M F s) (hb : Mut [M] W W') (x : Fe) (hp : W.heap.size ≤ x.p) (hv : ∀ g, x.v.ownBlock = some g → W.heap.size ≤ g ∧ g ≠ x.p) (hx : Fok W' x) (hm : Am W' 3 ptrElem M (fE F ++ [(kl (x.f.no : Int), .pointer (some ⟨x.p, 0, none⟩))]))
    (hn : seek x.f.no s = none) (hno : x.f.no ≤ 1099511627776) (hs : x.f.sure ≤ x.f.bs.length) : ∃ A B, F = A ++ B ∧ Dk W' S M (A ++ x :: B) (ins x.f s) := by
  have hl := seek_none hn
  obtain ⟨a, b, e1, e2, e3, e4⟩ := ins_new x.f h.iv (fun g hg e => hl g hg (by rw [e]))
  have hfl := h.fl
  rw [e1] at hfl
  obtain ⟨A, B, rfl, rfl, rfl⟩ := List.map_eq_append_iff.1 hfl
  have hlt := h.lt
  have hnd := h.nd
  have h1 := List.nodup_cons.1 (show (S :: M :: (A ++ B).flatMap Fe.own).Nodup from hnd)
  have h2 := List.nodup_cons.1 h1.2
  refine ⟨A, B, rfl, ?_⟩
  rw [e2]
  have hnew : ∀ k ∈ x.own, W.heap.size ≤ k := fun k hk => by
    simp only [Fe.own, List.mem_cons] at hk
    rcases hk with rfl | hk
    · exact hp
    · exact (hv k (by simpa using hk)).1
  refine ⟨h.blk.mut hb fun e => h1.1 (by simp at e; simp [e]), ?_, fun y hy => ?_, by simp, nd_put hnd ?_ fun k hk hk2 => ?_, ?_⟩
  · obtain ⟨D, k1, k2⟩ := hm
    have hperm : (fE (A ++ B) ++ [(kl (x.f.no : Int), Value.pointer (some ⟨x.p, 0, none⟩))]).Perm (fE (A ++ x :: B)) := by
      rw [fE_append, fE_append, fE_cons, List.append_assoc]
      exact List.Perm.append_left _ List.perm_append_comm
    exact Am.of k1 (k2.perm hperm)
  · have hy' : y = x ∨ y ∈ A ++ B := by
      rcases List.mem_append.1 hy with e | e
      · exact .inr (by simp [e])
      · rcases List.mem_cons.1 e with e | e
        · exact .inl e
        · exact .inr (by simp [e])
    rcases hy' with rfl | hy'
    · exact hx
    · refine (h.each y hy').mut hb fun k hk e => h2.1 ?_
      rw [← List.mem_singleton.1 e]
      exact List.mem_flatMap.2 ⟨y, hy', hk⟩
  · unfold Fe.own
    rw [List.nodup_cons]
    refine ⟨fun hm => ?_, by cases x.v.ownBlock <;> simp⟩
    have hm' : x.v.ownBlock = some x.p := by simpa using hm
    exact (hv _ hm').2 rfl
  · have := hlt k hk2
    have := hnew k hk
    omega
  · have h5 := h.iv
    rw [← h.fl] at h5
    simp only [List.map_append] at h5
    exact h5.put e3 e4 hno hs
/-- One file less. -/
theorem Dk.rem {W W' : World} {S M : Nat} {A B : List Fe} {x : Fe} {s : List Fi} (h : Dk W S M (A ++ x :: B) s) (hb : Mut (M :: x.own) W W') (hm : Am W' 3 ptrElem M (fE A ++ fE B)) : Dk W' S M (A ++ B) (A.map (·.f) ++ B.map (·.f)) := by
  obtain ⟨n1, n2, n3⟩ := nd_mid h.nd
  have h1 := List.nodup_cons.1 (show (S :: M :: (A ++ B).flatMap Fe.own).Nodup from n1)
  have h2 := List.nodup_cons.1 h1.2
  have hc : ∀ k ∈ core S M (A ++ B), k ≠ M → k ∉ M :: x.own := fun k hk hkM hk2 => by
    rcases List.mem_cons.1 hk2 with e | e
    · exact hkM e
    · exact n3 k e hk
  refine ⟨h.blk.mut hb (hc S (by simp [core]) fun e => h1.1 (by simp [e])), by rw [fE_append]; exact hm, fun y hy => ?_, by simp, n1, ?_⟩
  · refine (h.each y ?_).mut hb fun k hk => hc k (core_own hy hk) fun e => h2.1 ?_
    · rcases List.mem_append.1 hy with e | e <;> simp [e]
    · rw [← e]
      exact List.mem_flatMap.2 ⟨y, hy, hk⟩
  · have h5 := h.iv
    rw [← h.fl] at h5
    simp only [List.map_append, List.map_cons] at h5
    exact h5.drop
theorem zero_ptr (w : World) : (zeroValue 62).run Try.prog w = .ok (.pointer none) w := by kernel_rfl
/-- A file by its number. -/
theorem Dk.find {W : World} {S M : Nat} {F : List Fe} {s : List Fi} (h : Dk W S M F s) {no : Int} (h1 : -9223372036854775808 ≤ no) (h2 : no ≤ 9223372036854775807) :
    (seek no s = none ∧ ∀ q, (Instr.lookup 59 (.map (some M)) (.int .i64 no) true).run Try.prog (W.drewN q) = .ok (.tuple #[.pointer none, .bool false]) (W.drewN q)) ∨
    ∃ A x B, F = A ++ x :: B ∧ (x.f.no : Int) = no ∧ seek no s = some x.f ∧ ∀ q, (Instr.lookup 59 (.map (some M)) (.int .i64 no) true).run Try.prog (W.drewN q) = .ok (.tuple #[.pointer (some ⟨x.p, 0, none⟩), .bool true]) (W.drewN q) := by
  have hl := fun q => h.map.look rd_ptr law_int Try.underlying59 zero_ptr (zd := .lit (.int .i64 (-1))) (zp := []) rfl (key_int h1 h2) q
  cases e : seek no s with
  | none =>
    refine .inl ⟨rfl, fun q => (hl q).2 fun p hp he => ?_⟩
    obtain ⟨x, hx, rfl⟩ := List.mem_map.1 hp
    refine seek_none e x.f (by rw [← h.fl]; exact List.mem_map.2 ⟨x, hx, rfl⟩) ?_
    by_cases e2 : (x.f.no : Int) = no
    · exact e2
    · exact absurd he (kl_ne e2)
  | some f =>
    obtain ⟨hf, e1⟩ := seek_some e
    rw [← h.fl] at hf
    obtain ⟨A, x, B, rfl, rfl⟩ := find_map hf
    exact .inr ⟨A, x, B, rfl, e1, rfl, fun q => (hl q).1 _ (by rw [fE_append, fE_cons, e1]; simp)⟩
/-- A seek-up without 'is'. -/
theorem Dk.find1 {W : World} {S M : Nat} {A B : List Fe} {x : Fe} {s : List Fi} (h : Dk W S M (A ++ x :: B) s) (q : Nat) : (Instr.lookup 59 (.map (some M)) (.int .i64 (x.f.no : Int)) false).run Try.prog (W.drewN q) = .ok (.pointer (some ⟨x.p, 0, none⟩)) (W.drewN q) := by
  have h5 := h.iv
  have hx := (h5.ok x.f (by rw [← h.fl]; simp)).1
  exact h.map.look1 rd_ptr law_int Try.underlying59 zero_ptr (zd := .lit (.int .i64 (-1))) (zp := []) rfl (key_int (by omega) (by omega)) q _ (by rw [fE_append, fE_cons]; simp)

/-- A disk at S, whose blocks are bs. -/
def Dd (W : World) (bs : List Nat) (S : Nat) (s : List Fi) : Prop := ∃ M F, Dk W S M F s ∧ bs = core S M F
theorem Dd.lt {W : World} {bs : List Nat} {S : Nat} {s : List Fi} (h : Dd W bs S s) : ∀ k ∈ bs, k < W.heap.size := by
  obtain ⟨M, F, h1, rfl⟩ := h
  exact h1.lt
theorem Dd.iv {W : World} {bs : List Nat} {S : Nat} {s : List Fi} (h : Dd W bs S s) : Iv s := by
  obtain ⟨_, _, h1, _⟩ := h
  exact h1.iv
theorem Dd.mut {W W' : World} {bs cs : List Nat} {S : Nat} {s : List Fi} (h : Dd W bs S s) (hb : Mut cs W W') (hc : ∀ k ∈ bs, k ∉ cs) : Dd W' bs S s := by
  obtain ⟨M, F, h1, rfl⟩ := h
  exact ⟨M, F, h1.mut hb hc, rfl⟩
theorem Dd.later {W W' : World} {bs : List Nat} {S : Nat} {s : List Fi} (h : Dd W bs S s) (hb : Below W.heap.size W W') : Dd W' bs S s := h.mut (cs := []) (Mut.of_below hb) (by simp)
/-- It has turned into another one. -/
def DdTo (w : World) (bs : List Nat) (S : Nat) (s : List Fi) (w' : World) : Prop := ∃ bs', Dd w' bs' S s ∧ Mut bs w w' ∧ Ext w bs bs'
end Go.Proofs.Ytbfcjfeckonklaa
