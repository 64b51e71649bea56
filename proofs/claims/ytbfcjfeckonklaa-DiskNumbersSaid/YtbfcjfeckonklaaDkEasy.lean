/-
  What a disk's easy calls do: New, Sure, Sync, Remove, apart, Read, Write.
-/
import Derived.Handy
import Derived.Laws.IdiomCopy
import Derived.Test.YtbfcjfeckonklaaDk0
namespace Go.Proofs.Ytbfcjfeckonklaa
open Go.RowKit Go.Maps Go.Proofs.DiskMath

theorem DdTo.refl {w : World} {bs : List Nat} {S : Nat} {s : List Fi} (h : Dd w bs S s) : DdTo w bs S s w := ⟨bs, h, Mut.refl _ _, Ext.refl _ _⟩
set_option maxRecDepth 100000 in
set_option maxHeartbeats 1000000 in
theorem dnew_any (w : World) : Calls Try.prog 9 #[] w fun e w' => ∃ S bs, e = .returned (.pointer (some ⟨S, 0, none⟩)) ∧ Dd w' bs S [] ∧ Below w.heap.size w w' ∧ ∀ k ∈ bs, w.heap.size ≤ k := by
  have hb : Below w.heap.size w ((w.alloc (.map #[] 0)).alloc (.cells #[.map (some w.heap.size)] 61)) := (box_below _).alloc (by simp) _
  have h1 : Dk ((w.alloc (.map #[] 0)).alloc (.cells #[.map (some w.heap.size)] 61)) (w.heap.size + 1) w.heap.size [] [] := by
    have b1 := blk_new (w.alloc (.map #[] 0)) #[.map (some w.heap.size)] 61
    rw [World.size_alloc] at b1
    exact ⟨b1, (Am.made w 3 ptrElem).same (Below.heap_alloc _ _ _ (by simp)), by simp, rfl, by simp [core], Iv.nil⟩
  have HX := Lib.hid (And.intro hb h1)
  have hmm := @run_makeMap Try.prog
  clear hb h1
  go_enter Try.func9, Try.ntmps9
  go_wp2_with fail
  go_ret
  exact ⟨_, _, rfl, ⟨_, _, HX.out.2, rfl⟩, HX.out.1, by simp [core]⟩

set_option maxRecDepth 100000 in
set_option maxHeartbeats 1000000 in
theorem sure_any {bs : List Nat} {S : Nat} {s : List Fi} (no : Int) (w : World) (h : Dd w bs S s) (h1 : -9223372036854775808 ≤ no) (h2 : no ≤ 9223372036854775807) (u : Nat) (hu : ((seek no s).map (·.sure)).getD 0 = u) :
    Calls Try.prog 13 #[.pointer (some ⟨S, 0, none⟩), .int .i64 no] w fun e w' => e = .returned (.int .i64 (u : Int)) ∧ w = w' := by
  obtain ⟨M, F, hk, _⟩ := h
  have c0 : w.cell? ⟨S, 0, none⟩ = some (.map (some M)) := hk.blk.cell 0 rfl
  rcases hk.find h1 h2 with ⟨e, hl⟩ | ⟨A, x, B, rfl, e1, e, hl⟩
  · have l0 := hl 0
    rw [e] at hu
    subst hu
    change Sem.run _ _ w = .ok _ w at l0
    clear hk hl e
    go_enter Try.func13, Try.ntmps13
    go_wp2_with fail
    go_ret
    exact ⟨rfl, rfl⟩
  · have l0 := hl 0
    have c1 : w.cell? ⟨x.p, 1, none⟩ = some (.int .i64 (x.f.sure : Int)) := (hk.each x (by simp)).blk.cell 1 rfl
    rw [e] at hu
    simp at hu
    rw [hu] at c1
    change Sem.run _ _ w = .ok _ w at l0
    obtain ⟨p, hp⟩ : ∃ p, x.p = p := ⟨_, rfl⟩
    rw [hp] at l0 c1
    clear hk hl e e1 hu hp
    go_enter Try.func13, Try.ntmps13
    go_wp2_with fail
    go_ret
    exact ⟨rfl, rfl⟩

/-- Where a file's bytes lie. -/
theorem Fok.len {W : World} {x : Fe} (h : Fok W x) : ∃ A cap, x.v = .slice A x.f.bs.length cap ∧ x.f.bs.length ≤ cap ∧ cap ≤ 9223372036854775807 ∧ Holds8 W.heap.size W A x.f.bs := holds_of_own h.row
theorem Fok.apart {W : World} {x : Fe} (h : Fok W x) : ∀ g, x.v.ownBlock = some g → g ≠ x.p := fun g hg e => by
  have hb := h.blk
  unfold Blk at hb
  rcases h.row.2 with ⟨h1, _⟩ | ⟨g', cap, cur, e1, _, h3, _⟩
  · rw [h1] at hg; cases hg
  · rw [e1] at hg
    simp only [Value.ownBlock, Option.some.injEq] at hg
    subst hg
    rw [e] at h3
    rw [h3] at hb
    injection hb with hb
    injection hb with _ hb
    exact absurd hb (by decide)
theorem Fok.setSure {W : World} {x : Fe} (h : Fok W x) (u : Nat) : Fok (W.setCell ⟨x.p, 1, none⟩ (.int .i64 (u : Int))) ⟨⟨x.f.no, x.f.bs, u⟩, x.p, x.v⟩ := by
  refine ⟨h.blk.set 1 _, row_same h.row fun g hg => ?_⟩
  exact Below.heap_setCell _ _ _ _ (h.apart g hg)

set_option maxRecDepth 100000 in
set_option maxHeartbeats 1000000 in
theorem fsync_any {x : Fe} (w : World) (h : Fok w x) : Calls Try.prog 26 #[.pointer (some ⟨x.p, 0, none⟩)] w fun e w' => e = .returned (.tuple #[]) ∧ Fok w' ⟨⟨x.f.no, x.f.bs, x.f.bs.length⟩, x.p, x.v⟩ ∧ Mut [x.p] w w' := by
  obtain ⟨A, cap, hv, _, _, _⟩ := h.len
  have c0 : w.cell? ⟨x.p, 0, none⟩ = some (.slice A x.f.bs.length cap) := h.blk.cell 0 (by simp [hv])
  have c1 : w.cell? ⟨x.p, 1, none⟩ = some (.int .i64 (x.f.sure : Int)) := h.blk.cell 1 rfl
  have f1 := h.blk.free 1
  have HX := Lib.hid (And.intro (h.setSure x.f.bs.length) ((Mut.refl [x.p] w).setCell (p := ⟨x.p, 1, none⟩) (by simp) (.int .i64 (x.f.bs.length : Int))))
  obtain ⟨⟨no, bs, sure⟩, p, v⟩ := x
  dsimp only at *
  obtain ⟨n, hn⟩ : ∃ n, bs.length = n := ⟨_, rfl⟩
  rw [hn] at c0 HX ⊢
  clear h hv hn
  go_enter Try.func26, Try.ntmps26
  go_wp2_with fail
  go_end0
  exact ⟨rfl, HX.out⟩

/-- The blocks of a disk whose one file has turned. -/
theorem core_mid {S M : Nat} {A B : List Fe} {x x' : Fe} {W : World} (hp : x'.p = x.p) (hv : ∀ g, x'.v.ownBlock = some g → x'.v.ownBlock = x.v.ownBlock ∨ W.heap.size ≤ g) : Ext W (core S M (A ++ x :: B)) (core S M (A ++ x' :: B)) := fun k hk => by
  simp only [core, List.mem_cons, List.flatMap_append, List.flatMap_cons, List.mem_append] at hk ⊢
  rcases hk with e | e | e | e | e
  · exact .inl (.inl e)
  · exact .inl (.inr (.inl e))
  · exact .inl (.inr (.inr (.inl e)))
  · simp only [Fe.own, List.mem_cons] at e
    rcases e with e | e
    · exact .inl (.inr (.inr (.inr (.inl (by simp [Fe.own, e, hp])))))
    · have e' : x'.v.ownBlock = some k := by simpa using e
      rcases hv k e' with e2 | e2
      · exact .inl (.inr (.inr (.inr (.inl (by simp [Fe.own, ← e2, e'])))))
      · exact .inr e2
  · exact .inl (.inr (.inr (.inr (.inr e))))
theorem core_in {S M : Nat} {A B : List Fe} {x : Fe} : ∀ k ∈ x.own, k ∈ core S M (A ++ x :: B) := fun _ hk => core_own (by simp) hk

set_option maxRecDepth 100000 in
set_option maxHeartbeats 1000000 in
theorem dsync_any {bs : List Nat} {S : Nat} {s : List Fi} (no : Int) (w : World) (h : Dd w bs S s) (h1 : -9223372036854775808 ≤ no) (h2 : no ≤ 9223372036854775807) (er : Nat) (her : (if (seek no s).isSome then 0 else 71) = er) :
    Calls Try.prog 12 #[.pointer (some ⟨S, 0, none⟩), .int .i64 no] w fun e w' => e = .returned (.int .u16 (er : Int)) ∧ DdTo w bs S (sync s no) w' := by
  obtain ⟨M, F, hk, hbs⟩ := h
  have c0 : w.cell? ⟨S, 0, none⟩ = some (.map (some M)) := hk.blk.cell 0 rfl
  rcases hk.find h1 h2 with ⟨e, hl⟩ | ⟨A, x, B, rfl, e1, e, hl⟩
  · have l0 := hl 0
    rw [e] at her
    subst her
    change Sem.run _ _ w = .ok _ w at l0
    have HX := Lib.hid (show DdTo w bs S (sync s no) w by rw [sync_none e]; exact DdTo.refl ⟨M, F, hk, hbs⟩)
    clear hk hl e hbs
    go_enter Try.func12, Try.ntmps12
    go_wp2_with fail
    go_ret
    exact ⟨rfl, HX.out⟩
  · have l0 := hl 0
    rw [e] at her
    simp at her
    subst her
    have HF := Lib.hid (fsync_any w (hk.each x (by simp)))
    have HX := Lib.hid (show ∀ w', Fok w' ⟨⟨x.f.no, x.f.bs, x.f.bs.length⟩, x.p, x.v⟩ ∧ Mut [x.p] w w' → DdTo w bs S (sync s no) w' from fun w' h => by
      have hfl := hk.fl
      have hiv := hk.iv
      rw [← hfl] at hiv
      simp only [List.map_append, List.map_cons] at hiv
      have hm : Mut x.own w w' := h.2.wider (by simp [Fe.own])
      have hk2 := hk.upd hm ⟨⟨x.f.no, x.f.bs, x.f.bs.length⟩, x.p, x.v⟩ rfl rfl h.1 (fun g _ => .inl rfl) (Nat.le_refl _)
      rw [← hfl, ← e1]
      simp only [List.map_append, List.map_cons]
      rw [sync_old hiv]
      subst hbs
      exact ⟨_, ⟨M, _, hk2, rfl⟩, hm.wider core_in, core_mid rfl (fun g _ => .inl rfl)⟩)
    obtain ⟨⟨fno, fbs, fsure⟩, p, v⟩ := x
    dsimp only at *
    change Sem.run _ _ w = .ok _ w at l0
    clear hk hl e e1 hbs
    go_enter Try.func12, Try.ntmps12
    go_wp2_with fail
    refine HF.out.mono ?_
    rintro e w' ⟨rfl, hx⟩
    have HY := Lib.hid (HX.out w' hx)
    clear hx HX HF
    go_wp2_with fail
    go_ret
    exact ⟨rfl, HY.out⟩
end Go.Proofs.Ytbfcjfeckonklaa
