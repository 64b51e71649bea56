/-
  A heap of a law's own: New, Len, First.
-/
import Derived.Deep.QuietTactic
import Derived.BigQuiet
import Derived.Carry
import Derived.Test.YthpcnnkdpgjiiaaHpCont
namespace Go.Proofs.Ythpcnnkdpgjiiaa
open Go.RowKit Go.Maps Go.Proofs.HeapMath

/-- A heap at S of at most so many, that has the timers s, in order; its blocks are among bs. -/
def Hp (W : World) (bs : List Nat) (S most : Nat) (s : List Tm) : Prop :=
  ∃ M v l, Rw W S M (.int .i64 (most : Int)) v l ∧ Hep l l.length ∧ l.Perm s ∧ So s ∧ s.length ≤ most ∧ (1 ≤ most ∧ most ≤ 5000) ∧ S ∈ bs ∧ M ∈ bs ∧ (∀ g, v.ownBlock = some g → g ∈ bs) ∧ ∀ k ∈ bs, k < W.heap.size
theorem Hp.mut {W W' : World} {bs cs : List Nat} {S most : Nat} {s : List Tm} (h : Hp W bs S most s) (hb : Mut cs W W') (hc : ∀ k ∈ bs, k ∉ cs) : Hp W' bs S most s := by
  obtain ⟨M, v, l, h1, h2, h3, h4, h5, h6, h7, h8, h9, h10⟩ := h
  exact ⟨M, v, l, h1.mut hb (hc _ h7) (hc _ h8) (fun g hg => hc _ (h9 g hg)), h2, h3, h4, h5, h6, h7, h8, h9, fun k hk => Nat.lt_of_lt_of_le (h10 k hk) hb.size⟩
theorem Hp.later {W W' : World} {bs : List Nat} {S most : Nat} {s : List Tm} (h : Hp W bs S most s) (hb : Below W.heap.size W W') : Hp W' bs S most s := h.mut (cs := []) (Mut.of_below hb) (by simp)
theorem Hp.so {W : World} {bs : List Nat} {S most : Nat} {s : List Tm} (h : Hp W bs S most s) : So s ∧ Nn s ∧ s.length ≤ most ∧ most ≤ 5000 ∧ ∀ t ∈ s, In64 t := by
  obtain ⟨M, v, l, h1, h2, h3, h4, h5, h6, _⟩ := h
  exact ⟨h4, h1.nn.perm h3.symm, h5, h6.2, fun t ht => h1.in64 t (h3.mem_iff.2 ht)⟩
theorem Hp.lt {W : World} {bs : List Nat} {S most : Nat} {s : List Tm} (h : Hp W bs S most s) : ∀ k ∈ bs, k < W.heap.size := by
  obtain ⟨M, v, l, h1, h2, h3, h4, h5, h6, h7, h8, h9, h10⟩ := h
  exact h10
/-- It has turned into one with the timers s. -/
def HpTo (w : World) (bs : List Nat) (S most : Nat) (s : List Tm) (w' : World) : Prop := ∃ bs', Hp w' bs' S most s ∧ Mut bs w w' ∧ Ext w bs bs'

set_option maxRecDepth 100000 in
set_option maxHeartbeats 1000000 in
theorem hlen_any {bs : List Nat} {S most : Nat} {s : List Tm} (w : World) (h : Hp w bs S most s) :
    Calls Try.prog 47 #[.pointer (some ⟨S, 0, none⟩)] w fun e w' => e = .returned (.int .i64 (s.length : Int)) ∧ w = w' := by
  obtain ⟨M, v, l, h1, h2, h3, h4, h5, h6, h7, h8, h9, h10⟩ := h
  have hL := len_any w h1
  rw [h3.length_eq] at hL
  have HL := Lib.hid hL
  clear hL h1 h2 h3 h4 h5 h6 h7 h8 h9 h10
  go_enter Try.func47, Try.ntmps47
  go_wp2_with fail
  refine HL.out.mono ?_
  rintro e w' ⟨rfl, rfl⟩
  go_wp2_with fail
  go_ret
  exact ⟨rfl, rfl⟩

def NewE (w : World) (most : Nat) (e : Ending) (w' : World) : Prop := ∃ S bs, e = .returned (.pointer (some ⟨S, 0, none⟩)) ∧ Hp w' bs S most [] ∧ Below w.heap.size w w' ∧ ∀ k ∈ bs, w.heap.size ≤ k
set_option maxRecDepth 100000 in
set_option maxHeartbeats 1000000 in
theorem hnew_any (most : Nat) (w : World) (h1 : 1 ≤ most) (h2 : most ≤ 5000) :
    Calls Try.prog 25 #[.int .i64 (most : Int)] w (NewE w most) := by
  have hend : NewE w most (.returned (.pointer (some ⟨w.heap.size + 1, 0, none⟩))) ((w.alloc (.map #[] 0)).alloc (.cells #[.int .i64 (most : Int), .slice none 0 0, .map (some w.heap.size)] 108)) := by
    have hm : (w.alloc (.map #[] 0)).ownsMap Try.prog 3 (plainElem (H := Unit) Try.prog 3) w.heap.size 0 (.map []) := World.ownsMap_made _ _ _ _
    have hb := blk_new (w.alloc (.map #[] 0)) #[.int .i64 (most : Int), .slice none 0 0, .map (some w.heap.size)] 108
    rw [World.size_alloc] at hb
    refine ⟨_, [w.heap.size, w.heap.size + 1], rfl, ⟨w.heap.size, .slice none 0 0, [], ⟨hb, World.ownsRow_nil _ _ _ _, ⟨.map [], hm.alloc _, Pl.nil⟩, List.Pairwise.nil, by simp, by simp⟩, fun i i0 hi => by simp at hi, List.Perm.refl _, List.Pairwise.nil, by simp, ⟨h1, h2⟩, by simp, by simp, by simp [Value.ownBlock], by simp; omega⟩, (box_below _).alloc (by simp) _, by simp⟩
  have HE := Lib.hid hend
  have hmm := @run_makeMap Try.prog
  have t1 : decide ((most : Int) < 1) = false := by simp; omega
  have t2 : decide ((5000 : Int) < (most : Int)) = false := by simp; omega
  clear hend
  go_enter Try.func25, Try.ntmps25
  go_wp2_with fail
  go_ret
  exact HE.out

set_option maxRecDepth 100000 in
set_option maxHeartbeats 1000000 in
theorem hnew_no (most : Int) (w : World) (h : most < 1 ∨ 5000 < most) :
    Calls Try.prog 25 #[.int .i64 most] w fun e w' => e = .returned (.pointer none) ∧ w = w' := by
  rcases h with h | h
  · go_enter Try.func25, Try.ntmps25
    go_wp2_with fail
    go_ret
    exact ⟨rfl, rfl⟩
  · have h1 : ¬ most < 1 := by omega
    go_enter Try.func25, Try.ntmps25
    go_wp2_with fail
    go_ret
    exact ⟨rfl, rfl⟩

/-- The first one's value. -/
def tmV (t : Tm) : Value := .agg #[.int .i64 t.1, .int .i64 t.2]
set_option maxRecDepth 100000 in
set_option maxHeartbeats 1000000 in
theorem hfirst_any {bs : List Nat} {S most : Nat} {t : Tm} {r : List Tm} (w : World) (h : Hp w bs S most (t :: r)) :
    Calls Try.prog 37 #[.pointer (some ⟨S, 0, none⟩)] w fun e w' => e = .returned (.tuple #[.agg #[.int .i64 t.1, .int .i64 t.2], .bool true]) ∧ Below w.heap.size w w' := by
  have hB : Below w.heap.size w (w.alloc (.cells #[.int .i64 0, .int .i64 0] 89)) := box_below _
  have hL := hlen_any _ (h.later hB)
  obtain ⟨M, v, l, h1, h2, h3, h4, h5, h6, h7, h8, h9, h10⟩ := h
  have h0 := first_of h2 h3 h4
  have hl := h3.length_eq
  simp only [List.length_cons] at hl hL
  obtain ⟨n, hn⟩ : ∃ n, r.length = n := ⟨_, rfl⟩
  rw [hn] at hl hL
  obtain ⟨B, cap, rfl, c1, c2, c3⟩ := h1.slice (by omega)
  have s1 := h1.own.cell 1 rfl
  obtain ⟨d1, d2⟩ := h1.cell (i := 0) (by omega)
  rw [h0] at d1 d2
  rw [hl] at s1 c1
  have hSl := h1.own.lt
  have hm := h1.most
  rw [hl] at hm
  have z1 := (World.cell?_alloc_lt w (.cells #[.int .i64 0, .int .i64 0] 89) ⟨S, 1, none⟩ hSl).trans s1
  have e1 := (World.cell?_alloc_lt w (.cells #[.int .i64 0, .int .i64 0] 89) ⟨B, 0, none⟩ c3).trans d1
  have e2 := (World.cell?_alloc_lt w (.cells #[.int .i64 0, .int .i64 0] 89) ⟨B, 1, none⟩ c3).trans d2
  obtain ⟨a, b⟩ := t
  simp only at e1 e2
  have hB2 : Below w.heap.size w (w.alloc (.cells #[.int .i64 a, .int .i64 b] 89)) := box_below _
  have k1 := (blk_new w #[.int .i64 a, .int .i64 b] 89).cell 0 rfl
  have k2 := (blk_new w #[.int .i64 a, .int .i64 b] 89).cell 1 rfl
  have HB := Lib.hid hB2
  have HL := Lib.hid hL
  have K1 := Lib.hid k1
  have K2 := Lib.hid k2
  clear hB hB2 hL h1 h2 h3 h4 h5 h6 h7 h8 h9 h10 h0 hl hn s1 d1 d2 k1 k2
  go_enter Try.func37, Try.ntmps37
  go_wp2_with fail
  refine HL.out.mono ?_
  rintro e w' ⟨rfl, rfl⟩
  go_wp2_with fail
  have q1 := K1.out
  have q2 := K2.out
  exact bodyPost_ret (v := .tuple #[.agg #[.int .i64 a, .int .i64 b], .bool true]) (by simp [results, Try.results37, go_sem, q1, q2]) rfl ⟨rfl, HB.out⟩

set_option maxRecDepth 100000 in
set_option maxHeartbeats 1000000 in
theorem hfirst_no {bs : List Nat} {S most : Nat} (w : World) (h : Hp w bs S most []) :
    Calls Try.prog 37 #[.pointer (some ⟨S, 0, none⟩)] w fun e w' => e = .returned (.tuple #[.agg #[.int .i64 0, .int .i64 0], .bool false]) ∧ Below w.heap.size w w' := by
  have hB : Below w.heap.size w (w.alloc (.cells #[.int .i64 0, .int .i64 0] 89)) := box_below _
  have hL := hlen_any _ (h.later hB)
  have k1 := (blk_new w #[.int .i64 0, .int .i64 0] 89).cell 0 rfl
  have k2 := (blk_new w #[.int .i64 0, .int .i64 0] 89).cell 1 rfl
  have HB := Lib.hid hB
  have HL := Lib.hid hL
  have K1 := Lib.hid k1
  have K2 := Lib.hid k2
  clear hB hL k1 k2 h
  go_enter Try.func37, Try.ntmps37
  go_wp2_with fail
  refine HL.out.mono ?_
  rintro e w' ⟨rfl, rfl⟩
  go_wp2_with fail
  have q1 := K1.out
  have q2 := K2.out
  exact bodyPost_ret (v := .tuple #[.agg #[.int .i64 0, .int .i64 0], .bool false]) (by simp [results, Try.results37, go_sem, q1, q2]) rfl ⟨rfl, HB.out⟩
end Go.Proofs.Ythpcnnkdpgjiiaa
