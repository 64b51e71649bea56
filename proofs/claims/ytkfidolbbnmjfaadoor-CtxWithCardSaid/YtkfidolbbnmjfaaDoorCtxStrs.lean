/-
  Rows of texts of the call's own: appended to, joined. What ctx.areMarks says; what ctx.Read tells.
-/
import Derived.Laws.AppendOwnNone
import Derived.Lib.Join
import Derived.Test.YtkfidolbbnmjfaaDoorCtxReadS
import Derived.Test.YtkfidolbbnmjfaaDoorCtxWithM
namespace Go.Proofs.YtkfidolbbnmjfaaDoor
open Go.RowKit Go.Shelf Go.Proofs.CtxState Go.Proofs.SeqOwn

def SL (W : World) (base : Nat) (sl : Value) (ys : List (List UInt8)) : Prop := W.ownsRow base 9 1 sl ys.length (ys.map strV)
theorem SL.nil (W : World) (base : Nat) : SL W base (.slice none 0 0) [] := World.ownsRow_nil _ _ _ _
theorem SL.lower {W : World} {b b' : Nat} {sl : Value} {ys : List (List UInt8)} (h : SL W b sl ys) (hb : b' ≤ b) : SL W b' sl ys := by
  obtain ⟨h1, h2⟩ := h
  refine ⟨h1, ?_⟩
  rcases h2 with h2 | ⟨g, cap, cur, e1, e2, e3⟩
  · exact .inl h2
  · exact .inr ⟨g, cap, cur, e1, by omega, e3⟩
theorem SL.later {W W' : World} {b : Nat} {sl : Value} {ys : List (List UInt8)} (h : SL W b sl ys) (hb : Below W.heap.size W W') : SL W' b sl ys :=
  World.ownsRow.kept h ⟨hb.os, hb.tape, hb.output, hb.size, fun k hk _ => hb.block k hk⟩ (row := none) (by cases sl.ownBlock <;> simp)
theorem SL.grown {W W' : World} {b : Nat} {sl v : Value} {ys : List (List UInt8)} (h : SL W b sl ys) (hg : W.grownBy W' v.ownBlock) (hne : sl.ownBlock = none ∨ sl.ownBlock ≠ v.ownBlock) : SL W' b sl ys := World.ownsRow.kept h hg hne
theorem SL.cells {W : World} {b g m c : Nat} {ys : List (List UInt8)} (h : SL W b (.slice (some ⟨g, 0, none⟩) m c) ys) : m = ys.length ∧ ys.length ≤ c ∧ g < W.heap.size ∧ ∀ j u, (ys.map strV)[j]? = some u → W.cell? ⟨g, j, none⟩ = some u := by
  obtain ⟨h1, h2⟩ := h
  rcases h2 with ⟨h2, _⟩ | ⟨g', cap, cur, e1, e2, e3, e4, e5, e6, e7⟩
  · cases h2
  · injection e1 with e1 em ec
    injection e1 with e1
    injection e1 with e1
    subst e1 em ec
    refine ⟨rfl, e4, (Array.getElem?_eq_some_iff.1 e3).1, fun j u hu => ?_⟩
    rw [← e7] at hu
    have hj := (List.getElem?_eq_some_iff.1 hu).1
    rw [List.length_take] at hj
    rw [List.getElem?_take_of_lt (by omega)] at hu
    simp only [World.cell?, e3]
    simpa using hu

/-- 'append(b, ys...)' of texts: b the call's own, ys nil or not. -/
theorem app_strs {w : World} {ops : Array Oper} {rest : List Oper} {o : Oper} {a : Act} {Q : Exit → Act → World → Prop} (hgd : o.guard = none) (s x : Operand)
    (ho : o.op = .call { callee := .builtin .append, args := #[s, x], argTypes := #[53, 53] })
    (base b2 : Nat) (v sl : Value) (xs ys : List (List UInt8)) (hs : a.eval s = v) (hv : SL w base v xs) (hx : a.eval x = sl) (hsl : SL w b2 sl ys) (hbound : xs.length + ys.length ≤ 10000) (hbase : base ≤ w.heap.size)
    (h : ∀ v' w', SL w' base v' (xs ++ ys) → w.grownBy w' v.ownBlock → wpList Tryd.prog ops Q rest (a.put o.dst v') w') : wpList Tryd.prog ops Q (o :: rest) a w := by
  obtain ⟨i0, hi, hz0, hz1, hz2⟩ := info_parts infoStr
  have hm : (10000 : Nat) ≤ maxLen := by decide
  rcases slice_of hsl with rfl | ⟨g, cap, k, rfl⟩
  · have hy : ys = [] := by
      rcases hsl.2 with ⟨_, h0⟩ | ⟨_, _, _, e, _⟩
      · exact List.eq_nil_of_length_eq_zero h0
      · cases e
    subst hy
    refine wpList_append_own_none hgd s x 53 ho base 9 i0 1 Tryd.underlying53 hi v _ _ hs hv hx (h v w ?_ ⟨rfl, rfl, rfl, Nat.le_refl _, fun _ _ _ => rfl⟩)
    rw [List.append_nil]
    exact hv
  · obtain ⟨rfl, hc, hg, hcell⟩ := hsl.cells
    refine wpList_append_own w hgd s x 53 ho base 9 i0 (.string ⟨#[]⟩) 1 16 Tryd.underlying53 hi hz0 hz1 hz2 rfl (by decide) v _ _ hs hv ⟨g, 0, none⟩ ys.length cap (ys.map strV) hx (by simp) ?_ ?_ (by omega) (by omega) hbase ?_
    · intro j u hu
      have hp : (⟨g, 0, none⟩ : Addr).add j = ⟨g, j, none⟩ := by unfold Addr.add; split <;> simp_all
      rw [hp]
      exact hcell j u hu
    · intro u hu
      obtain ⟨y, _, rfl⟩ := List.mem_map.1 hu
      rfl
    · intro v' w' h1 h2 _
      refine h v' w' ?_ h2
      unfold SL
      rw [List.length_append, List.map_append]
      exact h1

theorem join_any (sl : Value) (ys : List (List UInt8)) (c : UInt8) (base : Nat) (w : World) (h : SL w base sl ys) (hlen : (Lib.join ys [c]).length ≤ 140737488355328) (hn : ys.length ≤ 10000) :
    Calls Tryd.prog 25 #[sl, .string ⟨#[c]⟩] w fun e w' => e = .returned (.string (bs (Lib.join ys [c]))) ∧ Below w.heap.size w w' := by
  rcases slice_of h with rfl | ⟨g, cap, k, rfl⟩
  · have hy : ys = [] := by
      rcases h.2 with ⟨_, h0⟩ | ⟨_, _, _, e, _⟩
      · exact List.eq_nil_of_length_eq_zero h0
      · cases e
    subst hy
    exact (Tryd.strings_Join_none none 0 ⟨#[c]⟩ w).mono fun _ _ ⟨h1, h2⟩ => ⟨h1, h2 ▸ Below.refl _ _⟩
  · obtain ⟨rfl, hc, hg, hcell⟩ := h.cells
    have hl : (ys.map bs).map (·.data.toList) = ys := lst_bs ys
    have := Tryd.strings_Join g 0 cap (ys.map bs) ⟨#[c]⟩ w (fun j x hx => by
      have h1 : (ys.map strV)[j]? = some (.string x) := by
        rw [List.getElem?_map] at hx ⊢
        cases hy : ys[j]? with
        | none => rw [hy] at hx; cases hx
        | some y => rw [hy] at hx; injection hx with hx; subst hx; rfl
      have := hcell j _ h1
      rw [Nat.zero_add]
      exact this) hg (by simp; omega) (by simpa using hc) (by rw [hl]; exact hlen)
    rw [hl, List.length_map] at this
    exact this

theorem SL.one (W : World) (z : ByteArray) (l : List UInt8) (h : z = bs l) : SL (W.alloc (.cells #[.string z] 9)) W.heap.size (.slice (some ⟨W.heap.size, 0, none⟩) 1 1) [l] :=
  ⟨by simp, .inr ⟨W.heap.size, 1, #[.string z], rfl, Nat.le_refl _, World.alloc_heap_new W _, Nat.le_refl _, by decide, rfl, by rw [h]; rfl⟩⟩
theorem beq_dec (t : Nat) : ((t : Int) == 0) = decide (t = 0) := by
  by_cases h : t = 0
  · subst h; rfl
  · simp [h]
set_option maxRecDepth 100000 in
set_option maxHeartbeats 2000000 in
theorem areMarks_any (a : Bool) (t : Nat) (b : Bool) (r : Nat) (w : World) :
    Calls Tryd.prog 23 #[.agg #[.bool a, .int .u64 (t : Int), .bool b, .int .u64 (r : Int)]] w fun e w' => e = .returned (.bool (areM a t b r)) ∧ Below w.heap.size w w' := by
  have hb := (Below.refl w.heap.size w).alloc (Nat.le_refl _) (.cells #[.bool a, .int .u64 (t : Int), .bool b, .int .u64 (r : Int)] 29)
  obtain ⟨p1, hp1⟩ : ∃ p, decide (t < 72057594037927936) = p := ⟨_, rfl⟩
  obtain ⟨p2, hp2⟩ : ∃ p, decide (r < 72057594037927936) = p := ⟨_, rfl⟩
  obtain ⟨p3, hp3⟩ : ∃ p, decide (t = 0) = p := ⟨_, rfl⟩
  obtain ⟨p4, hp4⟩ : ∃ p, decide (r = 0) = p := ⟨_, rfl⟩
  have d1 : decide ((t : Int) < 72057594037927936) = p1 := by rw [← hp1]; exact decide_eq_decide.2 (by omega)
  have d2 : decide ((r : Int) < 72057594037927936) = p2 := by rw [← hp2]; exact decide_eq_decide.2 (by omega)
  have d3 : ((t : Int) == 0) = p3 := by rw [← hp3]; exact beq_dec t
  have d4 : ((r : Int) == 0) = p4 := by rw [← hp4]; exact beq_dec r
  have hM : areM a t b r = (p1 && p2 && (a || p3) && (b || p4)) := by rw [areM, hp1, hp2, hp3, hp4]
  rw [hM]
  clear hM hp1 hp2 hp3 hp4
  cases p1
  · go_enter Tryd.func23, Tryd.ntmps23
    go_wp2_with fail
    go_ret
    exact ⟨rfl, hb⟩
  cases p2
  · go_enter Tryd.func23, Tryd.ntmps23
    go_wp2_with fail
    go_ret
    exact ⟨rfl, hb⟩
  cases a <;> cases b <;> cases p3 <;> cases p4 <;>
  · go_enter Tryd.func23, Tryd.ntmps23
    go_wp2_with fail
    go_ret
    exact ⟨rfl, hb⟩
end Go.Proofs.YtkfidolbbnmjfaaDoor
