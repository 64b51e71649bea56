/-
  'append(x, y...)' of spans and of rules, x the call's own, y own, too.
-/
import Derived.Test.YtmjbdjcpjaeemaaDoorPoLaw
namespace Go.Proofs.YtmjbdjcpjaeemaaDoor
open Go.RowKit

theorem SoW.caps {W : World} {base n cap : Nat} {A : Option Addr} {zs : List Sz} (h : SoW W base (.slice A n cap) zs) (hn : zs.length = n) : n ≤ cap ∧ cap ≤ 9223372036854775807 := by
  have ho := h.out
  rw [hn] at ho
  rcases ho.2 with ⟨e, e0⟩ | ⟨g, c, cur, e, _, _, h2, h3, _⟩
  · injection e with _ _ e2; omega
  · injection e with _ _ e2
    unfold maxLen at h3
    omega
/-- Own rows, appended: whatever they hold. -/
theorem app_own {T Ts size bytes : Nat} {z : Value} {i0 : TypeInfo} (hu : Tryd.prog.underlying Ts = some (.slice T)) (hi : Tryd.prog.info? T = some i0) (hz0 : i0.zero = some z) (hz1 : i0.size = size) (hz2 : i0.bytes = bytes) (hzs : z.cells.size = size) (hsz : 0 < size)
    {w : World} {base base2 n m cap c : Nat} {A B : Option Addr} {ty : TypeId} {xs ys : List Value} (hown : w.ownsRow base T size (.slice A n cap) n xs) (hr : w.ownsRow base2 T size (.slice B m c) m ys) (h1 : ∀ u ∈ ys, u.oneCell' = true) (hb : n + m ≤ 1000) (hby : (n + m) * bytes ≤ 140737488355328) (hbase : base ≤ w.heap.size) :
    ∃ A' cap' w', (Builtin.append_ #[Ts, Ts] ty #[.slice A n cap, .slice B m c]).run Tryd.prog w = .ok (.slice A' (n + m) cap') w' ∧ w'.ownsRow base T size (.slice A' (n + m) cap') (n + m) (xs ++ ys) ∧ w.grownBy w' (Value.slice A n cap).ownBlock ∧ ∀ g, (Value.slice A' (n + m) cap').ownBlock = some g → (Value.slice A n cap).ownBlock = some g ∨ w.heap.size ≤ g := by
  by_cases h0 : m = 0
  · subst h0
    have hl2 : ys = [] := List.eq_nil_of_length_eq_zero (by simpa using hr.1)
    subst hl2
    rcases hr.2 with ⟨e, _⟩ | ⟨g, c', cur, e, _⟩
    · injection e with e1 _ e2
      subst e1 e2
      exact ⟨A, cap, w, run_append_owned_none (P := Tryd.prog) w base Ts ty T i0 size hu hi _ n _ hown, by simpa using hown, ⟨rfl, rfl, rfl, Nat.le_refl _, fun _ _ _ => rfl⟩, fun g hg => .inl hg⟩
    · injection e with e1 _ e2
      subst e1 e2
      obtain ⟨v', w', q1, q2, q3, _, q5⟩ := run_append_own_at (P := Tryd.prog) w base Ts ty T i0 z size bytes hu hi hz0 hz1 hz2 hzs hsz _ n _ hown ⟨g, 0, none⟩ 0 c [] (by simp) (by simp) (by simp) (by unfold maxLen; omega) hby hbase
      rcases q2.2 with ⟨e2, en2⟩ | ⟨g2, cap2, cur2, e2, _⟩
      · subst e2
        exact ⟨none, 0, w', by rw [q1, en2], by rw [en2] at q2 ⊢; simpa using q2, q3, fun g hg => by simp [Value.ownBlock] at hg⟩
      · subst e2
        exact ⟨some ⟨g2, 0, none⟩, cap2, w', q1, by simpa using q2, q3, fun g' hg' => by
          rcases q5 with h | h
          · exact .inl (by rw [← h]; exact hg')
          · rw [h] at hg'; injection hg' with hg'; exact .inr (by omega)⟩
  · obtain ⟨g, c', e, _, _⟩ := hr.form (by omega)
    injection e with e1 _ e2
    subst e1 e2
    obtain ⟨g2, cap2, w', q1, q2, q3, q4, _⟩ := run_append_lies (P := Tryd.prog) w Ts ty base T i0 z size bytes hu hi hz0 hz1 hz2 hzs hsz _ n _ hown ⟨g, 0, none⟩ m c ys hr.1 (hr.cells (g := g) rfl) h1 (by omega) (by unfold maxLen; omega) hby hbase _ rfl
    exact ⟨some ⟨g2, 0, none⟩, cap2, w', q1, q2, q3, fun x hx => by
      simp [Value.ownBlock] at hx
      subst hx
      rcases q4 with h | h
      · exact .inl h
      · exact .inr (by omega)⟩
theorem app_spans {w : World} {ops : Array Oper} {rest : List Oper} {o : Oper} {a : Act} {Q : Exit → Act → World → Prop} (hgd : o.guard = none) (s x : Operand)
    (ho : o.op = .call { callee := .builtin .append, args := #[s, x], argTypes := #[28, 28] })
    (base : Nat) (A B : Option Addr) (n cap m c nm : Nat) (hnm : n + m = nm) (zs ms : List Sz) (hs : a.eval s = .slice A n cap) (hzl : zs.length = n) (hown : SoW w base (.slice A n cap) zs) (hx : a.eval x = .slice B m c) (hml : ms.length = m) (hr : SoW w base (.slice B m c) ms)
    (hb : n + m ≤ 1000) (hbase : base ≤ w.heap.size)
    (h : ∀ A' cap' w', SoW w' base (.slice A' nm cap') (zs ++ ms) → w.grownBy w' (Value.slice A n cap).ownBlock → (∀ g, (Value.slice A' nm cap').ownBlock = some g → (Value.slice A n cap).ownBlock = some g ∨ w.heap.size ≤ g) → wpList Tryd.prog ops Q rest (a.put o.dst (.slice A' nm cap')) w') : wpList Tryd.prog ops Q (o :: rest) a w := by
  subst hnm
  obtain ⟨i0, hi, hz0, hz1, hz2⟩ := info_parts info_span
  have h1 := hown.out
  have h2 := hr.out
  rw [hzl] at h1
  rw [hml] at h2
  obtain ⟨A', cap', w', k1, k2, k3, k5⟩ := app_own (ty := o.type) Tryd.underlying28 hi hz0 hz1 hz2 rfl (by decide) h1 h2 (szCells_one ms) hb (by omega) hbase
  have k4 := hown.grown hr.at_ k3 (by rw [hzl, hml]; exact k2)
  refine wpList_plain hgd fun _ hK => ?_
  unfold Oper.wp execOp
  simp only [ho, resolve, invoke, builtin, Sem.run_bind, Sem.run_pure, Result.andThen_ok, List.map_toArray, List.map_cons, List.map_nil, hs, hx, k1]
  exact hK _ _ (h A' cap' w' k4 k3 k5)
theorem app_rules {w : World} {ops : Array Oper} {rest : List Oper} {o : Oper} {a : Act} {Q : Exit → Act → World → Prop} (hgd : o.guard = none) (s x : Operand)
    (ho : o.op = .call { callee := .builtin .append, args := #[s, x], argTypes := #[30, 30] })
    (base base2 : Nat) (A B : Option Addr) (n cap m c nm : Nat) (hnm : n + m = nm) (zs ms : List Ru) (hs : a.eval s = .slice A n cap) (hown : w.ownsRow base 39 4 (.slice A n cap) n (rCells zs)) (hx : a.eval x = .slice B m c) (hr : w.ownsRow base2 39 4 (.slice B m c) m (rCells ms))
    (hb : n + m ≤ 1000) (hbase : base ≤ w.heap.size)
    (h : ∀ A' cap' w', w'.ownsRow base 39 4 (.slice A' nm cap') nm (rCells (zs ++ ms)) → w.grownBy w' (Value.slice A n cap).ownBlock → (∀ g, (Value.slice A' nm cap').ownBlock = some g → (Value.slice A n cap).ownBlock = some g ∨ w.heap.size ≤ g) → wpList Tryd.prog ops Q rest (a.put o.dst (.slice A' nm cap')) w') : wpList Tryd.prog ops Q (o :: rest) a w := by
  subst hnm
  obtain ⟨i0, hi, hz0, hz1, hz2⟩ := info_parts info_rule
  obtain ⟨A', cap', w', k1, k2, k3, k5⟩ := app_own (ty := o.type) Tryd.underlying30 hi hz0 hz1 hz2 rfl (by decide) hown hr (rCells_one_cell ms) hb (by omega) hbase
  rw [← rCells_append] at k2
  refine wpList_plain hgd fun _ hK => ?_
  unfold Oper.wp execOp
  simp only [ho, resolve, invoke, builtin, Sem.run_bind, Sem.run_pure, Result.andThen_ok, List.map_toArray, List.map_cons, List.map_nil, hs, hx, k1]
  exact hK _ _ (h A' cap' w' k2 k3 k5)
/-- Nothing below turns where the row that grows is the call's own. -/
theorem grown_below' {B : Nat} {W0 w w' : World} {v : Value} {base T s n : Nat} {xs : List Value} (hb : Below B W0 w) (hs : B ≤ w.heap.size) (ho : w.ownsRow base T s v n xs) (hg : w.grownBy w' v.ownBlock) (hB : B ≤ base) : Below B W0 w' :=
  hb.grown hg hs fun k hk => by have := (ho.lt k hk).1; omega
theorem SoW.kept {W W' : World} {base : Nat} {v u : Value} {zs us : List Sz} (h : SoW W base v zs) (hu : SoW W base u us) (hgr : W.grownBy W' u.ownBlock) (hv : v.ownBlock = none ∨ v.ownBlock ≠ u.ownBlock) : SoW W' base v zs :=
  ⟨h.out.kept hgr hv, fun z hz => (h.at_ z hz).kept hgr (type_apart (by decide : (36 : TypeId) ≠ 65) hu.out (h.at_ z hz))⟩
theorem fits_few {l : List Sp} {n cap : Nat} (hn : l.length = n) (hc : n ≤ cap) (hc2 : cap ≤ 9223372036854775807) (h : ∀ s ∈ l, s.attrs.length ≤ 2) : Fits n cap l := ⟨hn, hc, hc2, fun i hi => by
  rw [getD_get (by omega) sp0]
  have := h _ (List.getElem_mem (l := l) (n := i) (by omega))
  omega⟩
theorem few_of (m : List (List UInt8)) : ∀ s ∈ spansOf m, s.attrs.length ≤ 2 := fun s hs => by
  obtain ⟨cs, _, e⟩ := List.mem_map.1 (show s ∈ (m.take 8).map spanOf from hs)
  rw [← e]
  exact spanOf_attrs cs
end Go.Proofs.YtmjbdjcpjaeemaaDoor
