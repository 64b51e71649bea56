/-
  What the document's own Close needs: who is kept, place by place; the law of an append to a row of ones kept.
-/
import Derived.Deep.RegionHeld
import Derived.Test.YtmjbdjcpjaeemaaPrRefOrdM
namespace Go.Proofs.Ytmjbdjcpjaeemaa
open Go.RowKit Go.Proofs.PrioMath

/-- What Close has told of the first i places. -/
def outD (k m : Nat) (os : List Of) (i : Nat) : List Of := ((os.take i).filter fun t => decide (rank os t < k)).map fun t => ⟨t.p, (cnts t.w (nx k os) m).1, (cnts t.w (nx k os) m).2⟩
theorem outD_zero (k m : Nat) (os : List Of) : outD k m os 0 = [] := by simp [outD]
theorem outD_all (k m : Nat) (os : List Of) {i : Nat} (h : os.length ≤ i) : outD k m os i = closeL k m os := by
  unfold outD closeL keptL
  rw [List.take_of_length_le h]
theorem outD_step (k m : Nat) {os : List Of} {i : Nat} (h : i < os.length) : outD k m os (i + 1) = if rank os (at_ os i) < k then outD k m os i ++ [⟨(at_ os i).p, (cnts (at_ os i).w (nx k os) m).1, (cnts (at_ os i).w (nx k os) m).2⟩] else outD k m os i := by
  unfold outD
  rw [List.take_succ_eq_append_getElem h, ← at_get h, List.filter_append, List.map_append]
  split
  · rename_i hr; simp [hr]
  · rename_i hr; simp [hr]
theorem outD_len (k m : Nat) (os : List Of) (i : Nat) : (outD k m os i).length ≤ i := by
  unfold outD
  rw [List.length_map]
  refine Nat.le_trans (List.length_filter_le _ _) ?_
  rw [List.length_take]
  omega
/-- The one at place k of the row is the greatest of all others. -/
theorem nx_at {k : Nat} {os L : List Of} (hp : L.Perm os) (hd : De L) (hk : k < L.length) : nx k os = at_ L k := by
  have hr := de_rank hp hd hk
  have hm : at_ L k ∈ os := hp.mem_iff.1 (at_mem hk)
  unfold nx
  cases hf : os.find? fun t => decide (rank os t = k) with
  | none =>
    have := List.find?_eq_none.1 hf _ hm
    simp [hr] at this
  | some t =>
    have h1 := List.find?_some hf
    have h2 := List.mem_of_find?_eq_some hf
    simp only [decide_eq_true_eq] at h1
    obtain ⟨j, hj, rfl⟩ := mem_at (hp.mem_iff.2 h2)
    have := de_rank hp hd hj
    show at_ L j = at_ L k
    rw [show j = k by omega]
theorem nx_few {k : Nat} {os : List Of} (hP : Pl os) (hn : os.length ≤ k) : nx k os = ⟨0, 0, 0⟩ := by
  obtain ⟨s, r, hT⟩ := top_of k hP
  exact (hT.few hn).2.2.2
theorem cnts_none (x m : Nat) : cnts x ⟨0, 0, 0⟩ m = (x, 1) := by simp [cnts]
/-- A row of ones kept, each as it lies. -/
def Rk (W : World) (B : Option Addr) (m : Nat) (l : List Of) : Prop := l.length = m ∧ (0 < m → ∃ g off, B = some ⟨g, off, none⟩ ∧ ∀ j, j < m → W.cell? ⟨g, off + j * 3, none⟩ = some (.int .i64 ((at_ l j).p : Int)) ∧ W.cell? ⟨g, off + j * 3 + 1, none⟩ = some (.int .u64 ((at_ l j).w : Int)) ∧ W.cell? ⟨g, off + j * 3 + 2, none⟩ = some (.int .u64 ((at_ l j).d : Int)))
theorem ck_cell {W : World} {g off m : Nat} {l : List Of} (hl : l.length = m) (hc : ∀ j, j < m → W.cell? ⟨g, off + j * 3, none⟩ = some (.int .i64 ((at_ l j).p : Int)) ∧ W.cell? ⟨g, off + j * 3 + 1, none⟩ = some (.int .u64 ((at_ l j).w : Int)) ∧ W.cell? ⟨g, off + j * 3 + 2, none⟩ = some (.int .u64 ((at_ l j).d : Int))) : ∀ j u, (cl l)[j]? = some u → W.cell? ((⟨g, off, none⟩ : Addr).add j) = some u := by
  intro j u hu
  have hj : j < m * 3 := by
    have := (List.getElem?_eq_some_iff.1 hu).1
    rw [cl_length] at this
    omega
  have hp : (⟨g, off, none⟩ : Addr).add j = ⟨g, off + j, none⟩ := by unfold Addr.add; split <;> simp_all
  rw [hp]
  obtain ⟨q, rfl | rfl | rfl⟩ : ∃ q, j = q * 3 ∨ j = q * 3 + 1 ∨ j = q * 3 + 2 := ⟨j / 3, by omega⟩
  · rw [(hc q (by omega)).1, ← hu, (cl_at (by omega)).1]
  · have := (hc q (by omega)).2.1
    rw [show off + (q * 3 + 1) = off + q * 3 + 1 by omega, this, ← hu, (cl_at (by omega)).2.1]
  · have := (hc q (by omega)).2.2
    rw [show off + (q * 3 + 2) = off + q * 3 + 2 by omega, this, ← hu, (cl_at (by omega)).2.2]
/-- 'append(x, y...)' of ones kept, x the call's own. -/
theorem app_kept {w : World} {ops : Array Oper} {rest : List Oper} {o : Oper} {a : Act} {Q : Exit → Act → World → Prop} (hgd : o.guard = none) (s x : Operand)
    (ho : o.op = .call { callee := .builtin .append, args := #[s, x], argTypes := #[35, 35] })
    (base : Nat) (A B : Option Addr) (n cap m c nm : Nat) (hnm : n + m = nm) (l1 l2 : List Of) (hs : a.eval s = .slice A n cap) (hown : w.ownsRow base 38 3 (.slice A n cap) n (cl l1)) (hx : a.eval x = .slice B m c) (hr : Rk w B m l2) (hBn : B = none → c = 0 ∧ m = 0)
    (hb : n + m ≤ 10001) (hbase : base ≤ w.heap.size)
    (h : ∀ A' cap' w', w'.ownsRow base 38 3 (.slice A' nm cap') nm (cl (l1 ++ l2)) → w.grownBy w' (Value.slice A n cap).ownBlock → (∀ g, (Value.slice A' nm cap').ownBlock = some g → (Value.slice A n cap).ownBlock = some g ∨ w.heap.size ≤ g) → wpList Try.prog ops Q rest (a.put o.dst (.slice A' nm cap')) w') : wpList Try.prog ops Q (o :: rest) a w := by
  subst hnm
  obtain ⟨i0, hi, hz0, hz1, hz2⟩ := info_parts info_kept
  have hm10 : (10001 : Nat) ≤ maxLen := by decide
  have key : ∃ A' cap' w', (Builtin.append_ #[35, 35] o.type #[.slice A n cap, .slice B m c]).run Try.prog w = .ok (.slice A' (n + m) cap') w' ∧ w'.ownsRow base 38 3 (.slice A' (n + m) cap') (n + m) (cl (l1 ++ l2)) ∧ w.grownBy w' (Value.slice A n cap).ownBlock ∧ (∀ g, (Value.slice A' (n + m) cap').ownBlock = some g → (Value.slice A n cap).ownBlock = some g ∨ w.heap.size ≤ g) := by
    by_cases h0 : m = 0
    · subst h0
      have hl2 : l2 = [] := List.eq_nil_of_length_eq_zero hr.1
      subst hl2
      cases B with
      | none =>
        obtain ⟨rfl, _⟩ := hBn rfl
        refine ⟨A, cap, w, run_append_owned_none (P := Try.prog) w base 35 o.type 38 i0 3 Try.underlying35 hi _ n _ hown, by simpa using hown, ⟨rfl, rfl, rfl, Nat.le_refl _, fun _ _ _ => rfl⟩, fun g hg => .inl hg⟩
      | some b =>
        obtain ⟨v', w', q1, q2, q3, q4, q5⟩ := run_append_own_at (P := Try.prog) w base 35 o.type 38 i0 (.agg #[.int .i64 0, .int .u64 0, .int .u64 0]) 3 24 Try.underlying35 hi hz0 hz1 hz2 rfl (by decide) _ n _ hown b 0 c [] rfl (by simp) (by simp) (by omega) (by omega) hbase
        rcases hown.2 with ⟨e, en⟩ | ⟨g, cap', cur, e, _⟩
        · rcases q2.2 with ⟨e2, en2⟩ | ⟨g2, cap2, cur2, e2, _⟩
          · subst e2
            refine ⟨none, 0, w', by rw [q1, en], by rw [en] at q2 ⊢; simpa using q2, q3, fun g hg => by simp [Value.ownBlock] at hg⟩
          · subst e2
            refine ⟨some ⟨g2, 0, none⟩, cap2, w', q1, by simpa using q2, q3, fun g hg => ?_⟩
            rcases q5 with h | h
            · exact .inl (by rw [← h]; exact hg)
            · rw [h] at hg; injection hg with hg; exact .inr (by omega)
        · rcases q2.2 with ⟨e2, en2⟩ | ⟨g2, cap2, cur2, e2, _⟩
          · subst e2
            refine ⟨none, 0, w', by rw [q1, show n = 0 by omega], by rw [show n = 0 by omega] at q2 ⊢; simpa using q2, q3, fun g hg => by simp [Value.ownBlock] at hg⟩
          · subst e2
            refine ⟨some ⟨g2, 0, none⟩, cap2, w', q1, by simpa using q2, q3, fun g hg => ?_⟩
            rcases q5 with h | h
            · exact .inl (by rw [← h]; exact hg)
            · rw [h] at hg; injection hg with hg; exact .inr (by omega)
    · obtain ⟨g, off, rfl, hc⟩ := hr.2 (by omega)
      obtain ⟨g2, cap2, w', q1, q2, q3, q4, _⟩ := run_append_lies (P := Try.prog) w 35 o.type base 38 i0 (.agg #[.int .i64 0, .int .u64 0, .int .u64 0]) 3 24 Try.underlying35 hi hz0 hz1 hz2 rfl (by decide) _ n _ hown ⟨g, off, none⟩ m c (cl l2) (by rw [cl_length, hr.1]) (ck_cell hr.1 hc) (cl_one l2) (by omega) (by omega) (by omega) hbase _ rfl
      refine ⟨_, cap2, w', q1, by rw [cl_append]; exact q2, q3, fun x hx => ?_⟩
      simp [Value.ownBlock] at hx
      subst hx
      rcases q4 with h | h
      · exact .inl h
      · exact .inr (by omega)
  obtain ⟨A', cap', w', k1, k2, k3, k4⟩ := key
  refine wpList_plain hgd fun _ hK => ?_
  unfold Oper.wp execOp
  simp only [ho, resolve, invoke, builtin, Sem.run_bind, Sem.run_pure, Result.andThen_ok, List.map_toArray, List.map_cons, List.map_nil, hs, hx, k1]
  exact hK _ _ (h A' cap' w' k2 k3 k4)
end Go.Proofs.Ytmjbdjcpjaeemaa
