/-
  What the document's own order needs: places in a row by what they weigh; laws of appends of rows of ints, and of what is cut off one.
-/
import Derived.Deep.RegionHeld
import Derived.Test.YtmjbdjcpjaeemaaPrRefAdd
namespace Go.Proofs.Ytmjbdjcpjaeemaa
open Go.RowKit Go.Proofs.PrioMath

/-- How many stand ahead of t, where the greater stands first; the row with t in its place. -/
def cD (t : Of) (L : List Of) : Nat := (L.takeWhile fun a => !lt a t).length
def insD (t : Of) (L : List Of) : List Of := L.take (cD t L) ++ t :: L.drop (cD t L)
/-- The greater stands first. -/
def De (L : List Of) : Prop := L.Pairwise fun a b => lt b a = true
theorem cD_le (t : Of) (L : List Of) : cD t L ≤ L.length := by
  unfold cD
  exact (List.takeWhile_sublist _).length_le
theorem insD_perm (t : Of) (L : List Of) : (insD t L).Perm (t :: L) := by
  unfold insD
  refine List.perm_middle.trans ?_
  rw [List.take_append_drop]
theorem insD_length (t : Of) (L : List Of) : (insD t L).length = L.length + 1 := by simpa using (insD_perm t L).length_eq
theorem cD_of {t : Of} {L : List Of} {k : Nat} (hk : k ≤ L.length) (h1 : ∀ i, i < k → lt (at_ L i) t = false) (h2 : k < L.length → lt (at_ L k) t = true) : k = cD t L := by
  induction L generalizing k with
  | nil => simp at hk; subst hk; rfl
  | cons a r ih =>
    unfold cD
    rw [List.takeWhile_cons]
    cases k with
    | zero =>
      have : lt a t = true := h2 (by simp)
      simp [this]
    | succ k =>
      have h0 : lt a t = false := h1 0 (by omega)
      have := ih (k := k) (by simpa using hk) (fun i hi => h1 (i + 1) (by omega)) (fun h => h2 (by simpa using h))
      unfold cD at this
      simp [h0, ← this]
theorem insD_de {t : Of} {L : List Of} (h : De L) (hn : ∀ a ∈ L, a.p ≠ t.p) : De (insD t L) := by
  unfold insD De
  obtain ⟨e1, e2⟩ := takeWhile_take (fun a => !lt a t) L
  have e1' : L.take (cD t L) = L.takeWhile fun a => !lt a t := e1
  have e2' : L.drop (cD t L) = L.dropWhile fun a => !lt a t := e2
  have hL := h
  unfold De at hL
  rw [← List.takeWhile_append_dropWhile (p := fun a => !lt a t) (l := L), List.pairwise_append] at hL
  obtain ⟨p1, p2, p3⟩ := hL
  have hd : ∀ x ∈ L.dropWhile fun a => !lt a t, lt x t = true := by
    cases hc : L.dropWhile fun a => !lt a t with
    | nil => intro x hx; cases hx
    | cons b r =>
      have hb : lt b t = true := by
        have h2 := List.head?_dropWhile_not (fun a => !lt a t) L
        rw [hc] at h2
        simpa using h2
      rw [hc] at p2
      intro x hx
      rcases List.mem_cons.1 hx with rfl | hx
      · exact hb
      · exact lt_trans ((List.pairwise_cons.1 p2).1 x hx) hb
  have ht : ∀ x ∈ L.takeWhile fun a => !lt a t, lt t x = true := fun x hx => by
    have hm : x ∈ L := (List.takeWhile_sublist _).subset hx
    have h0 : lt x t = false := by
      have := List.all_eq_true.1 (List.all_takeWhile (p := fun a => !lt a t) (l := L)) _ hx
      simpa using this
    exact other h0 (hn x hm)
  rw [e1', e2', List.pairwise_append]
  refine ⟨p1, List.pairwise_cons.2 ⟨hd, p2⟩, fun a ha b hb => ?_⟩
  rcases List.mem_cons.1 hb with rfl | hb
  · exact ht a ha
  · exact p3 a ha b hb
/-- What stands at j is the j-th greatest. -/
theorem de_rank {os L : List Of} (hp : L.Perm os) (h : De L) {j : Nat} (hj : j < L.length) : rank os (at_ L j) = j := by
  rw [← rank_perm hp]
  unfold rank
  have hs : L = L.take j ++ L[j] :: L.drop (j + 1) := by
    rw [← List.drop_eq_getElem_cons hj, List.take_append_drop]
  have hat : at_ L j = L[j] := at_get hj
  rw [hat]
  have h' := h
  unfold De at h'
  rw [hs, List.pairwise_append] at h'
  obtain ⟨_, p2, p3⟩ := h'
  have q1 : (L.take j).countP (fun x => lt L[j] x) = j := by
    rw [List.countP_eq_length.2 fun x hx => p3 x hx _ List.mem_cons_self, List.length_take]
    omega
  have q2 : (L.drop (j + 1)).countP (fun x => lt L[j] x) = 0 :=
    List.countP_eq_zero.2 fun x hx => by
      have := (List.pairwise_cons.1 p2).1 x hx
      simp [lt_asymm this]
  calc L.countP (fun x => lt L[j] x) = (L.take j ++ L[j] :: L.drop (j + 1)).countP (fun x => lt L[j] x) := by rw [← hs]
    _ = j := by rw [List.countP_append, List.countP_cons, q1, q2, lt_irrefl]; simp

theorem info_int' : (Try.prog.info? 3).map (fun i => (i.zero, i.size, i.bytes)) = some (some (.int .i64 0), 1, 8) := by kernel_rfl
/-- The cells of a row of places. -/
def il (l : List Of) : List Value := l.map fun t => .int .i64 (t.p : Int)
theorem il_append (a b : List Of) : il (a ++ b) = il a ++ il b := by simp [il]
theorem il_length (l : List Of) : (il l).length = l.length := by simp [il]
theorem il_at {l : List Of} {i : Nat} (h : i < l.length) : (il l)[i]? = some (.int .i64 ((at_ l i).p : Int)) := by
  unfold il
  rw [List.getElem?_map, at_some h]
  rfl
theorem il_one (l : List Of) : ∀ u ∈ il l, u.oneCell' = true := fun u hu => by
  obtain ⟨t, _, h⟩ := List.mem_map.1 hu
  subst h
  rfl
/-- A row of places, each as it lies. -/
def Ri (W : World) (B : Option Addr) (m : Nat) (l : List Of) : Prop := l.length = m ∧ (0 < m → ∃ g off, B = some ⟨g, off, none⟩ ∧ ∀ j, j < m → W.cell? ⟨g, off + j, none⟩ = some (.int .i64 ((at_ l j).p : Int)))
theorem il_cell {W : World} {g off m : Nat} {l : List Of} (hl : l.length = m) (hc : ∀ j, j < m → W.cell? ⟨g, off + j, none⟩ = some (.int .i64 ((at_ l j).p : Int))) : ∀ j u, (il l)[j]? = some u → W.cell? ((⟨g, off, none⟩ : Addr).add j) = some u := by
  intro j u hu
  have hj : j < m := by
    have := (List.getElem?_eq_some_iff.1 hu).1
    rw [il_length] at this
    omega
  have hp : (⟨g, off, none⟩ : Addr).add j = ⟨g, off + j, none⟩ := by unfold Addr.add; split <;> simp_all
  rw [hp, hc j hj, ← hu, il_at (by omega)]
/-- 'append(x, y...)' of places, x the call's own. -/
theorem app_ints {w : World} {ops : Array Oper} {rest : List Oper} {o : Oper} {a : Act} {Q : Exit → Act → World → Prop} (hgd : o.guard = none) (s x : Operand)
    (ho : o.op = .call { callee := .builtin .append, args := #[s, x], argTypes := #[69, 69] })
    (base : Nat) (A B : Option Addr) (n cap m c nm : Nat) (hnm : n + m = nm) (l1 l2 : List Of) (hs : a.eval s = .slice A n cap) (hown : w.ownsRow base 3 1 (.slice A n cap) n (il l1)) (hx : a.eval x = .slice B m c) (hr : Ri w B m l2) (hBn : B = none → c = 0 ∧ m = 0)
    (hb : n + m ≤ 10001) (hbase : base ≤ w.heap.size)
    (h : ∀ A' cap' w', w'.ownsRow base 3 1 (.slice A' nm cap') nm (il (l1 ++ l2)) → w.grownBy w' (Value.slice A n cap).ownBlock → (∀ g, (Value.slice A' nm cap').ownBlock = some g → (Value.slice A n cap).ownBlock = some g ∨ w.heap.size ≤ g) → wpList Try.prog ops Q rest (a.put o.dst (.slice A' nm cap')) w') : wpList Try.prog ops Q (o :: rest) a w := by
  subst hnm
  obtain ⟨i0, hi, hz0, hz1, hz2⟩ := info_parts info_int'
  have hm10 : (10001 : Nat) ≤ maxLen := by decide
  have key : ∃ A' cap' w', (Builtin.append_ #[69, 69] o.type #[.slice A n cap, .slice B m c]).run Try.prog w = .ok (.slice A' (n + m) cap') w' ∧ w'.ownsRow base 3 1 (.slice A' (n + m) cap') (n + m) (il (l1 ++ l2)) ∧ w.grownBy w' (Value.slice A n cap).ownBlock ∧ (∀ g, (Value.slice A' (n + m) cap').ownBlock = some g → (Value.slice A n cap).ownBlock = some g ∨ w.heap.size ≤ g) := by
    by_cases h0 : m = 0
    · subst h0
      have hl2 : l2 = [] := List.eq_nil_of_length_eq_zero hr.1
      subst hl2
      cases B with
      | none =>
        obtain ⟨rfl, _⟩ := hBn rfl
        refine ⟨A, cap, w, run_append_owned_none (P := Try.prog) w base 69 o.type 3 i0 1 Try.underlying69 hi _ n _ hown, by simpa using hown, ⟨rfl, rfl, rfl, Nat.le_refl _, fun _ _ _ => rfl⟩, fun g hg => .inl hg⟩
      | some b =>
        obtain ⟨v', w', q1, q2, q3, q4, q5⟩ := run_append_own_at (P := Try.prog) w base 69 o.type 3 i0 (.int .i64 0) 1 8 Try.underlying69 hi hz0 hz1 hz2 rfl (by decide) _ n _ hown b 0 c [] rfl (by simp) (by simp) (by omega) (by omega) hbase
        rcases hown.2 with ⟨e, en⟩ | ⟨g, cap', cur, e, _⟩
        · rcases q2.2 with ⟨e2, en2⟩ | ⟨g2, cap2, cur2, e2, _⟩
          · subst e2
            refine ⟨none, 0, w', by rw [q1, en], by rw [en] at q2 ⊢; simpa using q2, q3, fun g hg => by simp [Value.ownBlock] at hg⟩
          · subst e2
            refine ⟨some ⟨g2, 0, none⟩, cap2, w', q1, by simpa using q2, q3, fun g hg => ?_⟩
            rcases q5 with h | h
            · exact .inl (by rw [← h]; exact hg)
            · rw [h] at hg; injection hg with hg; exact .inr (by omega)
        · rcases q2.2 with ⟨e2, en2⟩ | ⟨g2, cap2, cur2, e2, _⟩
          · subst e2
            refine ⟨none, 0, w', by rw [q1, show n = 0 by omega], by rw [show n = 0 by omega] at q2 ⊢; simpa using q2, q3, fun g hg => by simp [Value.ownBlock] at hg⟩
          · subst e2
            refine ⟨some ⟨g2, 0, none⟩, cap2, w', q1, by simpa using q2, q3, fun g hg => ?_⟩
            rcases q5 with h | h
            · exact .inl (by rw [← h]; exact hg)
            · rw [h] at hg; injection hg with hg; exact .inr (by omega)
    · obtain ⟨g, off, rfl, hc⟩ := hr.2 (by omega)
      obtain ⟨g2, cap2, w', q1, q2, q3, q4, _⟩ := run_append_lies (P := Try.prog) w 69 o.type base 3 i0 (.int .i64 0) 1 8 Try.underlying69 hi hz0 hz1 hz2 rfl (by decide) _ n _ hown ⟨g, off, none⟩ m c (il l2) (by rw [il_length, hr.1, Nat.mul_one]) (il_cell hr.1 hc) (il_one l2) (by omega) (by omega) (by omega) hbase _ rfl
      refine ⟨_, cap2, w', q1, by rw [il_append]; exact q2, q3, fun x hx => ?_⟩
      simp [Value.ownBlock] at hx
      subst hx
      rcases q4 with h | h
      · exact .inl h
      · exact .inr (by omega)
  obtain ⟨A', cap', w', k1, k2, k3, k4⟩ := key
  refine wpList_plain hgd fun _ hK => ?_
  unfold Oper.wp execOp
  simp only [ho, resolve, invoke, builtin, Sem.run_bind, Sem.run_pure, Result.andThen_ok, List.map_toArray, List.map_cons, List.map_nil, hs, hx, k1]
  exact hK _ _ (h A' cap' w' k2 k3 k4)
/-- 'l[i:]'. -/
theorem cut_from (A : Option Addr) (n cap i : Nat) (hi : i ≤ n) (W : World) (s : List Of) (hs : s.length = n) (hc : 0 < n → ∃ g, A = some ⟨g, 0, none⟩ ∧ ∀ j, j < n → W.cell? ⟨g, j, none⟩ = some (.int .i64 ((at_ s j).p : Int))) (hcap : n ≤ cap) (hA : A = none → cap = 0) :
    ∃ A2, (∀ W', (Instr.slice 69 (.slice A n cap) (some (.int .i64 (i : Int))) none none).run Try.prog W' = .ok (.slice A2 (n - i) (cap - i)) W') ∧ Ri W A2 (n - i) (s.drop i) ∧ (A2 = none → cap - i = 0 ∧ n - i = 0) := by
  have hrun : ∀ W', (Instr.slice 69 (.slice A n cap) (some (.int .i64 (i : Int))) none none).run Try.prog W' = .ok (.slice (if cap = i then A else A.map (·.add i)) (n - i) (cap - i)) W' := fun W' => by
    rw [run_slice_l W' 69 A n cap (by kernel_rfl) .i64 (i : Int) (by omega) (by omega)]
    have hz : (sizeOf (Try.prog.elem 69)).run Try.prog W' = .ok 1 W' := by kernel_rfl
    rw [hz]
    simp only [sliced, Result.andThen, Int.toNat_natCast, Nat.mul_one]
  refine ⟨_, hrun, ⟨by rw [List.length_drop, hs], fun h0 => ?_⟩, fun h => ?_⟩
  · obtain ⟨g, rfl, hcell⟩ := hc (by omega)
    rw [if_neg (by omega)]
    have hp : (⟨g, 0, none⟩ : Addr).add i = ⟨g, i, none⟩ := by unfold Addr.add; split <;> simp_all
    refine ⟨g, i, by simp [hp], fun j hj => ?_⟩
    have hat : at_ (s.drop i) j = at_ s (i + j) := by simp [at_, List.getD]
    rw [hat]
    exact hcell (i + j) (by omega)
  · have hAn : A = none := by
      by_cases e : cap = i
      · rwa [if_pos e] at h
      · rw [if_neg e] at h
        cases A with
        | none => rfl
        | some x => cases h
    have := hA hAn
    omega
theorem Ri.take {W : World} {A : Option Addr} {n i : Nat} {s : List Of} (hi : i ≤ n) (hs : s.length = n) (hc : 0 < n → ∃ g, A = some ⟨g, 0, none⟩ ∧ ∀ j, j < n → W.cell? ⟨g, j, none⟩ = some (.int .i64 ((at_ s j).p : Int))) : Ri W A i (s.take i) := by
  refine ⟨by rw [List.length_take]; omega, fun h0 => ?_⟩
  obtain ⟨g, rfl, hcell⟩ := hc (by omega)
  refine ⟨g, 0, rfl, fun j hj => ?_⟩
  have hat : at_ (s.take i) j = at_ s j := by simp [at_, List.getD, hj]
  rw [hat, Nat.zero_add]
  exact hcell j (by omega)

end Go.Proofs.Ytmjbdjcpjaeemaa
