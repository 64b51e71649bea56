/-
  A map of the call's own as a list of its entries; the keys that are traces.
-/
import Derived.DeepKeys4
import Derived.Deep.QuietTactic
import Derived.BigQuiet
import Derived.Test.YthpcnnkdpgjiiaaHp0
namespace Go.Proofs.Ythpcnnkdpgjiiaa
open Go.RowKit Go.Maps

abbrev Rr := Value → Option (DataW Unit × List MemPlace)
/-- A value is told by what it reads as. -/
def Rd (R : Rr) : Prop := ∀ v v' d ps ps', R v = some (d, ps) → R v' = some (d, ps') → v = v'
/-- The map D has these entries. -/
structure As (R : Rr) (D : DataW Unit) (l : List (Lit × Value)) : Prop where
  size : Maps.size D = l.length
  nd : l.Pairwise (fun a b => a.1 ≠ b.1)
  has : ∀ p ∈ l, Maps.has D p.1 = true ∧ ∃ ps, ∀ z, R p.2 = some (D.atKey p.1 z, ps)
  only : ∀ k, Maps.has D k = true → ∃ p ∈ l, p.1 = k
def Am (W : World) (k : TypeId) (R : Rr) (M : Nat) (l : List (Lit × Value)) : Prop := ∃ D : DataW Unit, W.ownsMap Try.prog k R M l.length D ∧ As R D l
theorem As.nil (R : Rr) : As R (.map []) [] := ⟨rfl, List.Pairwise.nil, by simp, fun k h => by simp [Maps.has_eq] at h⟩
theorem As.none {R : Rr} {D : DataW Unit} {l : List (Lit × Value)} (h : As R D l) {k : Lit} (hn : ∀ p ∈ l, p.1 ≠ k) : Maps.has D k = false := by
  cases e : Maps.has D k
  · rfl
  · obtain ⟨p, hp, e2⟩ := h.only k e
    exact absurd e2 (hn p hp)
theorem As.put_new {R : Rr} {D : DataW Unit} {l : List (Lit × Value)} (h : As R D l) (hT : Tidy D) {k : Lit} (hk : WideAt.IsKeyLit k) (hn : ∀ p ∈ l, p.1 ≠ k) {v : Value} {d : DataW Unit} {ps : List MemPlace} (hv : R v = some (d, ps)) : As R (D.put k d) (l ++ [(k, v)]) := by
  refine ⟨by rw [size_put hT, h.none hn, h.size]; simp, ?_, fun p hp => ?_, fun k' hk' => ?_⟩
  · exact List.pairwise_append.2 ⟨h.nd, by simp, fun a ha b hb => by rw [List.mem_singleton.1 hb]; exact hn a ha⟩
  · rcases List.mem_append.1 hp with e | e
    · have hne := hn p e
      rw [has_put_other hne]
      refine ⟨(h.has p e).1, ?_⟩
      obtain ⟨ps', h2⟩ := (h.has p e).2
      exact ⟨ps', fun z => by rw [atKey_put_other hne]; exact h2 z⟩
    · rw [List.mem_singleton.1 e, has_put_same hT.isMap hk]
      exact ⟨rfl, ps, fun z => by rw [atKey_put_same hT.isMap hk]; exact hv⟩
  · by_cases e : k' = k
    · exact ⟨(k, v), by simp, e.symm⟩
    · rw [has_put_other e] at hk'
      obtain ⟨p, hp, e2⟩ := h.only k' hk'
      exact ⟨p, by simp [hp], e2⟩
theorem As.put_old {R : Rr} {D : DataW Unit} {a b : List (Lit × Value)} {k : Lit} {v0 : Value} (h : As R D (a ++ (k, v0) :: b)) (hT : Tidy D) (hk : WideAt.IsKeyLit k) {v : Value} {d : DataW Unit} {ps : List MemPlace} (hv : R v = some (d, ps)) : As R (D.put k d) (a ++ (k, v) :: b) := by
  have hnd := h.nd
  have hin : Maps.has D k = true := (h.has (k, v0) (by simp)).1
  have ha : ∀ p ∈ a, p.1 ≠ k := fun p hp => (List.pairwise_append.1 hnd).2.2 p hp (k, v0) (by simp)
  have hb : ∀ p ∈ b, p.1 ≠ k := fun p hp => Ne.symm ((List.pairwise_cons.1 (List.pairwise_append.1 hnd).2.1).1 p hp)
  have oth : ∀ p, (p ∈ a ∨ p ∈ b) → p.1 ≠ k ∧ p ∈ a ++ (k, v0) :: b := fun p hp => hp.elim (fun e => ⟨ha p e, by simp [e]⟩) (fun e => ⟨hb p e, by simp [e]⟩)
  refine ⟨by rw [size_put hT, hin, if_pos rfl, h.size]; simp, ?_, fun p hp => ?_, fun k' hk' => ?_⟩
  · refine List.pairwise_append.2 ⟨(List.pairwise_append.1 hnd).1, List.pairwise_cons.2 ⟨fun p hp => (hb p hp).symm, (List.pairwise_cons.1 (List.pairwise_append.1 hnd).2.1).2⟩, fun x hx y hy => ?_⟩
    rcases List.mem_cons.1 hy with rfl | e
    · exact ha x hx
    · exact (List.pairwise_append.1 hnd).2.2 x hx y (by simp [e])
  · by_cases e : p = (k, v)
    · rw [e, has_put_same hT.isMap hk]
      exact ⟨rfl, ps, fun z => by rw [atKey_put_same hT.isMap hk]; exact hv⟩
    · have hp' : p ∈ a ∨ p ∈ b := by
        rcases List.mem_append.1 hp with h1 | h1
        · exact .inl h1
        · exact .inr ((List.mem_cons.1 h1).resolve_left e)
      obtain ⟨hne, hm⟩ := oth p hp'
      rw [has_put_other hne]
      refine ⟨(h.has p hm).1, ?_⟩
      obtain ⟨ps', h2⟩ := (h.has p hm).2
      exact ⟨ps', fun z => by rw [atKey_put_other hne]; exact h2 z⟩
  · by_cases e : k' = k
    · exact ⟨(k, v), by simp, e.symm⟩
    · rw [has_put_other e] at hk'
      obtain ⟨p, hp, e2⟩ := h.only k' hk'
      rcases List.mem_append.1 hp with h1 | h1
      · exact ⟨p, by simp [h1], e2⟩
      · rcases List.mem_cons.1 h1 with h2 | h2
        · rw [h2] at e2; exact absurd e2.symm e
        · exact ⟨p, by simp [h2], e2⟩
theorem As.del {R : Rr} {D : DataW Unit} {a b : List (Lit × Value)} {k : Lit} {v0 : Value} (h : As R D (a ++ (k, v0) :: b)) (hT : Tidy D) : As R (D.del k) (a ++ b) := by
  have hnd := h.nd
  have hin : Maps.has D k = true := (h.has (k, v0) (by simp)).1
  have ha : ∀ p ∈ a, p.1 ≠ k := fun p hp => (List.pairwise_append.1 hnd).2.2 p hp (k, v0) (by simp)
  have hb : ∀ p ∈ b, p.1 ≠ k := fun p hp => Ne.symm ((List.pairwise_cons.1 (List.pairwise_append.1 hnd).2.1).1 p hp)
  refine ⟨?_, ?_, fun p hp => ?_, fun k' hk' => ?_⟩
  · have := size_del (k := k) hT
    rw [hin, h.size] at this
    simp at this ⊢
    omega
  · exact List.pairwise_append.2 ⟨(List.pairwise_append.1 hnd).1, (List.pairwise_cons.1 (List.pairwise_append.1 hnd).2.1).2, fun x hx y hy => (List.pairwise_append.1 hnd).2.2 x hx y (by simp [hy])⟩
  · have hne : p.1 ≠ k := (List.mem_append.1 hp).elim (ha p) (hb p)
    have hm : p ∈ a ++ (k, v0) :: b := by
      rcases List.mem_append.1 hp with e | e <;> simp [e]
    rw [has_del_other hne]
    refine ⟨(h.has p hm).1, ?_⟩
    obtain ⟨ps', h2⟩ := (h.has p hm).2
    exact ⟨ps', fun z => by rw [atKey_del_other hne]; exact h2 z⟩
  · by_cases e : k' = k
    · subst e; rw [has_del_same] at hk'; cases hk'
    · rw [has_del_other e] at hk'
      obtain ⟨p, hp, e2⟩ := h.only k' hk'
      rcases List.mem_append.1 hp with h1 | h1
      · exact ⟨p, by simp [h1], e2⟩
      · rcases List.mem_cons.1 h1 with h2 | h2
        · rw [h2] at e2; exact absurd e2.symm e
        · exact ⟨p, by simp [h2], e2⟩
theorem ownsMap_resize {W : World} {k : TypeId} {R : Rr} {M n m : Nat} {D : DataW Unit} (h : W.ownsMap Try.prog k R M n D) (hm : Maps.size D ≤ m) : W.ownsMap Try.prog k R M m D := by
  obtain ⟨es, clock, h1, h2, h3, h4⟩ := h
  refine ⟨es, clock, h1, h2, ?_, h4⟩
  subst h4
  rw [Maps.size_eq, length_read] at hm
  exact hm
theorem ownsMap_same {W W' : World} {k : TypeId} {R : Rr} {M n : Nat} {D : DataW Unit} (h : W.ownsMap Try.prog k R M n D) (hb : W'.heap[M]? = W.heap[M]?) : W'.ownsMap Try.prog k R M n D := by
  obtain ⟨es, clock, h1, h2⟩ := h
  exact ⟨es, clock, hb.trans h1, h2⟩
theorem Am.same {W W' : World} {k : TypeId} {R : Rr} {M : Nat} {l : List (Lit × Value)} (h : Am W k R M l) (hb : W'.heap[M]? = W.heap[M]?) : Am W' k R M l := by
  obtain ⟨D, h1, h2⟩ := h
  exact ⟨D, ownsMap_same h1 hb, h2⟩
theorem Am.lt {W : World} {k : TypeId} {R : Rr} {M : Nat} {l : List (Lit × Value)} (h : Am W k R M l) : M < W.heap.size := by
  obtain ⟨D, h1, _⟩ := h
  exact h1.lt
theorem Am.nd {W : World} {k : TypeId} {R : Rr} {M : Nat} {l : List (Lit × Value)} (h : Am W k R M l) : l.Pairwise (fun a b => a.1 ≠ b.1) := by
  obtain ⟨D, _, h1⟩ := h
  exact h1.nd
theorem Am.of {W : World} {k : TypeId} {R : Rr} {M n : Nat} {D : DataW Unit} {l : List (Lit × Value)} (h : W.ownsMap Try.prog k R M n D) (hA : As R D l) : Am W k R M l := ⟨D, ownsMap_resize h (by rw [hA.size]; exact Nat.le_refl _), hA⟩
theorem Am.made (W : World) (k : TypeId) (R : Rr) : Am (W.alloc (.map #[] 0)) k R W.heap.size [] := ⟨.map [], World.ownsMap_made _ _ _ _, As.nil R⟩
/-- A look-up with 'is'. -/
theorem Am.look {W : World} {k : TypeId} {R : Rr} {M : Nat} {l : List (Lit × Value)} (h : Am W k R M l) (hR : Rd R) (K : Keyed Try.prog k) {t e : TypeId} (ht : Try.prog.underlying t = some (.map k e)) {z : Value} (hz : ∀ W', (zeroValue e).run Try.prog W' = .ok z W') {zd : DataW Unit} {zp : List MemPlace} (hzd : R z = some (zd, zp))
    {key : Value} {kl : Lit} (hkey : keyOf Try.prog k key = some kl) (q : Nat) :
    (∀ v, (kl, v) ∈ l → (Instr.lookup t (.map (some M)) key true).run Try.prog (W.drewN q) = .ok (.tuple #[v, .bool true]) (W.drewN q)) ∧
    ((∀ p ∈ l, p.1 ≠ kl) → (Instr.lookup t (.map (some M)) key true).run Try.prog (W.drewN q) = .ok (.tuple #[z, .bool false]) (W.drewN q)) := by
  obtain ⟨D, h1, h2⟩ := h
  have hq : (W.drewN q).ownsMap Try.prog k R M l.length D := ownsMap_same h1 rfl
  obtain ⟨v, ps, hr, hv⟩ := hq.look_ok K ht (hz _) hzd hkey
  refine ⟨fun v' hm => ?_, fun hn => ?_⟩
  · obtain ⟨a1, ps', a2⟩ := h2.has _ hm
    rw [hr, a1, hR _ _ _ _ _ hv (a2 zd)]
  · have a1 := h2.none hn
    rw [hr, a1]
    have hat : D.atKey kl zd = zd := by
      obtain ⟨es, clock, hb, F, _, rfl⟩ := hq
      rcases Maps.fit_look true K ht (hz _) hb F hkey with ⟨_, _, hat⟩ | ⟨e0, y, _, _, _, _, hat, _⟩
      · exact hat zd
      · rw [Maps.has_true_of_atKey hat] at a1; cases a1
    rw [hat] at hv
    rw [hR _ _ _ _ _ hv hzd]
/-- A look-up without 'is'. -/
theorem Am.look1 {W : World} {k : TypeId} {R : Rr} {M : Nat} {l : List (Lit × Value)} (h : Am W k R M l) (hR : Rd R) (K : Keyed Try.prog k) {t e : TypeId} (ht : Try.prog.underlying t = some (.map k e)) {z : Value} (hz : ∀ W', (zeroValue e).run Try.prog W' = .ok z W') {zd : DataW Unit} {zp : List MemPlace} (hzd : R z = some (zd, zp))
    {key : Value} {kl : Lit} (hkey : keyOf Try.prog k key = some kl) (q : Nat) : ∀ v, (kl, v) ∈ l → (Instr.lookup t (.map (some M)) key false).run Try.prog (W.drewN q) = .ok v (W.drewN q) := fun v' hm => by
  obtain ⟨D, h1, h2⟩ := h
  have hq : (W.drewN q).ownsMap Try.prog k R M l.length D := ownsMap_same h1 rfl
  obtain ⟨v, ps, hr, hv⟩ := hq.lookup K ht (hz _) hzd hkey
  obtain ⟨a1, ps', a2⟩ := h2.has _ hm
  rw [hr, hR _ _ _ _ _ hv (a2 zd)]

/-- The keys that are traces. -/
def tk (hi lo : Nat) : Lit := .string (keyBytes [.int .u64 (hi : Int), .int .u64 (lo : Int)])
theorem law_tr : Keyed Try.prog 83 := Keyed.of_law (deep_law_laid (by kernel_rfl) (m := 2) (by omega) (of_decide_eq_true (by kernel_rfl)) (by kernel_rfl) (by rw [Try.underlying83]))
theorem wfu {n : Nat} (h : n < 18446744073709551616) : (Lit.int .u64 (n : Int)).wf = true := by
  have e1 : IntKind.u64.min = 0 := rfl
  have e2 : IntKind.u64.max = 18446744073709551615 := rfl
  simp only [Lit.wf, Bool.and_eq_true, decide_eq_true_eq]
  omega
theorem key_tr {hi lo : Nat} (h1 : hi < 18446744073709551616) (h2 : lo < 18446744073709551616) : keyOf Try.prog 83 (.agg #[.int .u64 (hi : Int), .int .u64 (lo : Int)]) = some (tk hi lo) := by
  unfold keyOf
  simp only [Try.underlying83]
  rw [if_pos (by rw [show Try.prog.keyType 83 = true by kernel_rfl]; simp [Value.formed, Try.underlying83, show Try.prog.cellsOf 83 = 2 by kernel_rfl])]
  unfold Program.keyLits
  simp only [Try.underlying83, Value.cells]
  rw [if_pos ⟨by rw [show Try.prog.cellsOf 83 = 2 by kernel_rfl]; rfl, by kernel_rfl⟩]
  obtain ⟨m, hm⟩ : ∃ m, Try.prog.types.size = m + 1 := ⟨Try.prog.types.size - 1, by kernel_rfl⟩
  rw [hm]
  simp [Program.keyLits, Try.underlying32, show Try.prog.cellsOf 32 = 1 by kernel_rfl, wfu h1, wfu h2, tk]
theorem tk_inj {a b c d : Nat} (ha : a < 18446744073709551616) (hb : b < 18446744073709551616) (hc : c < 18446744073709551616) (hd : d < 18446744073709551616) (h : tk a b = tk c d) : a = c ∧ b = d := by
  have := law_tr.inj (key_tr ha hb) (h ▸ key_tr hc hd)
  injection this with this
  injection this with this
  simp at this
  omega
theorem tk_key (a b : Nat) : WideAt.IsKeyLit (tk a b) := by unfold tk; trivial

/-- What a pointer reads as. -/
def ptrElem : Rr := fun v => match v with
  | .pointer (some ⟨b, 0, none⟩) => some (.lit (.int .i64 (b : Int)), [])
  | .pointer none => some (.lit (.int .i64 (-1)), [])
  | _ => none
theorem ptrElem_inv {v : Value} {d : DataW Unit} {ps : List MemPlace} (h : ptrElem v = some (d, ps)) : (∃ b : Nat, v = .pointer (some ⟨b, 0, none⟩) ∧ d = .lit (.int .i64 (b : Int))) ∨ (v = .pointer none ∧ d = .lit (.int .i64 (-1))) := by
  unfold ptrElem at h
  split at h
  · injection h with h; injection h with h1 _; exact .inl ⟨_, rfl, h1.symm⟩
  · injection h with h; injection h with h1 _; exact .inr ⟨rfl, h1.symm⟩
  · cases h
theorem rd_ptr : Rd ptrElem := fun v v' d ps ps' h1 h2 => by
  rcases ptrElem_inv h1 with ⟨b, rfl, rfl⟩ | ⟨rfl, rfl⟩ <;> rcases ptrElem_inv h2 with ⟨c, rfl, e⟩ | ⟨rfl, e⟩
  · injection e with e; injection e with _ e
    have : b = c := by omega
    rw [this]
  · injection e with e; injection e with _ e; omega
  · injection e with e; injection e with _ e; omega
  · rfl
theorem rd_int {e : TypeId} {q : IntKind} (he : Try.prog.underlying e = some (.int q)) : Rd (plainElem Try.prog e) := fun v v' d ps ps' h1 h2 => by
  obtain ⟨a, rfl, e1, _⟩ := plainElem_int_inv he h1
  obtain ⟨b, rfl, e2, _⟩ := plainElem_int_inv he h2
  have e : (DataW.lit (.int q a) : DataW Unit) = .lit (.int q b) := (congrArg Prod.fst e1).symm.trans (congrArg Prod.fst e2)
  rw [(Lit.int.inj (DataW.lit.inj e)).2]
end Go.Proofs.Ythpcnnkdpgjiiaa
