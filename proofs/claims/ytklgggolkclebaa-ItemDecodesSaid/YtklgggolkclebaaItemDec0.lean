/-
  Plain mathematics behind the document's own Decode of layer 3, and what cells lie where: an item's cells, fields in memory.
-/
import Derived.Deep.MidRow
import Derived.Test.YtklgggolkclebaaItemRefLay
import Derived.Test.YtklgggolkclebaaItemAll
import Derived.Test.YtklgggolkclebaaItemOf
namespace Go.Proofs.Ytklgggolkclebaa
open Go.RowKit Go.Proofs.NumMath Go.Proofs.ItemMath

def stateOf (k : Nat) (l : List Fld) : Sp × Lg := if k = 1 then (l.foldl putSp noSp, noLg) else (noSp, l.foldl putLg noLg)
def decOf : List UInt8 → Option (Nat × Sp × Lg)
  | [] => none
  | c :: r => match fieldsOf r with
    | none => none
    | some l => if encItem c.toNat (stateOf c.toNat l).1 (stateOf c.toNat l).2 = some (c :: r) then some (c.toNat, stateOf c.toNat l) else none
theorem state_next1 {l : List Fld} {i : Nat} {f : Fld} {S : Sp} {G : Lg} (h : stateOf 1 (l.take i) = (S, G)) (hi : l[i]? = some f) : stateOf 1 (l.take (i + 1)) = (putSp S f, G) := by
  have hlt := (List.getElem?_eq_some_iff.1 hi).1
  have e : l[i] = f := (List.getElem?_eq_some_iff.1 hi).2
  rw [List.take_succ_eq_append_getElem hlt, e]
  unfold stateOf at h ⊢
  simp only [if_true, Prod.mk.injEq] at h ⊢
  rw [List.foldl_append, h.1]
  exact ⟨rfl, h.2⟩
theorem state_next1' {k : Nat} {l : List Fld} {i : Nat} {f : Fld} {S : Sp} {G : Lg} (hk : k = 1) (h : stateOf k (l.take i) = (S, G)) (hi : l[i]? = some f) : stateOf k (l.take (i + 1)) = (putSp S f, G) := by
  subst hk
  exact state_next1 h hi
theorem state_next2 {k : Nat} {l : List Fld} {i : Nat} {f : Fld} {S : Sp} {G : Lg} (hk : k ≠ 1) (h : stateOf k (l.take i) = (S, G)) (hi : l[i]? = some f) : stateOf k (l.take (i + 1)) = (S, putLg G f) := by
  have hlt := (List.getElem?_eq_some_iff.1 hi).1
  have e : l[i] = f := (List.getElem?_eq_some_iff.1 hi).2
  rw [List.take_succ_eq_append_getElem hlt, e]
  unfold stateOf at h ⊢
  rw [if_neg hk] at h ⊢
  simp only [Prod.mk.injEq] at h ⊢
  rw [List.foldl_append, h.2]
  exact ⟨h.1, rfl⟩

def okL (f : Fld) : Prop := f.n < 18446744073709551616 ∧ f.s.size ≤ 4096
def okS (S : Sp) : Prop := S.hi < 18446744073709551616 ∧ S.lo < 18446744073709551616 ∧ S.id < 18446744073709551616 ∧ S.par < 18446744073709551616 ∧ S.name.size ≤ 4096 ∧ ∀ a ∈ S.attrs, a.1.size ≤ 4096 ∧ a.2.size ≤ 4096
def okG (G : Lg) : Prop := G.key.size ≤ 4096 ∧ G.body.size ≤ 4096
theorem stepF_ok {cs : List UInt8} {i j : Nat} {f : Fld} (h : stepF cs i = some (f, j)) : okL f := by
  have hb := fun i : Int => getAt_cs_bounds (cs := cs) (i := i)
  unfold stepF at h
  split at h
  · cases h
  · split at h
    · split at h
      · cases h
      · rename_i h1 h2 h3
        injection h with h
        injection h with h _
        subst h
        refine ⟨by show 0 < 18446744073709551616; omega, ?_⟩
        obtain ⟨s, t, e, hg⟩ : ∃ s t e, getText cs ((getAt cs (i : Int)).2.1 : Int) 4096 = (s, t, e) := ⟨_, _, _, rfl⟩
        rw [hg] at h3 ⊢
        have he : e = 0 := by simpa using h3
        subst he
        have := (getText_more (most := 4096) hg).2.2
        show (bytesOf s).size ≤ 4096
        rw [← ItemMath.size_list, list_bytesOf]
        exact this
    · split at h
      · cases h
      · injection h with h
        injection h with h _
        subst h
        exact ⟨(hb _).1, by show (0 : Nat) ≤ 4096; omega⟩
theorem runF_ok {cs : List UInt8} : ∀ (k i : Nat) (l : List Fld), runF cs k i = some l → ∀ f ∈ l, okL f
  | 0, _, _, h => by cases h
  | k + 1, i, l, h => by
    by_cases hi : i < cs.length
    · rcases hs : stepF cs i with _ | ⟨x, j⟩
      · rw [runF_no hi hs] at h; cases h
      · rw [runF_step hi hs] at h
        rcases hr : runF cs k j with _ | r
        · rw [hr] at h; cases h
        · rw [hr] at h
          injection h with h
          subst h
          intro f hf
          rcases List.mem_cons.1 hf with rfl | hf
          · exact stepF_ok hs
          · exact runF_ok k j r hr f hf
    · rw [runF_end (by omega)] at h
      injection h with h
      subst h
      simp
theorem okS_ite {c : Prop} [Decidable c] {a b : Sp} (ha : c → okS a) (hb : ¬ c → okS b) : okS (if c then a else b) := by
  by_cases h : c
  · rw [if_pos h]; exact ha h
  · rw [if_neg h]; exact hb h
theorem okG_ite {c : Prop} [Decidable c] {a b : Lg} (ha : c → okG a) (hb : ¬ c → okG b) : okG (if c then a else b) := by
  by_cases h : c
  · rw [if_pos h]; exact ha h
  · rw [if_neg h]; exact hb h
theorem okS_put {S : Sp} {f : Fld} (h : okS S) (hf : okL f) : okS (putSp S f) := by
  obtain ⟨h1, h2, h3, h4, h5, h6⟩ := h
  obtain ⟨g1, g2⟩ := hf
  unfold putSp
  refine okS_ite (fun _ => ⟨g1, h2, h3, h4, h5, h6⟩) fun _ => okS_ite (fun _ => ⟨h1, g1, h3, h4, h5, h6⟩) fun _ => okS_ite (fun _ => ⟨h1, h2, g1, h4, h5, h6⟩) fun _ => okS_ite (fun _ => ⟨h1, h2, h3, g1, h5, h6⟩) fun _ => okS_ite (fun _ => ⟨h1, h2, h3, h4, g2, h6⟩) fun _ => okS_ite (fun _ => ⟨h1, h2, h3, h4, h5, h6⟩) fun _ => okS_ite (fun _ => ⟨h1, h2, h3, h4, h5, h6⟩) fun _ => okS_ite (fun _ => ⟨h1, h2, h3, h4, h5, h6⟩) fun _ => okS_ite (fun _ => ⟨h1, h2, h3, h4, h5, h6⟩) fun _ => okS_ite (fun _ => okS_ite (fun h0 => ⟨h1, h2, h3, h4, h5, fun a ha => ?_⟩) fun _ => ⟨h1, h2, h3, h4, h5, h6⟩) fun _ => ⟨h1, h2, h3, h4, h5, h6⟩
  rcases List.mem_append.1 ha with ha | ha
  · exact h6 a ha
  · have : a = pairOf (attrOf f.s.data.toList) := by simpa using ha
    subst this
    obtain ⟨s, t, e, hg⟩ : ∃ s t e, getText f.s.data.toList 0 60 = (s, t, e) := ⟨_, _, _, rfl⟩
    rw [attr_ok hg]
    have e0 : e = 0 := by rw [hg] at h0; exact h0
    subst e0
    have := (getText_more (i := 0) (most := 60) hg).2.2
    refine ⟨?_, ?_⟩
    · show (bytesOf s).size ≤ 4096
      rw [← ItemMath.size_list, list_bytesOf]; omega
    · show (bytesOf _).size ≤ 4096
      rw [← ItemMath.size_list, list_bytesOf, List.length_drop, ItemMath.size_list]; omega
theorem okG_put {G : Lg} {f : Fld} (h : okG G) (hf : okL f) : okG (putLg G f) := by
  obtain ⟨h1, h2⟩ := h
  obtain ⟨g1, g2⟩ := hf
  unfold putLg
  exact okG_ite (fun _ => ⟨g2, h2⟩) fun _ => okG_ite (fun _ => ⟨h1, h2⟩) fun _ => okG_ite (fun _ => ⟨h1, h2⟩) fun _ => okG_ite (fun _ => ⟨h1, g2⟩) fun _ => ⟨h1, h2⟩

/-- Fields in memory. -/
def HoldsF (n₀ : Nat) (W : World) (A : Option Addr) (l : List Fld) : Prop :=
  0 < l.length → ∃ b off, A = some ⟨b, off, none⟩ ∧ b < n₀ ∧ ∀ j f, l[j]? = some f → W.cell? ⟨b, off + j * 4, none⟩ = some (.int .u64 (f.no : Int)) ∧ W.cell? ⟨b, off + j * 4 + 1, none⟩ = some (.int .i64 (f.tx : Int)) ∧
    W.cell? ⟨b, off + j * 4 + 2, none⟩ = some (.int .u64 (f.n : Int)) ∧ W.cell? ⟨b, off + j * 4 + 3, none⟩ = some (.string f.s)
theorem fCells_get : ∀ (l : List Fld) (j : Nat) (f : Fld), l[j]? = some f → (fCells l)[j * 4]? = some (.int .u64 (f.no : Int)) ∧ (fCells l)[j * 4 + 1]? = some (.int .i64 (f.tx : Int)) ∧ (fCells l)[j * 4 + 2]? = some (.int .u64 (f.n : Int)) ∧ (fCells l)[j * 4 + 3]? = some (.string f.s)
  | [], _, _, h => by simp at h
  | g :: r, 0, f, h => by
    simp at h
    subst h
    exact ⟨rfl, rfl, rfl, rfl⟩
  | g :: r, j + 1, f, h => by
    have := fCells_get r j f (by simpa using h)
    have e : (j + 1) * 4 = j * 4 + 4 := by omega
    rw [e]
    exact this
theorem holdsF_of_own {W : World} {base n c : Nat} {A : Option Addr} {l : List Fld} (h : W.ownsRow base 89 4 (.slice A n c) n (fCells l)) (hn : l.length = n) : HoldsF W.heap.size W A l := fun h0 => by
  rcases h.2 with ⟨e, hz⟩ | ⟨g, cap, cur, e, hb, hg, _⟩
  · exact absurd hz (by rw [← hn]; omega)
  · injection e with e1 _ _
    refine ⟨g, 0, e1, (Array.getElem?_eq_some_iff.1 hg).1, fun j f hf => ?_⟩
    obtain ⟨q0, q1, q2, q3⟩ := fCells_get l j f hf
    have hl : ∀ k v, (fCells l)[k]? = some v → W.cell? ⟨g, 0 + k, none⟩ = some v := fun k v hv => by
      subst e1
      have := h.cellAt k (by have h1 := h.1; have h2 := (List.getElem?_eq_some_iff.1 hv).1; omega)
      rw [Nat.zero_add, this, hv]
    exact ⟨hl _ _ q0, hl _ _ q1, hl _ _ q2, hl _ _ q3⟩

/-- An item's cells. -/
def itC (k : Nat) (S : Sp) (A : Option Addr) (n cap : Nat) (G : Lg) : Array Value :=
  #[.int .u8 (k : Int), .int .u64 (S.hi : Int), .int .u64 (S.lo : Int), .int .u64 (S.id : Int), .int .u64 (S.par : Int), .string S.name, .int .i64 S.start, .int .i64 S.stop, .bool S.bad, .slice A n cap, .int .u64 (S.rv : Int), .string G.key, .int .u64 (G.weight : Int), .int .i64 G.at_, .string G.body]
def itZ : Array Value := #[.int .u8 0, .int .u64 0, .int .u64 0, .int .u64 0, .int .u64 0, .string ⟨#[]⟩, .int .i64 0, .int .i64 0, .bool false, .slice none 0 0, .int .u64 0, .string ⟨#[]⟩, .int .u64 0, .int .i64 0, .string ⟨#[]⟩]

theorem box_below {W : World} (o : Obj) : Below W.heap.size W (W.alloc o) := (Below.refl _ W).alloc (Nat.le_refl _) o
def setAll : Array Value → Nat → List Value → Array Value
  | C, _, [] => C
  | C, o, v :: r => setAll (C.setIfInBounds o v) (o + 1) r
theorem set_span (v0 v1 v2 v3 v4 v5 v6 v7 v8 v9 v10 v11 v12 v13 v14 : Value) (S : Sp) (A : Option Addr) (n c : Nat) : setAll #[v0, v1, v2, v3, v4, v5, v6, v7, v8, v9, v10, v11, v12, v13, v14] 1 (spC S A n c).toList =
    #[v0, .int .u64 (S.hi : Int), .int .u64 (S.lo : Int), .int .u64 (S.id : Int), .int .u64 (S.par : Int), .string S.name, .int .i64 S.start, .int .i64 S.stop, .bool S.bad, .slice A n c, .int .u64 (S.rv : Int), v11, v12, v13, v14] := by
  simp [setAll, spC]
set_option linter.unusedVariables false in
theorem blk_setCells {g : Nat} {T : TypeId} : ∀ (vs : List Value) (o : Nat) (w : World) (C : Array Value), Blk w g C T → Blk (w.setCells g o vs) g (setAll C o vs) T
  | [], _, _, _, h => h
  | v :: r, o, w, C, h => blk_setCells r (o + 1) _ _ (h.set o v)
set_option linter.unusedVariables false in
theorem setCells_other {g : Nat} : ∀ (vs : List Value) (o : Nat) (w : World) (k : Nat), k ≠ g → (w.setCells g o vs).heap[k]? = w.heap[k]?
  | [], _, _, _, _ => rfl
  | v :: r, o, w, k, h => (setCells_other r (o + 1) _ k h).trans (Below.heap_setCell w ⟨g, o, none⟩ v k h)
set_option linter.unusedVariables false in
theorem below_setCells {g B : Nat} {w0 : World} (hg : B ≤ g) : ∀ (vs : List Value) (o : Nat) (w : World), Below B w0 w → Below B w0 (w.setCells g o vs)
  | [], _, _, h => h
  | v :: r, o, w, h => below_setCells hg r (o + 1) _ (h.setCell (p := ⟨g, o, none⟩) hg v)
theorem there_of {w : World} {g : Nat} {C : Array Value} {T : TypeId} (h : Blk w g C T) (o n : Nat) (hn : o + n ≤ C.size) : w.there g o n := fun j hj => by
  refine ⟨?_, h.free _⟩
  rw [h.cell (o + j) (Array.getElem?_eq_getElem (show o + j < C.size by omega))]
  rfl
theorem own_setCells {base k g : Nat} {w : World} {e T : TypeId} {v : Value} {n : Nat} {xs : List Value} {C : Array Value} (ho : w.ownsRow base e k v n xs) (hb : Blk w g C T) (hT : e ≠ T) (o : Nat) (vs : List Value) : (w.setCells g o vs).ownsRow base e k v n xs := by
  have hne := own_apartN ho hb hT
  refine ⟨ho.1, ?_⟩
  rcases ho.2 with hn | ⟨g', cap, cur, rfl, hb', hgg, rest⟩
  · exact .inl hn
  · refine .inr ⟨g', cap, cur, rfl, hb', ?_, rest⟩
    rw [setCells_other vs o w g' (by simpa [Value.ownBlock] using hne)]
    exact hgg
theorem holdsA_own4 {W : World} {base n c : Nat} {A : Option Addr} {l : List Attr} (h : W.ownsRow base 36 2 (.slice A n c) n (aCells l)) (hn : n = l.length) (hall : ∀ a ∈ l, a.1.size ≤ 4096 ∧ a.2.size ≤ 4096) : HoldsA W.heap.size W A l := fun h0 => by
  rcases h.2 with ⟨e, hz⟩ | ⟨g, cap, cur, e, hb, hg, _⟩
  · exact absurd hz (by omega)
  · injection e with e1 _ _
    refine ⟨g, 0, e1, (Array.getElem?_eq_some_iff.1 hg).1, fun j hj => ?_⟩
    obtain ⟨q0, q1⟩ := aCells_get l j hj
    have hl : ∀ k v, (aCells l)[k]? = some v → W.cell? ⟨g, 0 + k, none⟩ = some v := fun k v hv => by
      subst e1
      have := h.cellAt k (by have h1 := h.1; have h2 := (List.getElem?_eq_some_iff.1 hv).1; omega)
      rw [Nat.zero_add, this, hv]
    have hm : l.getD j (none8, none8) ∈ l := by
      rw [List.getD_eq_getElem?_getD, List.getElem?_eq_getElem hj]; simp
    obtain ⟨s1, s2⟩ := hall _ hm
    exact ⟨hl _ _ q0, hl _ _ q1, by omega, by omega⟩
end Go.Proofs.Ytklgggolkclebaa
