/-
  Plain mathematics of the document's own Decode of layer 3: fields read one behind the other, laid into an item; it tells just the items whose bytes these are. No condition; no program is named here.
-/
import Derived.Test.YtklgggolkclebaaItemMath
namespace Go.Proofs.Ytklgggolkclebaa
open Go.Proofs.NumMath Go.Proofs.ItemMath

structure Fld where
  no : Nat
  tx : Nat
  n : Nat
  s : ByteArray
def emp : ByteArray := ⟨#[]⟩
/-- A field at a place, and the place behind it. -/
def stepF (cs : List UInt8) (i : Nat) : Option (Fld × Nat) :=
  if (getAt cs (i : Int)).2.2 ≠ 0 then none
  else if (getAt cs (i : Int)).1 % 2 = 1 then
    if (getText cs ((getAt cs (i : Int)).2.1 : Int) 4096).2.2 ≠ 0 then none
    else some (⟨(getAt cs (i : Int)).1 / 2, 1, 0, bytesOf (getText cs ((getAt cs (i : Int)).2.1 : Int) 4096).1⟩, (getText cs ((getAt cs (i : Int)).2.1 : Int) 4096).2.1)
  else if (getAt cs ((getAt cs (i : Int)).2.1 : Int)).2.2 ≠ 0 then none
  else some (⟨(getAt cs (i : Int)).1 / 2, 0, (getAt cs ((getAt cs (i : Int)).2.1 : Int)).1, emp⟩, (getAt cs ((getAt cs (i : Int)).2.1 : Int)).2.1)
def runF (cs : List UInt8) : Nat → Nat → Option (List Fld)
  | 0, _ => none
  | f + 1, i => if i < cs.length then (match stepF cs i with | none => none | some (x, j) => (runF cs f j).map (x :: ·)) else some []
def fieldsOf (cs : List UInt8) : Option (List Fld) := runF cs (cs.length + 1) 0

theorem runF_end {cs : List UInt8} {f i : Nat} (h : cs.length ≤ i) : runF cs (f + 1) i = some [] := by
  unfold runF; rw [if_neg (by omega)]
theorem runF_no {cs : List UInt8} {f i : Nat} (h : i < cs.length) (hs : stepF cs i = none) : runF cs (f + 1) i = none := by
  unfold runF; rw [if_pos h, hs]
theorem runF_step {cs : List UInt8} {f i j : Nat} {x : Fld} (h : i < cs.length) (hs : stepF cs i = some (x, j)) : runF cs (f + 1) i = (runF cs f j).map (x :: ·) := by
  rw [runF, if_pos h, hs]
theorem getAt_more {cs : List UInt8} {i : Nat} {n to : Nat} (h : getAt cs (i : Int) = (n, to, 0)) : i < to ∧ to ≤ cs.length := by
  unfold getAt at h
  by_cases h1 : (i : Int) < 0 ∨ (cs.length : Int) < (i : Int)
  · rw [if_pos h1] at h; simp at h
  · rw [if_neg h1] at h
    obtain ⟨p, hp⟩ : ∃ p, scan 0 0 (cs.drop (i : Int).toNat) = p := ⟨_, rfl⟩
    rw [hp] at h
    obtain ⟨a, b, c⟩ := p
    dsimp only at h
    by_cases h2 : c = 0
    · rw [if_pos h2] at h
      subst h2
      simp only [Prod.mk.injEq, and_true] at h
      obtain ⟨m, _, _, hs, _, hl, _, _⟩ := scan_inv (cs.drop (i : Int).toNat) 0 0 _ _ (by omega) hp
      have hp := put_pos m
      rw [List.length_drop] at hl
      omega
    · rw [if_neg h2] at h
      simp only [Prod.mk.injEq] at h
      exact absurd h.2.2 h2
theorem getText_more {cs : List UInt8} {i most : Nat} {s : List UInt8} {to : Nat} (h : getText cs (i : Int) (most : Int) = (s, to, 0)) : i < to ∧ to ≤ cs.length ∧ s.length ≤ most := by
  unfold getText at h
  obtain ⟨g, hg⟩ : ∃ g, getAt cs (i : Int) = g := ⟨_, rfl⟩
  rw [hg] at h
  obtain ⟨n, t, e⟩ := g
  dsimp only at h
  by_cases h0 : e ≠ 0
  · rw [if_pos h0] at h
    simp only [Prod.mk.injEq] at h
    exact absurd h.2.2 h0
  · have : e = 0 := by omega
    subst this
    obtain ⟨h1, h2⟩ := getAt_more hg
    rw [if_neg h0] at h
    by_cases h3 : (most : Int) < 0 ∨ (most : Int) < (n : Int)
    · rw [if_pos h3] at h; simp at h
    · rw [if_neg h3] at h
      by_cases h4 : cs.length - t < n
      · rw [if_pos h4] at h; simp at h
      · rw [if_neg h4] at h
        simp only [Prod.mk.injEq, and_true] at h
        obtain ⟨hs, ht⟩ := h
        have : s.length = n := by rw [← hs]; simp; omega
        omega

/-- A field as bytes. -/
def encF (f : Fld) : List UInt8 := if f.tx = 1 then put (2 * f.no + 1) ++ (put f.s.data.toList.length ++ f.s.data.toList) else put (2 * f.no) ++ put f.n
def okF (f : Fld) : Prop := f.no < 100 ∧ (f.tx = 1 ∧ f.n = 0 ∧ f.s.size ≤ 4096 ∨ f.tx = 0 ∧ f.s = emp ∧ f.n < 18446744073709551616)
theorem encF_pos (f : Fld) : 1 ≤ (encF f).length := by
  unfold encF
  split
  · have := put_pos (2 * f.no + 1); simp; omega
  · have := put_pos (2 * f.no); simp; omega
theorem stepF_enc (pre r : List UInt8) (f : Fld) (h : okF f) : stepF (pre ++ (encF f ++ r)) pre.length = some (f, (pre ++ encF f).length) := by
  obtain ⟨no, tx, n, s⟩ := f
  obtain ⟨h0, h⟩ := h
  dsimp only at h0 h
  unfold stepF
  rcases h with ⟨rfl, rfl, hs⟩ | ⟨rfl, rfl, hn⟩
  · have e : encF ⟨no, 1, 0, s⟩ = put (2 * no + 1) ++ (put s.data.toList.length ++ s.data.toList) := rfl
    have e1 : pre ++ (encF ⟨no, 1, 0, s⟩ ++ r) = pre ++ (put (2 * no + 1) ++ (put s.data.toList.length ++ (s.data.toList ++ r))) := by rw [e]; simp
    have e2 : pre ++ (put (2 * no + 1) ++ (put s.data.toList.length ++ (s.data.toList ++ r))) = (pre ++ put (2 * no + 1)) ++ (put s.data.toList.length ++ (s.data.toList ++ r)) := by simp
    have g1 := getAt_put pre (put s.data.toList.length ++ (s.data.toList ++ r)) (2 * no + 1) (by omega)
    have g2 := getText_put (pre ++ put (2 * no + 1)) r s.data.toList 4096 (by rw [ItemMath.size_list]; exact hs) (by omega)
    rw [← e2] at g2
    have e3 : (pre ++ put (2 * no + 1)).length = pre.length + (put (2 * no + 1)).length := by simp
    rw [e3] at g2
    have g2' : getText (pre ++ (put (2 * no + 1) ++ (put s.data.toList.length ++ (s.data.toList ++ r)))) ((pre.length + (put (2 * no + 1)).length : Nat) : Int) 4096 = _ := g2
    rw [e1, g1]
    dsimp only
    rw [if_neg (by omega), if_pos (by omega), g2', if_neg (by dsimp only; omega)]
    dsimp only
    rw [bytesOf_list, show (2 * no + 1) / 2 = no by omega, e]
    simp; omega
  · have e : encF ⟨no, 0, n, emp⟩ = put (2 * no) ++ put n := rfl
    have e1 : pre ++ (encF ⟨no, 0, n, emp⟩ ++ r) = pre ++ (put (2 * no) ++ (put n ++ r)) := by rw [e]; simp
    have e2 : pre ++ (put (2 * no) ++ (put n ++ r)) = (pre ++ put (2 * no)) ++ (put n ++ r) := by simp
    have g1 := getAt_put pre (put n ++ r) (2 * no) (by omega)
    have g2 := getAt_put (pre ++ put (2 * no)) r n hn
    rw [← e2] at g2
    have e3 : (pre ++ put (2 * no)).length = pre.length + (put (2 * no)).length := by simp
    rw [e3] at g2
    rw [e1, g1]
    dsimp only
    rw [if_neg (by omega), if_neg (by omega), g2, if_neg (by dsimp only; omega)]
    dsimp only
    rw [show 2 * no / 2 = no by omega, e]
    simp; omega
def flat : List Fld → List UInt8
  | [] => []
  | f :: r => encF f ++ flat r
theorem flat_append : ∀ a b : List Fld, flat (a ++ b) = flat a ++ flat b
  | [], _ => rfl
  | f :: r, b => by rw [List.cons_append, flat, flat, flat_append r b, List.append_assoc]
theorem flat_len : ∀ l : List Fld, l.length ≤ (flat l).length
  | [] => Nat.le_refl _
  | f :: r => by have h1 := flat_len r; have h2 := encF_pos f; rw [flat, List.length_append, List.length_cons]; omega
theorem runF_enc : ∀ (l : List Fld) (pre : List UInt8) (fu : Nat), (∀ f ∈ l, okF f) → l.length < fu → runF (pre ++ flat l) fu pre.length = some l
  | [], pre, fu, _, h => by
    obtain ⟨k, rfl⟩ : ∃ k, fu = k + 1 := ⟨fu - 1, by simp at h; omega⟩
    exact runF_end (by simp [flat])
  | f :: r, pre, fu, hall, h => by
    obtain ⟨k, rfl⟩ : ∃ k, fu = k + 1 := ⟨fu - 1, by simp at h; omega⟩
    have hs := stepF_enc pre (flat r) f (hall f (by simp))
    have hp := encF_pos f
    rw [flat, runF_step (by simp; omega) hs, ← List.append_assoc, runF_enc r (pre ++ encF f) k (fun g hg => hall g (by simp [hg])) (by simpa using h)]
    rfl
theorem fieldsOf_enc {l : List Fld} (hall : ∀ f ∈ l, okF f) : fieldsOf (flat l) = some l :=
  runF_enc l [] _ hall (by have := flat_len l; simp; omega)

/-- An item's fields. -/
def flN (k n : Nat) : List Fld := if n = 0 then [] else [⟨k, 0, n, emp⟩]
def flT (k : Nat) (s : ByteArray) : List Fld := if s.size = 0 then [] else [⟨k, 1, 0, s⟩]
theorem flat_fN (k n : Nat) : flat (flN k n) = fieldN k n := by
  unfold flN fieldN
  by_cases h : n = 0
  · rw [if_pos h, if_pos h]; rfl
  · rw [if_neg h, if_neg h]; simp [flat, encF]
theorem flat_fT (k : Nat) (s : ByteArray) : flat (flT k s) = fieldT k s.data.toList := by
  unfold flT fieldT
  by_cases h : s.size = 0
  · have : s.data.toList = [] := List.eq_nil_of_length_eq_zero (by rw [ItemMath.size_list]; exact h)
    rw [if_pos h, if_pos this]; rfl
  · have : s.data.toList ≠ [] := fun e => h (by rw [← ItemMath.size_list, e]; rfl)
    rw [if_neg h, if_neg this]; simp [flat, encF]
def fAttrs : List (ByteArray × ByteArray) → List Fld
  | [] => []
  | a :: r => flT 10 (bytesOf (attrText a)) ++ fAttrs r
theorem flat_fAttrs : ∀ l : List (ByteArray × ByteArray), flat (fAttrs l) = attrFields l
  | [] => rfl
  | a :: r => by rw [fAttrs, flat_append, flat_fAttrs r, flat_fT, list_bytesOf]; rfl
def fSpan (s : Sp) : List Fld := flN 1 s.hi ++ (flN 2 s.lo ++ (flN 3 s.id ++ (flN 4 s.par ++ (flT 5 s.name ++ (flN 6 s.start.toNat ++ (flN 7 s.stop.toNat ++ (flN 8 (badN s.bad) ++ (flN 9 s.rv ++ fAttrs s.attrs))))))))
def fLog (l : Lg) : List Fld := flT 1 l.key ++ (flN 2 l.weight ++ (flN 3 l.at_.toNat ++ flT 4 l.body))
theorem flat_fSpan (s : Sp) : flat (fSpan s) = encSpan s := by
  unfold fSpan encSpan
  simp only [flat_append, flat_fN, flat_fT, flat_fAttrs]
theorem flat_fLog (l : Lg) : flat (fLog l) = encLog l := by
  unfold fLog encLog
  simp only [flat_append, flat_fN, flat_fT]
theorem ok_fN {k n : Nat} (hk : k < 100) (hn : n < 18446744073709551616) : ∀ f ∈ flN k n, okF f := by
  unfold flN
  split
  · simp
  · intro f hf; simp at hf; subst hf; exact ⟨hk, .inr ⟨rfl, rfl, hn⟩⟩
theorem ok_fT {k : Nat} {s : ByteArray} (hk : k < 100) (hs : s.size ≤ 4096) : ∀ f ∈ flT k s, okF f := by
  unfold flT
  split
  · simp
  · intro f hf; simp at hf; subst hf; exact ⟨hk, .inl ⟨rfl, rfl, hs⟩⟩
theorem ok_app {a b : List Fld} (ha : ∀ f ∈ a, okF f) (hb : ∀ f ∈ b, okF f) : ∀ f ∈ a ++ b, okF f := fun f hf => by
  rcases List.mem_append.1 hf with h | h
  · exact ha f h
  · exact hb f h
theorem ok_fAttrs : ∀ l : List (ByteArray × ByteArray), (∀ a ∈ l, a.1.size ≤ 60 ∧ a.2.size ≤ 60) → ∀ f ∈ fAttrs l, okF f
  | [], _ => by simp [fAttrs]
  | a :: r, h => by
    obtain ⟨h1, h2⟩ := h a (by simp)
    refine ok_app (ok_fT (by omega) ?_) (ok_fAttrs r fun b hb => h b (by simp [hb]))
    rw [← ItemMath.size_list, list_bytesOf, attrText_len a h1]; omega

/-- A field laid into a span, into a log. -/
def putSp (s : Sp) (f : Fld) : Sp :=
  if f.no = 1 then { s with hi := f.n } else if f.no = 2 then { s with lo := f.n } else if f.no = 3 then { s with id := f.n } else if f.no = 4 then { s with par := f.n }
  else if f.no = 5 then { s with name := f.s } else if f.no = 6 then { s with start := i64 f.n } else if f.no = 7 then { s with stop := i64 f.n } else if f.no = 8 then { s with bad := decide (f.n = 1) }
  else if f.no = 9 then { s with rv := f.n }
  else if f.no = 10 then (if (getText f.s.data.toList 0 60).2.2 = 0 then { s with attrs := s.attrs ++ [pairOf (attrOf f.s.data.toList)] } else s)
  else s
def putLg (g : Lg) (f : Fld) : Lg :=
  if f.no = 1 then { g with key := f.s } else if f.no = 2 then { g with weight := f.n } else if f.no = 3 then { g with at_ := i64 f.n } else if f.no = 4 then { g with body := f.s } else g
def noSp : Sp := ⟨0, 0, 0, 0, emp, 0, 0, false, [], 0⟩
def noLg : Lg := ⟨emp, 0, 0, emp⟩
theorem emp_of {s : ByteArray} (h : s.size = 0) : s = emp := by
  have : s.data = #[] := Array.eq_empty_of_size_eq_zero h
  cases s; simp_all [emp]
theorem i64_nat {t : Int} (h : 0 ≤ t ∧ t ≤ 1099511627776) : i64 t.toNat = t := by unfold i64; rw [if_pos (by omega)]; omega
theorem fold_attrs : ∀ (l : List (ByteArray × ByteArray)) (s : Sp), (∀ a ∈ l, 0 < a.1.size ∧ a.1.size ≤ 60 ∧ a.2.size ≤ 60) → (fAttrs l).foldl putSp s = { s with attrs := s.attrs ++ l }
  | [], s, _ => by simp [fAttrs]
  | a :: r, s, h => by
    obtain ⟨h0, h1, h2⟩ := h a (by simp)
    have hl := attrText_len a h1
    have hs : (bytesOf (attrText a)).size = 1 + a.1.size + a.2.size := by rw [← ItemMath.size_list, list_bytesOf, hl]
    have hg := getText_put [] a.2.data.toList a.1.data.toList 60 (by rw [ItemMath.size_list]; exact h1) (by omega)
    rw [ItemMath.size_list] at hg
    simp only [List.nil_append, List.length_nil, Nat.zero_add] at hg
    have hg' : getText (attrText a) 0 60 = (a.1.data.toList, (put a.1.size).length + a.1.size, 0) := hg
    have e1 : putSp s ⟨10, 1, 0, bytesOf (attrText a)⟩ = { s with attrs := s.attrs ++ [a] } := by
      unfold putSp
      dsimp only
      rw [list_bytesOf, hg', attrOf_text a h1]
      simp
    rw [fAttrs, List.foldl_append]
    have e2 : flT 10 (bytesOf (attrText a)) = [⟨10, 1, 0, bytesOf (attrText a)⟩] := by unfold flT; rw [if_neg (by omega)]
    rw [e2, List.foldl_cons, List.foldl_nil, e1, fold_attrs r _ fun b hb => h b (by simp [hb])]
    simp
theorem fold_span (s : Sp) (h5 : 0 ≤ s.start ∧ s.start ≤ 1099511627776) (h6 : 0 ≤ s.stop ∧ s.stop ≤ 1099511627776) (hall : ∀ a ∈ s.attrs, 0 < a.1.size ∧ a.1.size ≤ 60 ∧ a.2.size ≤ 60) : (fSpan s).foldl putSp noSp = s := by
  obtain ⟨hi, lo, id, par, name, start, stop, bad, attrs, rv⟩ := s
  dsimp only at h5 h6 hall
  have e1 : ∀ s, s.hi = 0 → (flN 1 hi).foldl putSp s = { s with hi := hi } := fun s h => by
    unfold flN; split
    · subst_vars; cases s; simp_all
    · simp [putSp]
  have e2 : ∀ s, s.lo = 0 → (flN 2 lo).foldl putSp s = { s with lo := lo } := fun s h => by
    unfold flN; split
    · subst_vars; cases s; simp_all
    · simp [putSp]
  have e3 : ∀ s, s.id = 0 → (flN 3 id).foldl putSp s = { s with id := id } := fun s h => by
    unfold flN; split
    · subst_vars; cases s; simp_all
    · simp [putSp]
  have e4 : ∀ s, s.par = 0 → (flN 4 par).foldl putSp s = { s with par := par } := fun s h => by
    unfold flN; split
    · subst_vars; cases s; simp_all
    · simp [putSp]
  have e5 : ∀ s, s.name = emp → (flT 5 name).foldl putSp s = { s with name := name } := fun s h => by
    unfold flT; split
    · rename_i h0; rw [emp_of h0]; cases s; simp_all
    · simp [putSp]
  have e6 : ∀ s, s.start = 0 → (flN 6 start.toNat).foldl putSp s = { s with start := start } := fun s h => by
    unfold flN; split
    · have : start = 0 := by omega
      subst this; cases s; simp_all
    · simp [putSp, i64_nat h5]
  have e7 : ∀ s, s.stop = 0 → (flN 7 stop.toNat).foldl putSp s = { s with stop := stop } := fun s h => by
    unfold flN; split
    · have : stop = 0 := by omega
      subst this; cases s; simp_all
    · simp [putSp, i64_nat h6]
  have e8 : ∀ s, s.bad = false → (flN 8 (badN bad)).foldl putSp s = { s with bad := bad } := fun s h => by
    cases bad
    · cases s; simp_all [flN, badN]
    · simp [flN, badN, putSp]
  have e9 : ∀ s, s.rv = 0 → (flN 9 rv).foldl putSp s = { s with rv := rv } := fun s h => by
    unfold flN; split
    · subst_vars; cases s; simp_all
    · simp [putSp]
  unfold fSpan
  simp only [List.foldl_append]
  rw [e1 _ rfl, e2 _ rfl, e3 _ rfl, e4 _ rfl, e5 _ rfl, e6 _ rfl, e7 _ rfl, e8 _ rfl, e9 _ rfl, fold_attrs _ _ hall]
  rfl
theorem fold_log (g : Lg) (h3 : 0 ≤ g.at_ ∧ g.at_ ≤ 1099511627776) : (fLog g).foldl putLg noLg = g := by
  obtain ⟨key, weight, a, body⟩ := g
  dsimp only at h3
  have e1 : ∀ g, g.key = emp → (flT 1 key).foldl putLg g = { g with key := key } := fun s h => by
    unfold flT; split
    · rename_i h0; rw [emp_of h0]; cases s; simp_all
    · simp [putLg]
  have e2 : ∀ g, g.weight = 0 → (flN 2 weight).foldl putLg g = { g with weight := weight } := fun s h => by
    unfold flN; split
    · subst_vars; cases s; simp_all
    · simp [putLg]
  have e3 : ∀ g, g.at_ = 0 → (flN 3 a.toNat).foldl putLg g = { g with at_ := a } := fun s h => by
    unfold flN; split
    · have : a = 0 := by omega
      subst this; cases s; simp_all
    · simp [putLg, i64_nat h3]
  have e4 : ∀ g, g.body = emp → (flT 4 body).foldl putLg g = { g with body := body } := fun s h => by
    unfold flT; split
    · rename_i h0; rw [emp_of h0]; cases s; simp_all
    · simp [putLg]
  unfold fLog
  simp only [List.foldl_append]
  rw [e1 _ rfl, e2 _ rfl, e3 _ rfl, e4 _ rfl]
end Go.Proofs.Ytklgggolkclebaa
