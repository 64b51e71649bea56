/-
  Plain mathematics of spans and logs as bytes: what may be, what Encode lays, what Decode reads, and that what was laid is read. No condition; no program is named here.
-/
import Derived.Test.YtklgggolkclebaaNumMath
namespace Go.Proofs.ItemMath
open Go.Proofs.NumMath

structure Sp where
  hi : Nat
  lo : Nat
  id : Nat
  par : Nat
  name : ByteArray
  start : Int
  stop : Int
  bad : Bool
  attrs : List (ByteArray × ByteArray)
  rv : Nat
structure Lg where
  key : ByteArray
  weight : Nat
  at_ : Int
  body : ByteArray

def fieldN (k n : Nat) : List UInt8 := if n = 0 then [] else put (2 * k) ++ put n
def fieldT (k : Nat) (s : List UInt8) : List UInt8 := if s = [] then [] else put (2 * k + 1) ++ (put s.length ++ s)
def attrText (a : ByteArray × ByteArray) : List UInt8 := put a.1.size ++ (a.1.data.toList ++ a.2.data.toList)
def attrFields : List (ByteArray × ByteArray) → List UInt8
  | [] => []
  | a :: r => fieldT 10 (attrText a) ++ attrFields r
def badN (b : Bool) : Nat := if b then 1 else 0
def encSpan (s : Sp) : List UInt8 :=
  fieldN 1 s.hi ++ (fieldN 2 s.lo ++ (fieldN 3 s.id ++ (fieldN 4 s.par ++ (fieldT 5 s.name.data.toList ++ (fieldN 6 s.start.toNat ++ (fieldN 7 s.stop.toNat ++ (fieldN 8 (badN s.bad) ++ (fieldN 9 s.rv ++ attrFields s.attrs))))))))
def encLog (l : Lg) : List UInt8 :=
  fieldT 1 l.key.data.toList ++ (fieldN 2 l.weight ++ (fieldN 3 l.at_.toNat ++ fieldT 4 l.body.data.toList))

def isName (s : ByteArray) : Bool := decide (0 < s.size ∧ s.size ≤ 60) && s.data.toList.all fun c => decide (33 ≤ c.toNat ∧ c.toNat ≤ 126)

/-- What is read at a place: the number, the place behind it and the error; a text so. -/
def getText (cs : List UInt8) (i most : Int) : List UInt8 × Nat × Nat :=
  if (getAt cs i).2.2 ≠ 0 then ([], 0, (getAt cs i).2.2)
  else if most < 0 ∨ most < ((getAt cs i).1 : Int) then ([], 0, 3)
  else if cs.length - (getAt cs i).2.1 < (getAt cs i).1 then ([], 0, 10)
  else ((cs.drop (getAt cs i).2.1).take (getAt cs i).1, (getAt cs i).2.1 + (getAt cs i).1, 0)
/-- Does the tag stand here? The place behind it then. -/
def tagAt (cs : List UInt8) (tag i : Nat) : Bool := decide ((getAt cs (i : Int)).2.2 = 0 ∧ (getAt cs (i : Int)).1 = tag)
def readN (cs : List UInt8) (k i : Nat) : Nat × Nat :=
  if tagAt cs (2 * k) i = true then
    ((getAt cs ((getAt cs (i : Int)).2.1 : Int)).1, if (getAt cs ((getAt cs (i : Int)).2.1 : Int)).2.2 = 0 then (getAt cs ((getAt cs (i : Int)).2.1 : Int)).2.1 else i)
  else (0, i)
def readT (cs : List UInt8) (k most i : Nat) : List UInt8 × Nat :=
  if tagAt cs (2 * k + 1) i = true then
    ((getText cs ((getAt cs (i : Int)).2.1 : Int) most).1, if (getText cs ((getAt cs (i : Int)).2.1 : Int) most).2.2 = 0 then (getText cs ((getAt cs (i : Int)).2.1 : Int) most).2.1 else i)
  else ([], i)

/-- A number's bytes at a place are read there. -/
theorem getAt_put (pre r : List UInt8) (m : Nat) (hm : m < 18446744073709551616) : getAt (pre ++ (put m ++ r)) (pre.length : Int) = (m, pre.length + (put m).length, 0) := by
  have h := scan_put m 0 0 r (.inl rfl) (by simpa using hm) (by simpa using put_len10 hm)
  unfold getAt
  rw [if_neg (by simp; omega)]
  simp [h]
theorem getText_put (pre r s : List UInt8) (most : Nat) (hs : s.length ≤ most) (hm : most < 18446744073709551616) :
    getText (pre ++ (put s.length ++ (s ++ r))) (pre.length : Int) most = (s, pre.length + (put s.length).length + s.length, 0) := by
  unfold getText
  rw [getAt_put pre (s ++ r) s.length (by omega)]
  simp only [ne_eq, not_true_eq_false, if_false]
  rw [if_neg (by omega), if_neg (by simp; omega)]
  have e : pre ++ (put s.length ++ (s ++ r)) = (pre ++ put s.length) ++ (s ++ r) := by simp
  rw [e, List.drop_left' (by simp)]
  simp

/-- What stands behind a field: nothing, or a greater tag. -/
def Behind (b : Nat) (r : List UInt8) : Prop := r = [] ∨ ∃ t q, b < t ∧ t < 18446744073709551616 ∧ r = put t ++ q
theorem Behind.mono {a b : Nat} {r : List UInt8} (h : Behind b r) (hab : a ≤ b) : Behind a r := by
  rcases h with h | ⟨t, q, h1, h2, h3⟩
  · exact .inl h
  · exact .inr ⟨t, q, by omega, h2, h3⟩
theorem behind_nil (b : Nat) : Behind b [] := .inl rfl
theorem behind_N {b k n : Nat} {r : List UInt8} (h : b < 2 * k) (hk : k < 100) (hr : Behind b r) : Behind b (fieldN k n ++ r) := by
  unfold fieldN
  by_cases h0 : n = 0
  · rw [if_pos h0]; simpa using hr
  · rw [if_neg h0]; exact .inr ⟨2 * k, put n ++ r, h, by omega, by simp⟩
theorem behind_T {b k : Nat} {s r : List UInt8} (h : b < 2 * k + 1) (hk : k < 100) (hr : Behind b r) : Behind b (fieldT k s ++ r) := by
  unfold fieldT
  by_cases h0 : s = []
  · rw [if_pos h0]; simpa using hr
  · rw [if_neg h0]; exact .inr ⟨2 * k + 1, put s.length ++ (s ++ r), h, by omega, by simp⟩
theorem behind_A : ∀ (l : List (ByteArray × ByteArray)) {b : Nat}, b < 21 → Behind b (attrFields l)
  | [], _, _ => .inl rfl
  | a :: r, _, h => by unfold attrFields; exact behind_T (k := 10) (by omega) (by omega) (behind_A r h)

theorem getAt_end (pre : List UInt8) : getAt pre (pre.length : Int) = (0, 0, 10) := by
  unfold getAt
  rw [if_neg (by omega)]
  simp [scan]
theorem tag_behind {pre r : List UInt8} {b tag : Nat} (h : Behind b r) (ht : tag ≤ b) : tagAt (pre ++ r) tag pre.length = false := by
  unfold tagAt
  rcases h with rfl | ⟨t, q, h1, h2, rfl⟩
  · rw [List.append_nil, getAt_end]; simp
  · rw [getAt_put pre q t h2]; simp; omega
theorem readN_field {pre r : List UInt8} {k n : Nat} (hk : k < 100) (hn : n < 18446744073709551616) (hr : Behind (2 * k) r) :
    readN (pre ++ (fieldN k n ++ r)) k pre.length = (n, pre.length + (fieldN k n).length) := by
  unfold readN
  by_cases h0 : n = 0
  · subst h0
    have e : fieldN k 0 = [] := by simp [fieldN]
    rw [e, List.nil_append, if_neg (by rw [tag_behind hr (Nat.le_refl _)]; simp)]
    simp
  · have e : fieldN k n = put (2 * k) ++ put n := by simp [fieldN, h0]
    have e1 : pre ++ (fieldN k n ++ r) = pre ++ (put (2 * k) ++ (put n ++ r)) := by rw [e]; simp
    have e2 : pre ++ (put (2 * k) ++ (put n ++ r)) = (pre ++ put (2 * k)) ++ (put n ++ r) := by simp
    have g1 := getAt_put pre (put n ++ r) (2 * k) (by omega)
    have g2 := getAt_put (pre ++ put (2 * k)) r n hn
    rw [← e2] at g2
    have e3 : (pre ++ put (2 * k)).length = pre.length + (put (2 * k)).length := by simp
    rw [e3] at g2
    rw [e1, if_pos (by unfold tagAt; rw [g1]; simp), g1]
    dsimp only
    rw [g2, e]
    simp; omega
theorem readT_field {pre s r : List UInt8} {k most : Nat} (hk : k < 100) (hs : s.length ≤ most) (hm : most < 1000) (hr : s = [] → Behind (2 * k + 1) r) :
    readT (pre ++ (fieldT k s ++ r)) k most pre.length = (s, pre.length + (fieldT k s).length) := by
  unfold readT
  by_cases h0 : s = []
  · subst h0
    have e : fieldT k [] = [] := by simp [fieldT]
    rw [e, List.nil_append, if_neg (by rw [tag_behind (hr rfl) (Nat.le_refl _)]; simp)]
    simp
  · have e : fieldT k s = put (2 * k + 1) ++ (put s.length ++ s) := by simp [fieldT, h0]
    have e1 : pre ++ (fieldT k s ++ r) = pre ++ (put (2 * k + 1) ++ (put s.length ++ (s ++ r))) := by rw [e]; simp
    have e2 : pre ++ (put (2 * k + 1) ++ (put s.length ++ (s ++ r))) = (pre ++ put (2 * k + 1)) ++ (put s.length ++ (s ++ r)) := by simp
    have g1 := getAt_put pre (put s.length ++ (s ++ r)) (2 * k + 1) (by omega)
    have g2 := getText_put (pre ++ put (2 * k + 1)) r s most hs (by omega)
    rw [← e2] at g2
    have e3 : (pre ++ put (2 * k + 1)).length = pre.length + (put (2 * k + 1)).length := by simp
    rw [e3] at g2
    rw [e1, if_pos (by unfold tagAt; rw [g1]; simp), g1]
    dsimp only
    rw [g2, e]
    simp; omega

/-- An attribute of a text: key and value; without a key the whole text is the value. -/
def attrOf (t : List UInt8) : List UInt8 × List UInt8 := ((getText t 0 60).1, t.drop (getText t 0 60).2.1)
/-- Attributes read from a place on, k at most. -/
def readA (cs : List UInt8) : Nat → Nat → List (List UInt8 × List UInt8) × Nat
  | 0, i => ([], i)
  | k + 1, i =>
    if (readT cs 10 121 i).1 = [] then ([], (readT cs 10 121 i).2)
    else (attrOf (readT cs 10 121 i).1 :: (readA cs k (readT cs 10 121 i).2).1, (readA cs k (readT cs 10 121 i).2).2)

def bytesOf (l : List UInt8) : ByteArray := ⟨l.toArray⟩
theorem bytesOf_list (s : ByteArray) : bytesOf s.data.toList = s := by cases s; simp [bytesOf]
theorem list_bytesOf (l : List UInt8) : (bytesOf l).data.toList = l := by simp [bytesOf]
theorem size_list (s : ByteArray) : s.data.toList.length = s.size := by simp
def pairOf (p : List UInt8 × List UInt8) : ByteArray × ByteArray := (bytesOf p.1, bytesOf p.2)

theorem attrText_len (a : ByteArray × ByteArray) (h1 : a.1.size ≤ 60) : (attrText a).length = 1 + a.1.size + a.2.size := by
  unfold attrText
  rw [put_lt (by omega)]
  simp; omega
theorem attrOf_text (a : ByteArray × ByteArray) (h1 : a.1.size ≤ 60) : pairOf (attrOf (attrText a)) = a := by
  have g := getText_put [] a.2.data.toList a.1.data.toList 60 (by rw [size_list]; exact h1) (by omega)
  rw [size_list] at g
  simp only [List.nil_append, List.length_nil, Nat.zero_add] at g
  have e : attrText a = put a.1.size ++ (a.1.data.toList ++ a.2.data.toList) := rfl
  unfold attrOf
  have g' : getText (attrText a) 0 60 = (a.1.data.toList, (put a.1.size).length + a.1.size, 0) := g
  rw [g']
  dsimp only
  have e2 : attrText a = (put a.1.size ++ a.1.data.toList) ++ a.2.data.toList := by rw [e]; simp
  rw [e2, List.drop_left' (by simp)]
  simp only [pairOf, bytesOf_list]

theorem readA_fields : ∀ (l : List (ByteArray × ByteArray)) (k : Nat) (pre : List UInt8), l.length ≤ k → (∀ a ∈ l, 0 < a.1.size ∧ a.1.size ≤ 60 ∧ a.2.size ≤ 60) →
    (readA (pre ++ attrFields l) k pre.length).1.map pairOf = l
  | [], 0, _, _, _ => rfl
  | [], k + 1, pre, _, _ => by
    have h := readT_field (pre := pre) (s := []) (r := []) (k := 10) (most := 121) (by omega) (by simp) (by omega) (fun _ => behind_nil _)
    have e : pre ++ (fieldT 10 [] ++ []) = pre ++ attrFields [] := by simp [fieldT, attrFields]
    rw [e] at h
    unfold readA
    rw [h]
    rfl
  | a :: r, 0, _, h, _ => by simp at h
  | a :: r, k + 1, pre, h, hall => by
    obtain ⟨h1, h2, h3⟩ := hall a (by simp)
    have hl := attrText_len a h2
    have g := readT_field (pre := pre) (s := attrText a) (r := attrFields r) (k := 10) (most := 121) (by omega) (by omega) (by omega) (fun h => by rw [h] at hl; simp at hl; omega)
    have hne : attrText a ≠ [] := fun h => by rw [h] at hl; simp at hl; omega
    have e : attrFields (a :: r) = fieldT 10 (attrText a) ++ attrFields r := rfl
    unfold readA
    rw [e, g]
    dsimp only
    rw [if_neg hne]
    have ih := readA_fields r k (pre ++ fieldT 10 (attrText a)) (by simpa using h) (fun b hb => hall b (by simp [hb]))
    rw [List.append_assoc, List.length_append] at ih
    rw [List.map_cons, ih, attrOf_text a h2]

def i64 (n : Nat) : Int := if n < 9223372036854775808 then (n : Int) else (n : Int) - 18446744073709551616

def rN1 (cs : List UInt8) := readN cs 1 1
def rN2 (cs : List UInt8) := readN cs 2 (rN1 cs).2
def rN3 (cs : List UInt8) := readN cs 3 (rN2 cs).2
def rN4 (cs : List UInt8) := readN cs 4 (rN3 cs).2
def rT5 (cs : List UInt8) := readT cs 5 60 (rN4 cs).2
def rN6 (cs : List UInt8) := readN cs 6 (rT5 cs).2
def rN7 (cs : List UInt8) := readN cs 7 (rN6 cs).2
def rN8 (cs : List UInt8) := readN cs 8 (rN7 cs).2
def rN9 (cs : List UInt8) := readN cs 9 (rN8 cs).2
def rA10 (cs : List UInt8) := readA cs 8 (rN9 cs).2
def readSpan (cs : List UInt8) : Sp :=
  { hi := (rN1 cs).1, lo := (rN2 cs).1, id := (rN3 cs).1, par := (rN4 cs).1, name := bytesOf (rT5 cs).1, start := i64 (rN6 cs).1, stop := i64 (rN7 cs).1, bad := decide ((rN8 cs).1 ≠ 0), attrs := (rA10 cs).1.map pairOf, rv := (rN9 cs).1 }
def lT1 (cs : List UInt8) := readT cs 1 60 1
def lN2 (cs : List UInt8) := readN cs 2 (lT1 cs).2
def lN3 (cs : List UInt8) := readN cs 3 (lN2 cs).2
def lT4 (cs : List UInt8) := readT cs 4 200 (lN3 cs).2
def readLog (cs : List UInt8) : Lg := { key := bytesOf (lT1 cs).1, weight := (lN2 cs).1, at_ := i64 (lN3 cs).1, body := bytesOf (lT4 cs).1 }

/-- **A span that was laid is read.** -/
theorem readSpan_enc (c : UInt8) (s : Sp) (h1 : s.hi < 18446744073709551616) (h2 : s.lo < 18446744073709551616) (h3 : s.id < 18446744073709551616) (h4 : s.par < 18446744073709551616) (h5 : s.name.size ≤ 60)
    (h6 : 0 ≤ s.start ∧ s.start ≤ 1099511627776) (h7 : 0 ≤ s.stop ∧ s.stop ≤ 1099511627776) (h9 : s.rv < 18446744073709551616) (hA : s.attrs.length ≤ 8) (hall : ∀ a ∈ s.attrs, 0 < a.1.size ∧ a.1.size ≤ 60 ∧ a.2.size ≤ 60) :
    readSpan (c :: encSpan s) = s := by
  obtain ⟨R9, e9⟩ : ∃ R, R = attrFields s.attrs := ⟨_, rfl⟩
  obtain ⟨R8, e8⟩ : ∃ R, R = fieldN 9 s.rv ++ R9 := ⟨_, rfl⟩
  obtain ⟨R7, e7⟩ : ∃ R, R = fieldN 8 (badN s.bad) ++ R8 := ⟨_, rfl⟩
  obtain ⟨R6, e6⟩ : ∃ R, R = fieldN 7 s.stop.toNat ++ R7 := ⟨_, rfl⟩
  obtain ⟨R5, e5⟩ : ∃ R, R = fieldN 6 s.start.toNat ++ R6 := ⟨_, rfl⟩
  obtain ⟨R4, e4⟩ : ∃ R, R = fieldT 5 s.name.data.toList ++ R5 := ⟨_, rfl⟩
  obtain ⟨R3, e3⟩ : ∃ R, R = fieldN 4 s.par ++ R4 := ⟨_, rfl⟩
  obtain ⟨R2, e2⟩ : ∃ R, R = fieldN 3 s.id ++ R3 := ⟨_, rfl⟩
  obtain ⟨R1, e1⟩ : ∃ R, R = fieldN 2 s.lo ++ R2 := ⟨_, rfl⟩
  have b9 : Behind 20 R9 := e9 ▸ behind_A _ (by omega)
  have b8 : Behind 17 R8 := e8 ▸ behind_N (by omega) (by omega) (b9.mono (by omega))
  have b7 : Behind 15 R7 := e7 ▸ behind_N (by omega) (by omega) (b8.mono (by omega))
  have b6 : Behind 13 R6 := e6 ▸ behind_N (by omega) (by omega) (b7.mono (by omega))
  have b5 : Behind 11 R5 := e5 ▸ behind_N (by omega) (by omega) (b6.mono (by omega))
  have b4 : Behind 10 R4 := e4 ▸ behind_T (by omega) (by omega) (b5.mono (by omega))
  have b3 : Behind 7 R3 := e3 ▸ behind_N (by omega) (by omega) (b4.mono (by omega))
  have b2 : Behind 5 R2 := e2 ▸ behind_N (by omega) (by omega) (b3.mono (by omega))
  have b1 : Behind 3 R1 := e1 ▸ behind_N (by omega) (by omega) (b2.mono (by omega))
  obtain ⟨cs, ecs⟩ : ∃ cs, cs = c :: encSpan s := ⟨_, rfl⟩
  have q1 : cs = [c] ++ (fieldN 1 s.hi ++ R1) := by rw [ecs, e1, e2, e3, e4, e5, e6, e7, e8, e9]; rfl
  have q2 : cs = ([c] ++ fieldN 1 s.hi) ++ (fieldN 2 s.lo ++ R2) := by rw [q1, e1]; simp
  have q3 : cs = (([c] ++ fieldN 1 s.hi) ++ fieldN 2 s.lo) ++ (fieldN 3 s.id ++ R3) := by rw [q2, e2]; simp
  have q4 : cs = ((([c] ++ fieldN 1 s.hi) ++ fieldN 2 s.lo) ++ fieldN 3 s.id) ++ (fieldN 4 s.par ++ R4) := by rw [q3, e3]; simp
  have q5 : cs = (((([c] ++ fieldN 1 s.hi) ++ fieldN 2 s.lo) ++ fieldN 3 s.id) ++ fieldN 4 s.par) ++ (fieldT 5 s.name.data.toList ++ R5) := by rw [q4, e4]; simp
  have q6 : cs = ((((([c] ++ fieldN 1 s.hi) ++ fieldN 2 s.lo) ++ fieldN 3 s.id) ++ fieldN 4 s.par) ++ fieldT 5 s.name.data.toList) ++ (fieldN 6 s.start.toNat ++ R6) := by rw [q5, e5]; simp
  have q7 : cs = (((((([c] ++ fieldN 1 s.hi) ++ fieldN 2 s.lo) ++ fieldN 3 s.id) ++ fieldN 4 s.par) ++ fieldT 5 s.name.data.toList) ++ fieldN 6 s.start.toNat) ++ (fieldN 7 s.stop.toNat ++ R7) := by rw [q6, e6]; simp
  have q8 : cs = ((((((([c] ++ fieldN 1 s.hi) ++ fieldN 2 s.lo) ++ fieldN 3 s.id) ++ fieldN 4 s.par) ++ fieldT 5 s.name.data.toList) ++ fieldN 6 s.start.toNat) ++ fieldN 7 s.stop.toNat) ++ (fieldN 8 (badN s.bad) ++ R8) := by rw [q7, e7]; simp
  have q9 : cs = (((((((([c] ++ fieldN 1 s.hi) ++ fieldN 2 s.lo) ++ fieldN 3 s.id) ++ fieldN 4 s.par) ++ fieldT 5 s.name.data.toList) ++ fieldN 6 s.start.toNat) ++ fieldN 7 s.stop.toNat) ++ fieldN 8 (badN s.bad)) ++ (fieldN 9 s.rv ++ R9) := by rw [q8, e8]; simp
  have q10 : cs = ((((((((([c] ++ fieldN 1 s.hi) ++ fieldN 2 s.lo) ++ fieldN 3 s.id) ++ fieldN 4 s.par) ++ fieldT 5 s.name.data.toList) ++ fieldN 6 s.start.toNat) ++ fieldN 7 s.stop.toNat) ++ fieldN 8 (badN s.bad)) ++ fieldN 9 s.rv) ++ attrFields s.attrs := by rw [q9, e9]; simp
  have r1 := readN_field (pre := [c]) (r := R1) (k := 1) (n := s.hi) (by omega) h1 (b1.mono (by omega))
  rw [← q1] at r1
  have r2 := readN_field (pre := [c] ++ fieldN 1 s.hi) (r := R2) (k := 2) (n := s.lo) (by omega) h2 (b2.mono (by omega))
  rw [← q2] at r2
  have r3 := readN_field (pre := ([c] ++ fieldN 1 s.hi) ++ fieldN 2 s.lo) (r := R3) (k := 3) (n := s.id) (by omega) h3 (b3.mono (by omega))
  rw [← q3] at r3
  have r4 := readN_field (pre := (([c] ++ fieldN 1 s.hi) ++ fieldN 2 s.lo) ++ fieldN 3 s.id) (r := R4) (k := 4) (n := s.par) (by omega) h4 (b4.mono (by omega))
  rw [← q4] at r4
  have r5 := readT_field (pre := ((([c] ++ fieldN 1 s.hi) ++ fieldN 2 s.lo) ++ fieldN 3 s.id) ++ fieldN 4 s.par) (r := R5) (k := 5) (s := s.name.data.toList) (most := 60) (by omega) (by rw [size_list]; exact h5) (by omega) (fun _ => b5.mono (by omega))
  rw [← q5] at r5
  have r6 := readN_field (pre := (((([c] ++ fieldN 1 s.hi) ++ fieldN 2 s.lo) ++ fieldN 3 s.id) ++ fieldN 4 s.par) ++ fieldT 5 s.name.data.toList) (r := R6) (k := 6) (n := s.start.toNat) (by omega) (by omega) (b6.mono (by omega))
  rw [← q6] at r6
  have r7 := readN_field (pre := ((((([c] ++ fieldN 1 s.hi) ++ fieldN 2 s.lo) ++ fieldN 3 s.id) ++ fieldN 4 s.par) ++ fieldT 5 s.name.data.toList) ++ fieldN 6 s.start.toNat) (r := R7) (k := 7) (n := s.stop.toNat) (by omega) (by omega) (b7.mono (by omega))
  rw [← q7] at r7
  have r8 := readN_field (pre := (((((([c] ++ fieldN 1 s.hi) ++ fieldN 2 s.lo) ++ fieldN 3 s.id) ++ fieldN 4 s.par) ++ fieldT 5 s.name.data.toList) ++ fieldN 6 s.start.toNat) ++ fieldN 7 s.stop.toNat) (r := R8) (k := 8) (n := badN s.bad) (by omega) (by unfold badN; split <;> omega) (b8.mono (by omega))
  rw [← q8] at r8
  have r9 := readN_field (pre := ((((((([c] ++ fieldN 1 s.hi) ++ fieldN 2 s.lo) ++ fieldN 3 s.id) ++ fieldN 4 s.par) ++ fieldT 5 s.name.data.toList) ++ fieldN 6 s.start.toNat) ++ fieldN 7 s.stop.toNat) ++ fieldN 8 (badN s.bad)) (r := R9) (k := 9) (n := s.rv) (by omega) h9 (b9.mono (by omega))
  rw [← q9] at r9
  have r10 := readA_fields s.attrs 8 (((((((([c] ++ fieldN 1 s.hi) ++ fieldN 2 s.lo) ++ fieldN 3 s.id) ++ fieldN 4 s.par) ++ fieldT 5 s.name.data.toList) ++ fieldN 6 s.start.toNat) ++ fieldN 7 s.stop.toNat) ++ fieldN 8 (badN s.bad) ++ fieldN 9 s.rv) hA hall
  rw [← q10] at r10
  rw [← ecs]
  clear q1 q2 q3 q4 q5 q6 q7 q8 q9 q10 b1 b2 b3 b4 b5 b6 b7 b8 b9 e1 e2 e3 e4 e5 e6 e7 e8 e9 ecs
  have t1 : rN1 cs = (s.hi, ([c] ++ fieldN 1 s.hi).length) := by unfold rN1; rw [show (1 : Nat) = [c].length from rfl]; rw [show readN cs [c].length [c].length = readN cs 1 [c].length from rfl, r1]; simp; omega
  have t2 : rN2 cs = (s.lo, (([c] ++ fieldN 1 s.hi) ++ fieldN 2 s.lo).length) := by unfold rN2; rw [t1, r2]; simp; omega
  have t3 : rN3 cs = (s.id, ((([c] ++ fieldN 1 s.hi) ++ fieldN 2 s.lo) ++ fieldN 3 s.id).length) := by unfold rN3; rw [t2, r3]; simp; omega
  have t4 : rN4 cs = (s.par, (((([c] ++ fieldN 1 s.hi) ++ fieldN 2 s.lo) ++ fieldN 3 s.id) ++ fieldN 4 s.par).length) := by unfold rN4; rw [t3, r4]; simp; omega
  have t5 : rT5 cs = (s.name.data.toList, ((((([c] ++ fieldN 1 s.hi) ++ fieldN 2 s.lo) ++ fieldN 3 s.id) ++ fieldN 4 s.par) ++ fieldT 5 s.name.data.toList).length) := by unfold rT5; rw [t4, r5]; simp; omega
  have t6 : rN6 cs = (s.start.toNat, (((((([c] ++ fieldN 1 s.hi) ++ fieldN 2 s.lo) ++ fieldN 3 s.id) ++ fieldN 4 s.par) ++ fieldT 5 s.name.data.toList) ++ fieldN 6 s.start.toNat).length) := by unfold rN6; rw [t5, r6]; simp; omega
  have t7 : rN7 cs = (s.stop.toNat, ((((((([c] ++ fieldN 1 s.hi) ++ fieldN 2 s.lo) ++ fieldN 3 s.id) ++ fieldN 4 s.par) ++ fieldT 5 s.name.data.toList) ++ fieldN 6 s.start.toNat) ++ fieldN 7 s.stop.toNat).length) := by unfold rN7; rw [t6, r7]; simp; omega
  have t8 : rN8 cs = (badN s.bad, (((((((([c] ++ fieldN 1 s.hi) ++ fieldN 2 s.lo) ++ fieldN 3 s.id) ++ fieldN 4 s.par) ++ fieldT 5 s.name.data.toList) ++ fieldN 6 s.start.toNat) ++ fieldN 7 s.stop.toNat) ++ fieldN 8 (badN s.bad)).length) := by unfold rN8; rw [t7, r8]; simp; omega
  have t9 : rN9 cs = (s.rv, ((((((((([c] ++ fieldN 1 s.hi) ++ fieldN 2 s.lo) ++ fieldN 3 s.id) ++ fieldN 4 s.par) ++ fieldT 5 s.name.data.toList) ++ fieldN 6 s.start.toNat) ++ fieldN 7 s.stop.toNat) ++ fieldN 8 (badN s.bad)) ++ fieldN 9 s.rv).length) := by unfold rN9; rw [t8, r9]; simp; omega
  have t10 : (rA10 cs).1.map pairOf = s.attrs := by unfold rA10; rw [t9]; exact r10
  unfold readSpan
  rw [t1, t2, t3, t4, t5, t6, t7, t8, t9, t10]
  obtain ⟨hi, lo, id, par, name, start, stop, bad, attrs, rv⟩ := s
  dsimp only at h6 h7 ⊢
  have g6 : i64 start.toNat = start := by unfold i64; rw [if_pos (by omega)]; omega
  have g7 : i64 stop.toNat = stop := by unfold i64; rw [if_pos (by omega)]; omega
  have g8 : decide (badN bad ≠ 0) = bad := by cases bad <;> simp [badN]
  rw [g6, g7, g8, bytesOf_list]

/-- **A log that was laid is read.** -/
theorem readLog_enc (c : UInt8) (l : Lg) (h1 : l.key.size ≤ 60) (h2 : l.weight < 18446744073709551616) (h3 : 0 ≤ l.at_ ∧ l.at_ ≤ 1099511627776) (h4 : l.body.size ≤ 200) : readLog (c :: encLog l) = l := by
  obtain ⟨R3, e3⟩ : ∃ R, R = fieldT 4 l.body.data.toList ++ [] := ⟨_, rfl⟩
  obtain ⟨R2, e2⟩ : ∃ R, R = fieldN 3 l.at_.toNat ++ R3 := ⟨_, rfl⟩
  obtain ⟨R1, e1⟩ : ∃ R, R = fieldN 2 l.weight ++ R2 := ⟨_, rfl⟩
  have b3 : Behind 8 R3 := e3 ▸ behind_T (by omega) (by omega) (behind_nil _)
  have b2 : Behind 5 R2 := e2 ▸ behind_N (by omega) (by omega) (b3.mono (by omega))
  have b1 : Behind 3 R1 := e1 ▸ behind_N (by omega) (by omega) (b2.mono (by omega))
  obtain ⟨cs, ecs⟩ : ∃ cs, cs = c :: encLog l := ⟨_, rfl⟩
  have q1 : cs = [c] ++ (fieldT 1 l.key.data.toList ++ R1) := by rw [ecs, e1, e2, e3]; simp [encLog]
  have q2 : cs = ([c] ++ fieldT 1 l.key.data.toList) ++ (fieldN 2 l.weight ++ R2) := by rw [q1, e1]; simp
  have q3 : cs = (([c] ++ fieldT 1 l.key.data.toList) ++ fieldN 2 l.weight) ++ (fieldN 3 l.at_.toNat ++ R3) := by rw [q2, e2]; simp
  have q4 : cs = ((([c] ++ fieldT 1 l.key.data.toList) ++ fieldN 2 l.weight) ++ fieldN 3 l.at_.toNat) ++ (fieldT 4 l.body.data.toList ++ []) := by rw [q3, e3]; simp
  have r1 := readT_field (pre := [c]) (r := R1) (k := 1) (s := l.key.data.toList) (most := 60) (by omega) (by rw [size_list]; exact h1) (by omega) (fun _ => b1.mono (by omega))
  rw [← q1] at r1
  have r2 := readN_field (pre := [c] ++ fieldT 1 l.key.data.toList) (r := R2) (k := 2) (n := l.weight) (by omega) h2 (b2.mono (by omega))
  rw [← q2] at r2
  have r3 := readN_field (pre := ([c] ++ fieldT 1 l.key.data.toList) ++ fieldN 2 l.weight) (r := R3) (k := 3) (n := l.at_.toNat) (by omega) (by omega) (b3.mono (by omega))
  rw [← q3] at r3
  have r4 := readT_field (pre := (([c] ++ fieldT 1 l.key.data.toList) ++ fieldN 2 l.weight) ++ fieldN 3 l.at_.toNat) (r := []) (k := 4) (s := l.body.data.toList) (most := 200) (by omega) (by rw [size_list]; exact h4) (by omega) (fun _ => behind_nil _)
  rw [← q4] at r4
  rw [← ecs]
  clear q1 q2 q3 q4 b1 b2 b3 e1 e2 e3 ecs
  have t1 : lT1 cs = (l.key.data.toList, ([c] ++ fieldT 1 l.key.data.toList).length) := by unfold lT1; rw [show readT cs 1 60 1 = readT cs 1 60 [c].length from rfl, r1]; simp; omega
  have t2 : lN2 cs = (l.weight, (([c] ++ fieldT 1 l.key.data.toList) ++ fieldN 2 l.weight).length) := by unfold lN2; rw [t1, r2]; simp; omega
  have t3 : lN3 cs = (l.at_.toNat, ((([c] ++ fieldT 1 l.key.data.toList) ++ fieldN 2 l.weight) ++ fieldN 3 l.at_.toNat).length) := by unfold lN3; rw [t2, r3]; simp; omega
  have t4 : (lT4 cs).1 = l.body.data.toList := by unfold lT4; rw [t3, r4]
  unfold readLog
  rw [t1, t2, t3, t4]
  obtain ⟨key, weight, a, body⟩ := l
  dsimp only at h3 ⊢
  have g : i64 a.toNat = a := by unfold i64; rw [if_pos (by omega)]; omega
  rw [g, bytesOf_list, bytesOf_list]

end Go.Proofs.ItemMath
