/-
  Plain mathematics of items as bytes: one byte more behind what was laid does not turn what is read. No condition; no program is named here.
-/
import Derived.Test.YtkkojjebggmcfaaItemMath
namespace Go.Proofs.ItemMath
open Go.Proofs.NumMath

/-- Nothing, or one byte. -/
def OneMore (r : List UInt8) : Prop := r = [] ∨ ∃ x, r = [x]
/-- What stands behind a field: nothing, one byte, or a greater tag. -/
def BehindX (b : Nat) (r : List UInt8) : Prop := OneMore r ∨ ∃ t q, b < t ∧ t < 18446744073709551616 ∧ r = put t ++ q
theorem BehindX.mono {a b : Nat} {r : List UInt8} (h : BehindX b r) (hab : a ≤ b) : BehindX a r := by
  rcases h with h | ⟨t, q, h1, h2, h3⟩
  · exact .inl h
  · exact .inr ⟨t, q, by omega, h2, h3⟩
theorem behindX_N {b k n : Nat} {r : List UInt8} (h : b < 2 * k) (hk : k < 100) (hr : BehindX b r) : BehindX b (fieldN k n ++ r) := by
  unfold fieldN
  by_cases h0 : n = 0
  · rw [if_pos h0]; simpa using hr
  · rw [if_neg h0]; exact .inr ⟨2 * k, put n ++ r, h, by omega, by simp⟩
theorem behindX_T {b k : Nat} {s r : List UInt8} (h : b < 2 * k + 1) (hk : k < 100) (hr : BehindX b r) : BehindX b (fieldT k s ++ r) := by
  unfold fieldT
  by_cases h0 : s = []
  · rw [if_pos h0]; simpa using hr
  · rw [if_neg h0]; exact .inr ⟨2 * k + 1, put s.length ++ (s ++ r), h, by omega, by simp⟩
theorem behindX_A : ∀ (l : List (ByteArray × ByteArray)) {b : Nat} {R : List UInt8}, OneMore R → b < 21 → BehindX b (attrFields l ++ R)
  | [], _, _, hR, _ => .inl hR
  | a :: r, _, R, hR, h => by
    have e : attrFields (a :: r) ++ R = fieldT 10 (attrText a) ++ (attrFields r ++ R) := by simp [attrFields]
    rw [e]
    exact behindX_T (k := 10) (by omega) (by omega) (behindX_A r hR h)
theorem getAt_one (pre : List UInt8) (x : UInt8) : getAt (pre ++ [x]) (pre.length : Int) = if x.toNat < 128 then (x.toNat, pre.length + 1, 0) else (0, 0, 10) := by
  unfold getAt
  rw [if_neg (by simp; omega)]
  simp only [Int.toNat_natCast, List.drop_left, scan]
  by_cases h : x.toNat < 128 <;> simp [h]
theorem getAt_past (pre : List UInt8) (x : UInt8) : getAt (pre ++ [x]) ((pre.length + 1 : Nat) : Int) = (0, 0, 10) := by
  have h := getAt_end (pre ++ [x])
  rw [List.length_append, List.length_singleton] at h
  exact h
theorem readN_more {pre r : List UInt8} {k : Nat} (h : BehindX (2 * k) r) : readN (pre ++ r) k pre.length = (0, pre.length) := by
  rcases h with (rfl | ⟨x, rfl⟩) | h
  · unfold readN tagAt
    rw [List.append_nil, getAt_end]; simp
  · unfold readN tagAt
    rw [getAt_one]
    by_cases hx : x.toNat < 128
    · rw [if_pos hx]
      dsimp only
      rw [getAt_past]; simp
    · rw [if_neg hx]; simp
  · unfold readN
    rw [if_neg (by rw [tag_behind (.inr h) (Nat.le_refl _)]; simp)]
theorem readT_more {pre r : List UInt8} {k most : Nat} (h : BehindX (2 * k + 1) r) : readT (pre ++ r) k most pre.length = ([], pre.length) := by
  rcases h with (rfl | ⟨x, rfl⟩) | h
  · unfold readT tagAt
    rw [List.append_nil, getAt_end]; simp
  · unfold readT tagAt getText
    rw [getAt_one]
    by_cases hx : x.toNat < 128
    · rw [if_pos hx]
      dsimp only
      rw [getAt_past]; simp
    · rw [if_neg hx]; simp
  · unfold readT
    rw [if_neg (by rw [tag_behind (.inr h) (Nat.le_refl _)]; simp)]
theorem readN_fieldX {pre r : List UInt8} {k n : Nat} (hk : k < 100) (hn : n < 18446744073709551616) (hr : BehindX (2 * k) r) :
    readN (pre ++ (fieldN k n ++ r)) k pre.length = (n, pre.length + (fieldN k n).length) := by
  by_cases h0 : n = 0
  · subst h0
    have e : fieldN k 0 = [] := by simp [fieldN]
    rw [e, List.nil_append, readN_more hr]
    simp
  · have hb := readN_field (pre := pre) (r := put (2 * k + 1) ++ []) (k := k) (n := n) hk hn (.inr ⟨2 * k + 1, [], by omega, by omega, rfl⟩)
    unfold readN at hb ⊢
    have e : fieldN k n = put (2 * k) ++ put n := by simp [fieldN, h0]
    have e1 : pre ++ (fieldN k n ++ r) = pre ++ (put (2 * k) ++ (put n ++ r)) := by rw [e]; simp
    have e2 : pre ++ (put (2 * k) ++ (put n ++ r)) = (pre ++ put (2 * k)) ++ (put n ++ r) := by simp
    have g1 := getAt_put pre (put n ++ r) (2 * k) (by omega)
    have g2 := getAt_put (pre ++ put (2 * k)) r n hn
    rw [← e2] at g2
    have e3 : (pre ++ put (2 * k)).length = pre.length + (put (2 * k)).length := by simp
    rw [e3] at g2
    rw [e1, if_pos (by unfold tagAt; rw [g1]; simp), g1]
    dsimp only
    rw [g2, e]
    simp; omega
theorem readT_fieldX {pre s r : List UInt8} {k most : Nat} (hk : k < 100) (hs : s.length ≤ most) (hm : most < 1000) (hr : s = [] → BehindX (2 * k + 1) r) :
    readT (pre ++ (fieldT k s ++ r)) k most pre.length = (s, pre.length + (fieldT k s).length) := by
  by_cases h0 : s = []
  · subst h0
    have e : fieldT k [] = [] := by simp [fieldT]
    rw [e, List.nil_append, readT_more (hr rfl)]
    simp
  · exact readT_field hk hs hm (fun h => absurd h h0)
theorem readA_fieldsX {R : List UInt8} (hR : OneMore R) : ∀ (l : List (ByteArray × ByteArray)) (k : Nat) (pre : List UInt8), l.length ≤ k → (∀ a ∈ l, 0 < a.1.size ∧ a.1.size ≤ 60 ∧ a.2.size ≤ 60) →
    (readA (pre ++ (attrFields l ++ R)) k pre.length).1.map pairOf = l
  | [], 0, _, _, _ => rfl
  | [], k + 1, pre, _, _ => by
    have h := readT_more (pre := pre) (r := R) (k := 10) (most := 121) (.inl hR)
    have e : pre ++ (attrFields [] ++ R) = pre ++ R := by simp [attrFields]
    rw [e]
    unfold readA
    rw [h]
    rfl
  | a :: r, 0, _, h, _ => by simp at h
  | a :: r, k + 1, pre, h, hall => by
    obtain ⟨h1, h2, h3⟩ := hall a (by simp)
    have hl := attrText_len a h2
    have g := readT_field (pre := pre) (s := attrText a) (r := attrFields r ++ R) (k := 10) (most := 121) (by omega) (by omega) (by omega) (fun h => by rw [h] at hl; simp at hl; omega)
    have hne : attrText a ≠ [] := fun h => by rw [h] at hl; simp at hl; omega
    have e : attrFields (a :: r) ++ R = fieldT 10 (attrText a) ++ (attrFields r ++ R) := by simp [attrFields]
    unfold readA
    rw [e, g]
    dsimp only
    rw [if_neg hne]
    have ih := readA_fieldsX hR r k (pre ++ fieldT 10 (attrText a)) (by simpa using h) (fun b hb => hall b (by simp [hb]))
    rw [List.append_assoc, List.length_append] at ih
    rw [List.map_cons, ih, attrOf_text a h2]

/-- **A span that was laid is read.** -/
theorem readSpan_more (c : UInt8) (s : Sp) (R : List UInt8) (hR : OneMore R) (h1 : s.hi < 18446744073709551616) (h2 : s.lo < 18446744073709551616) (h3 : s.id < 18446744073709551616) (h4 : s.par < 18446744073709551616) (h5 : s.name.size ≤ 60)
    (h6 : 0 ≤ s.start ∧ s.start ≤ 1099511627776) (h7 : 0 ≤ s.stop ∧ s.stop ≤ 1099511627776) (h9 : s.rv < 18446744073709551616) (hA : s.attrs.length ≤ 8) (hall : ∀ a ∈ s.attrs, 0 < a.1.size ∧ a.1.size ≤ 60 ∧ a.2.size ≤ 60) :
    readSpan (c :: (encSpan s ++ R)) = s := by
  obtain ⟨R9, e9⟩ : ∃ Q, Q = attrFields s.attrs ++ R := ⟨_, rfl⟩
  obtain ⟨R8, e8⟩ : ∃ Q, Q = fieldN 9 s.rv ++ R9 := ⟨_, rfl⟩
  obtain ⟨R7, e7⟩ : ∃ Q, Q = fieldN 8 (badN s.bad) ++ R8 := ⟨_, rfl⟩
  obtain ⟨R6, e6⟩ : ∃ Q, Q = fieldN 7 s.stop.toNat ++ R7 := ⟨_, rfl⟩
  obtain ⟨R5, e5⟩ : ∃ Q, Q = fieldN 6 s.start.toNat ++ R6 := ⟨_, rfl⟩
  obtain ⟨R4, e4⟩ : ∃ Q, Q = fieldT 5 s.name.data.toList ++ R5 := ⟨_, rfl⟩
  obtain ⟨R3, e3⟩ : ∃ Q, Q = fieldN 4 s.par ++ R4 := ⟨_, rfl⟩
  obtain ⟨R2, e2⟩ : ∃ Q, Q = fieldN 3 s.id ++ R3 := ⟨_, rfl⟩
  obtain ⟨R1, e1⟩ : ∃ Q, Q = fieldN 2 s.lo ++ R2 := ⟨_, rfl⟩
  have b9 : BehindX 20 R9 := e9 ▸ behindX_A _ hR (by omega)
  have b8 : BehindX 17 R8 := e8 ▸ behindX_N (by omega) (by omega) (b9.mono (by omega))
  have b7 : BehindX 15 R7 := e7 ▸ behindX_N (by omega) (by omega) (b8.mono (by omega))
  have b6 : BehindX 13 R6 := e6 ▸ behindX_N (by omega) (by omega) (b7.mono (by omega))
  have b5 : BehindX 11 R5 := e5 ▸ behindX_N (by omega) (by omega) (b6.mono (by omega))
  have b4 : BehindX 10 R4 := e4 ▸ behindX_T (by omega) (by omega) (b5.mono (by omega))
  have b3 : BehindX 7 R3 := e3 ▸ behindX_N (by omega) (by omega) (b4.mono (by omega))
  have b2 : BehindX 5 R2 := e2 ▸ behindX_N (by omega) (by omega) (b3.mono (by omega))
  have b1 : BehindX 3 R1 := e1 ▸ behindX_N (by omega) (by omega) (b2.mono (by omega))
  obtain ⟨cs, ecs⟩ : ∃ cs, cs = c :: (encSpan s ++ R) := ⟨_, rfl⟩
  have q1 : cs = [c] ++ (fieldN 1 s.hi ++ R1) := by rw [ecs, e1, e2, e3, e4, e5, e6, e7, e8, e9]; simp [encSpan]
  have q2 : cs = ([c] ++ fieldN 1 s.hi) ++ (fieldN 2 s.lo ++ R2) := by rw [q1, e1]; simp
  have q3 : cs = (([c] ++ fieldN 1 s.hi) ++ fieldN 2 s.lo) ++ (fieldN 3 s.id ++ R3) := by rw [q2, e2]; simp
  have q4 : cs = ((([c] ++ fieldN 1 s.hi) ++ fieldN 2 s.lo) ++ fieldN 3 s.id) ++ (fieldN 4 s.par ++ R4) := by rw [q3, e3]; simp
  have q5 : cs = (((([c] ++ fieldN 1 s.hi) ++ fieldN 2 s.lo) ++ fieldN 3 s.id) ++ fieldN 4 s.par) ++ (fieldT 5 s.name.data.toList ++ R5) := by rw [q4, e4]; simp
  have q6 : cs = ((((([c] ++ fieldN 1 s.hi) ++ fieldN 2 s.lo) ++ fieldN 3 s.id) ++ fieldN 4 s.par) ++ fieldT 5 s.name.data.toList) ++ (fieldN 6 s.start.toNat ++ R6) := by rw [q5, e5]; simp
  have q7 : cs = (((((([c] ++ fieldN 1 s.hi) ++ fieldN 2 s.lo) ++ fieldN 3 s.id) ++ fieldN 4 s.par) ++ fieldT 5 s.name.data.toList) ++ fieldN 6 s.start.toNat) ++ (fieldN 7 s.stop.toNat ++ R7) := by rw [q6, e6]; simp
  have q8 : cs = ((((((([c] ++ fieldN 1 s.hi) ++ fieldN 2 s.lo) ++ fieldN 3 s.id) ++ fieldN 4 s.par) ++ fieldT 5 s.name.data.toList) ++ fieldN 6 s.start.toNat) ++ fieldN 7 s.stop.toNat) ++ (fieldN 8 (badN s.bad) ++ R8) := by rw [q7, e7]; simp
  have q9 : cs = (((((((([c] ++ fieldN 1 s.hi) ++ fieldN 2 s.lo) ++ fieldN 3 s.id) ++ fieldN 4 s.par) ++ fieldT 5 s.name.data.toList) ++ fieldN 6 s.start.toNat) ++ fieldN 7 s.stop.toNat) ++ fieldN 8 (badN s.bad)) ++ (fieldN 9 s.rv ++ R9) := by rw [q8, e8]; simp
  have q10 : cs = ((((((((([c] ++ fieldN 1 s.hi) ++ fieldN 2 s.lo) ++ fieldN 3 s.id) ++ fieldN 4 s.par) ++ fieldT 5 s.name.data.toList) ++ fieldN 6 s.start.toNat) ++ fieldN 7 s.stop.toNat) ++ fieldN 8 (badN s.bad)) ++ fieldN 9 s.rv) ++ (attrFields s.attrs ++ R) := by rw [q9, e9]; simp
  have r1 := readN_fieldX (pre := [c]) (r := R1) (k := 1) (n := s.hi) (by omega) h1 (b1.mono (by omega))
  rw [← q1] at r1
  have r2 := readN_fieldX (pre := [c] ++ fieldN 1 s.hi) (r := R2) (k := 2) (n := s.lo) (by omega) h2 (b2.mono (by omega))
  rw [← q2] at r2
  have r3 := readN_fieldX (pre := ([c] ++ fieldN 1 s.hi) ++ fieldN 2 s.lo) (r := R3) (k := 3) (n := s.id) (by omega) h3 (b3.mono (by omega))
  rw [← q3] at r3
  have r4 := readN_fieldX (pre := (([c] ++ fieldN 1 s.hi) ++ fieldN 2 s.lo) ++ fieldN 3 s.id) (r := R4) (k := 4) (n := s.par) (by omega) h4 (b4.mono (by omega))
  rw [← q4] at r4
  have r5 := readT_fieldX (pre := ((([c] ++ fieldN 1 s.hi) ++ fieldN 2 s.lo) ++ fieldN 3 s.id) ++ fieldN 4 s.par) (r := R5) (k := 5) (s := s.name.data.toList) (most := 60) (by omega) (by rw [size_list]; exact h5) (by omega) (fun _ => b5.mono (by omega))
  rw [← q5] at r5
  have r6 := readN_fieldX (pre := (((([c] ++ fieldN 1 s.hi) ++ fieldN 2 s.lo) ++ fieldN 3 s.id) ++ fieldN 4 s.par) ++ fieldT 5 s.name.data.toList) (r := R6) (k := 6) (n := s.start.toNat) (by omega) (by omega) (b6.mono (by omega))
  rw [← q6] at r6
  have r7 := readN_fieldX (pre := ((((([c] ++ fieldN 1 s.hi) ++ fieldN 2 s.lo) ++ fieldN 3 s.id) ++ fieldN 4 s.par) ++ fieldT 5 s.name.data.toList) ++ fieldN 6 s.start.toNat) (r := R7) (k := 7) (n := s.stop.toNat) (by omega) (by omega) (b7.mono (by omega))
  rw [← q7] at r7
  have r8 := readN_fieldX (pre := (((((([c] ++ fieldN 1 s.hi) ++ fieldN 2 s.lo) ++ fieldN 3 s.id) ++ fieldN 4 s.par) ++ fieldT 5 s.name.data.toList) ++ fieldN 6 s.start.toNat) ++ fieldN 7 s.stop.toNat) (r := R8) (k := 8) (n := badN s.bad) (by omega) (by unfold badN; split <;> omega) (b8.mono (by omega))
  rw [← q8] at r8
  have r9 := readN_fieldX (pre := ((((((([c] ++ fieldN 1 s.hi) ++ fieldN 2 s.lo) ++ fieldN 3 s.id) ++ fieldN 4 s.par) ++ fieldT 5 s.name.data.toList) ++ fieldN 6 s.start.toNat) ++ fieldN 7 s.stop.toNat) ++ fieldN 8 (badN s.bad)) (r := R9) (k := 9) (n := s.rv) (by omega) h9 (b9.mono (by omega))
  rw [← q9] at r9
  have r10 := readA_fieldsX hR s.attrs 8 (((((((([c] ++ fieldN 1 s.hi) ++ fieldN 2 s.lo) ++ fieldN 3 s.id) ++ fieldN 4 s.par) ++ fieldT 5 s.name.data.toList) ++ fieldN 6 s.start.toNat) ++ fieldN 7 s.stop.toNat) ++ fieldN 8 (badN s.bad) ++ fieldN 9 s.rv) hA hall
  rw [← q10] at r10
  rw [← ecs]
  clear q1 q2 q3 q4 q5 q6 q7 q8 q9 q10 b1 b2 b3 b4 b5 b6 b7 b8 b9 e1 e2 e3 e4 e5 e6 e7 e8 e9 ecs
  have t1 : rN1 cs = (s.hi, ([c] ++ fieldN 1 s.hi).length) := by unfold rN1; rw [show (1 : Nat) = [c].length from rfl]; rw [show readN cs [c].length [c].length = readN cs 1 [c].length from rfl, r1]; simp; omega
  have t2 : rN2 cs = (s.lo, (([c] ++ fieldN 1 s.hi) ++ fieldN 2 s.lo).length) := by unfold rN2; rw [t1, r2]; simp; omega
  have t3 : rN3 cs = (s.id, ((([c] ++ fieldN 1 s.hi) ++ fieldN 2 s.lo) ++ fieldN 3 s.id).length) := by unfold rN3; rw [t2, r3]; simp; omega
  have t4 : rN4 cs = (s.par, (((([c] ++ fieldN 1 s.hi) ++ fieldN 2 s.lo) ++ fieldN 3 s.id) ++ fieldN 4 s.par).length) := by unfold rN4; rw [t3, r4]; simp; omega
  have t5 : rT5 cs = (s.name.data.toList, ((((([c] ++ fieldN 1 s.hi) ++ fieldN 2 s.lo) ++ fieldN 3 s.id) ++ fieldN 4 s.par) ++ fieldT 5 s.name.data.toList).length) := by unfold rT5; rw [t4, r5]; simp; omega
  have t6 : rN6 cs = (s.start.toNat, (((((([c] ++ fieldN 1 s.hi) ++ fieldN 2 s.lo) ++ fieldN 3 s.id) ++ fieldN 4 s.par) ++ fieldT 5 s.name.data.toList) ++ fieldN 6 s.start.toNat).length) := by unfold rN6; rw [t5, r6]; simp; omega
  have t7 : rN7 cs = (s.stop.toNat, ((((((([c] ++ fieldN 1 s.hi) ++ fieldN 2 s.lo) ++ fieldN 3 s.id) ++ fieldN 4 s.par) ++ fieldT 5 s.name.data.toList) ++ fieldN 6 s.start.toNat) ++ fieldN 7 s.stop.toNat).length) := by unfold rN7; rw [t6, r7]; simp; omega
  have t8 : rN8 cs = (badN s.bad, (((((((([c] ++ fieldN 1 s.hi) ++ fieldN 2 s.lo) ++ fieldN 3 s.id) ++ fieldN 4 s.par) ++ fieldT 5 s.name.data.toList) ++ fieldN 6 s.start.toNat) ++ fieldN 7 s.stop.toNat) ++ fieldN 8 (badN s.bad)).length) := by unfold rN8; rw [t7, r8]; simp; omega
  have t9 : rN9 cs = (s.rv, ((((((((([c] ++ fieldN 1 s.hi) ++ fieldN 2 s.lo) ++ fieldN 3 s.id) ++ fieldN 4 s.par) ++ fieldT 5 s.name.data.toList) ++ fieldN 6 s.start.toNat) ++ fieldN 7 s.stop.toNat) ++ fieldN 8 (badN s.bad)) ++ fieldN 9 s.rv).length) := by unfold rN9; rw [t8, r9]; simp; omega
  have t10 : (rA10 cs).1.map pairOf = s.attrs := by unfold rA10; rw [t9]; exact r10
  unfold readSpan
  rw [t1, t2, t3, t4, t5, t6, t7, t8, t9, t10]
  obtain ⟨hi, lo, id, par, name, start, stop, bad, attrs, rv⟩ := s
  dsimp only at h6 h7 ⊢
  have g6 : i64 start.toNat = start := by unfold i64; rw [if_pos (by omega)]; omega
  have g7 : i64 stop.toNat = stop := by unfold i64; rw [if_pos (by omega)]; omega
  have g8 : decide (badN bad ≠ 0) = bad := by cases bad <;> simp [badN]
  rw [g6, g7, g8, bytesOf_list]

/-- **A log that was laid is read.** -/
theorem readLog_more (c : UInt8) (l : Lg) (R : List UInt8) (hR : OneMore R) (h1 : l.key.size ≤ 60) (h2 : l.weight < 18446744073709551616) (h3 : 0 ≤ l.at_ ∧ l.at_ ≤ 1099511627776) (h4 : l.body.size ≤ 200) : readLog (c :: (encLog l ++ R)) = l := by
  obtain ⟨R3, e3⟩ : ∃ Q, Q = fieldT 4 l.body.data.toList ++ R := ⟨_, rfl⟩
  obtain ⟨R2, e2⟩ : ∃ Q, Q = fieldN 3 l.at_.toNat ++ R3 := ⟨_, rfl⟩
  obtain ⟨R1, e1⟩ : ∃ Q, Q = fieldN 2 l.weight ++ R2 := ⟨_, rfl⟩
  have b3 : BehindX 8 R3 := e3 ▸ behindX_T (by omega) (by omega) (.inl hR)
  have b2 : BehindX 5 R2 := e2 ▸ behindX_N (by omega) (by omega) (b3.mono (by omega))
  have b1 : BehindX 3 R1 := e1 ▸ behindX_N (by omega) (by omega) (b2.mono (by omega))
  obtain ⟨cs, ecs⟩ : ∃ cs, cs = c :: (encLog l ++ R) := ⟨_, rfl⟩
  have q1 : cs = [c] ++ (fieldT 1 l.key.data.toList ++ R1) := by rw [ecs, e1, e2, e3]; simp [encLog]
  have q2 : cs = ([c] ++ fieldT 1 l.key.data.toList) ++ (fieldN 2 l.weight ++ R2) := by rw [q1, e1]; simp
  have q3 : cs = (([c] ++ fieldT 1 l.key.data.toList) ++ fieldN 2 l.weight) ++ (fieldN 3 l.at_.toNat ++ R3) := by rw [q2, e2]; simp
  have q4 : cs = ((([c] ++ fieldT 1 l.key.data.toList) ++ fieldN 2 l.weight) ++ fieldN 3 l.at_.toNat) ++ (fieldT 4 l.body.data.toList ++ R) := by rw [q3, e3]; simp
  have r1 := readT_fieldX (pre := [c]) (r := R1) (k := 1) (s := l.key.data.toList) (most := 60) (by omega) (by rw [size_list]; exact h1) (by omega) (fun _ => b1.mono (by omega))
  rw [← q1] at r1
  have r2 := readN_fieldX (pre := [c] ++ fieldT 1 l.key.data.toList) (r := R2) (k := 2) (n := l.weight) (by omega) h2 (b2.mono (by omega))
  rw [← q2] at r2
  have r3 := readN_fieldX (pre := ([c] ++ fieldT 1 l.key.data.toList) ++ fieldN 2 l.weight) (r := R3) (k := 3) (n := l.at_.toNat) (by omega) (by omega) (b3.mono (by omega))
  rw [← q3] at r3
  have r4 := readT_fieldX (pre := (([c] ++ fieldT 1 l.key.data.toList) ++ fieldN 2 l.weight) ++ fieldN 3 l.at_.toNat) (r := R) (k := 4) (s := l.body.data.toList) (most := 200) (by omega) (by rw [size_list]; exact h4) (by omega) (fun _ => .inl hR)
  rw [← q4] at r4
  rw [← ecs]
  clear q1 q2 q3 q4 b1 b2 b3 e1 e2 e3 ecs
  have t1 : lT1 cs = (l.key.data.toList, ([c] ++ fieldT 1 l.key.data.toList).length) := by unfold lT1; rw [show readT cs 1 60 1 = readT cs 1 60 [c].length from rfl, r1]; simp; omega
  have t2 : lN2 cs = (l.weight, (([c] ++ fieldT 1 l.key.data.toList) ++ fieldN 2 l.weight).length) := by unfold lN2; rw [t1, r2]; simp; omega
  have t3 : lN3 cs = (l.at_.toNat, ((([c] ++ fieldT 1 l.key.data.toList) ++ fieldN 2 l.weight) ++ fieldN 3 l.at_.toNat).length) := by unfold lN3; rw [t2, r3]; simp; omega
  have t4 : (lT4 cs).1 = l.body.data.toList := by unfold lT4; rw [t3, r4]
  unfold readLog
  rw [t1, t2, t3, t4]
  obtain ⟨key, weight, a, body⟩ := l
  dsimp only at h3 ⊢
  have g : i64 a.toNat = a := by unfold i64; rw [if_pos (by omega)]; omega
  rw [g, bytesOf_list, bytesOf_list]

end Go.Proofs.ItemMath
