/-
  Plain mathematics of layer 4: a state that was laid is read as it was.
-/
import Derived.Test.YtkfidolbbnmjfaaDoorCtxWithM
import Derived.Test.YtkfidolbbnmjfaaDoorCtxBackM
namespace Go.Proofs.CtxState
open Go Go.Proofs.CtxMath

/-! ### Cutting and joining -/
theorem split_no (c : UInt8) : ∀ (l p : List UInt8), p ∈ split c l → c ∉ p
  | [], p, h => by simp [split] at h; subst h; simp
  | b :: l, p, h => by
    rw [split] at h
    split at h
    · rcases List.mem_cons.1 h with rfl | h
      · simp
      · exact split_no c l p h
    · rename_i hb
      have hbc : b ≠ c := by simpa using hb
      have ih := split_no c l
      cases hs : split c l with
      | nil => rw [hs] at h; rw [List.mem_singleton.1 h]; simp [Ne.symm hbc]
      | cons q qs =>
        rw [hs] at h ih
        rcases List.mem_cons.1 h with rfl | h
        · have := ih q (by simp); simp [this, Ne.symm hbc]
        · exact ih p (List.mem_cons_of_mem _ h)
theorem split_ahead (c : UInt8) : ∀ (x : List UInt8), c ∉ x → ∀ y, split c (x ++ c :: y) = x :: split c y
  | [], _, y => by simp [split]
  | b :: x, h, y => by
    have hb : (b == c) = false := by
      have : b ≠ c := fun e => h (by rw [e]; simp)
      simpa using this
    have ih := split_ahead c x (fun e => h (List.mem_cons_of_mem _ e)) y
    rw [List.cons_append, split, hb, ih]
    rfl
theorem split_alone (c : UInt8) : ∀ (x : List UInt8), c ∉ x → split c x = [x]
  | [], _ => rfl
  | b :: x, h => by
    have hb : (b == c) = false := by
      have : b ≠ c := fun e => h (by rw [e]; simp)
      simpa using this
    have ih := split_alone c x (fun e => h (List.mem_cons_of_mem _ e))
    rw [split, hb, ih]
    rfl
theorem join_two (x y : List UInt8) (r : List (List UInt8)) (c : UInt8) : Lib.join (x :: y :: r) [c] = x ++ c :: Lib.join (y :: r) [c] := by
  rw [Lib.join_cons, Lib.join_cons]
  unfold Lib.joinTail
  simp
theorem split_join (c : UInt8) : ∀ (xs : List (List UInt8)), xs ≠ [] → (∀ x ∈ xs, c ∉ x) → split c (Lib.join xs [c]) = xs
  | [], h, _ => (h rfl).elim
  | [x], _, h => by rw [Lib.join_one]; exact split_alone c x (h x (by simp))
  | x :: y :: r, _, h => by
    rw [join_two, split_ahead c x (h x (by simp)), split_join c (y :: r) (by simp) (fun z hz => h z (List.mem_cons_of_mem _ hz))]
theorem cut_ahead (c : UInt8) : ∀ (x : List UInt8), c ∉ x → ∀ y, cutAt c (x ++ c :: y) = some (x, y)
  | [], _, y => by simp [cutAt]
  | b :: x, h, y => by
    have hb : (b == c) = false := by
      have : b ≠ c := fun e => h (by rw [e]; simp)
      simpa using this
    have ih := cut_ahead c x (fun e => h (List.mem_cons_of_mem _ e)) y
    rw [List.cons_append, cutAt, hb, ih]
    rfl
theorem cut_is (c : UInt8) : ∀ (p x y : List UInt8), cutAt c p = some (x, y) → p = x ++ c :: y
  | [], _, _, h => by cases h
  | b :: p, x, y, h => by
    rw [cutAt] at h
    split at h
    · rename_i hb
      have : b = c := by simpa using hb
      injection h with h
      injection h with h1 h2
      subst h1 h2 this
      rfl
    · cases hc : cutAt c p with
      | none => rw [hc] at h; cases h
      | some q =>
        obtain ⟨x', y'⟩ := q
        rw [hc] at h
        injection h with h
        injection h with h1 h2
        subst h1 h2
        rw [cut_is c p x' y' hc]
        rfl

/-! ### Pairs and members -/
def txt (kv : List UInt8 × List UInt8) : List UInt8 := kv.1 ++ [61] ++ kv.2
theorem key_signs {k : List UInt8} (h : rightKey k = true) : 44 ∉ k ∧ 61 ∉ k ∧ k ≠ [] := by
  unfold rightKey at h
  simp only [Bool.and_eq_true, List.all_eq_true, Bool.not_eq_true', decide_eq_true_eq] at h
  obtain ⟨⟨h1, _⟩, h3⟩ := h
  refine ⟨fun e => ?_, fun e => ?_, fun e => ?_⟩
  · have := h3 44 e; revert this; decide
  · have := h3 61 e; revert this; decide
  · rw [e] at h1; cases h1
/-- What is right of a list of members, and how they came. -/
structure Good (l : List (List UInt8 × List UInt8)) : Prop where
  key : ∀ kv ∈ l, rightKey kv.1 = true
  val : ∀ kv ∈ l, rightVal kv.2 = true
  no : ∀ kv ∈ l, 44 ∉ kv.2
  nodup : (l.map Prod.fst).Nodup
theorem pairs_txt : ∀ l : List (List UInt8 × List UInt8), (∀ kv ∈ l, 61 ∉ kv.1) → pairs 61 (l.map txt) = (l, false)
  | [], _ => rfl
  | kv :: l, h => by
    rw [List.map_cons, pairs_some (kv := kv), pairs_txt l (fun x hx => h x (List.mem_cons_of_mem _ hx))]
    unfold txt
    rw [List.append_assoc]
    exact cut_ahead 61 kv.1 (h kv (by simp)) kv.2
theorem mem_all : ∀ (l : List (List UInt8 × List UInt8)) (seen : List (List UInt8)), (∀ kv ∈ l, rightKey kv.1 = true) → (∀ kv ∈ l, rightVal kv.2 = true) → (l.map Prod.fst).Nodup → (∀ kv ∈ l, kv.1 ∉ seen) → mem false seen l = (l, false)
  | [], _, _, _, _, _ => rfl
  | kv :: l, seen, h1, h2, h3, h4 => by
    rw [List.map_cons, List.nodup_cons] at h3
    have hs : seen.contains kv.1 = false := by
      have := h4 kv (by simp)
      simpa using this
    have ih := mem_all l (seen ++ [kv.1]) (fun x hx => h1 x (List.mem_cons_of_mem _ hx)) (fun x hx => h2 x (List.mem_cons_of_mem _ hx)) h3.2 (fun x hx => by
      rw [List.mem_append, List.mem_singleton]
      rintro (e | e)
      · exact h4 x (List.mem_cons_of_mem _ hx) e
      · exact h3.1 (by rw [← e]; exact List.mem_map_of_mem hx))
    rw [mem, hs, h1 kv (by simp), h2 kv (by simp), ih]
    rfl
theorem mem_good (bad : Bool) : ∀ (l : List (List UInt8 × List UInt8)) (seen : List (List UInt8)), (mem bad seen l).2 = false →
    (mem bad seen l).1 = l ∧ (∀ kv ∈ l, rightKey kv.1 = true) ∧ (∀ kv ∈ l, rightVal kv.2 = true) ∧ (l.map Prod.fst).Nodup ∧ (∀ kv ∈ l, kv.1 ∉ seen)
  | [], _, _ => ⟨rfl, by simp, by simp, by simp, by simp⟩
  | kv :: l, seen, h => by
    rw [mem] at h ⊢
    split at h
    · cases h
    · rename_i hc
      rw [if_neg hc]
      simp only [Bool.or_eq_true, Bool.not_eq_true', not_or, Bool.not_eq_true, Bool.not_eq_false] at hc
      obtain ⟨⟨c1, c2⟩, c3⟩ := hc
      have c1' : kv.1 ∉ seen := by simpa using c1
      obtain ⟨i1, i2, i3, i4, i5⟩ := mem_good bad l (seen ++ [kv.1]) h
      refine ⟨by simp only [i1], ?_, ?_, ?_, ?_⟩
      · intro x hx; rcases List.mem_cons.1 hx with rfl | hx; exact c2; exact i2 x hx
      · intro x hx; rcases List.mem_cons.1 hx with rfl | hx; exact c3; exact i3 x hx
      · rw [List.map_cons, List.nodup_cons]
        refine ⟨fun e => ?_, i4⟩
        obtain ⟨x, hx, hxe⟩ := List.mem_map.1 e
        exact i5 x hx (by rw [hxe]; simp)
      · intro x hx
        rcases List.mem_cons.1 hx with rfl | hx
        · exact c1'
        · exact fun e => i5 x hx (List.mem_append_left _ e)
theorem pairs_no (d c : UInt8) : ∀ (l : List (List UInt8)), (∀ p ∈ l, c ∉ p) → ∀ kv ∈ (pairs d l).1, c ∉ kv.2
  | [], _, kv, h => by cases h
  | p :: ps, hl, kv, h => by
    rw [pairs] at h
    cases hc : cutAt d p with
    | none => rw [hc] at h; cases h
    | some q =>
      obtain ⟨x, y⟩ := q
      rw [hc] at h
      rcases List.mem_cons.1 h with rfl | h
      · have h1 := hl p (by simp)
        rw [cut_is d p x y hc] at h1
        exact fun e => h1 (List.mem_append_right _ (List.mem_cons_of_mem _ e))
      · exact pairs_no d c ps (fun z hz => hl z (List.mem_cons_of_mem _ hz)) kv h
theorem members_good {cs : List UInt8} (h : (members cs).2 = false) : Good (members cs).1 := by
  unfold members at h ⊢
  split at h
  · rename_i he; rw [if_pos he]; exact ⟨by simp, by simp, by simp, by simp⟩
  · rename_i he
    rw [if_neg he]
    obtain ⟨i1, i2, i3, i4, _⟩ := mem_good _ _ _ h
    rw [i1]
    exact ⟨i2, i3, pairs_no 61 44 _ (split_no 44 cs), i4⟩
theorem Good.txt_no {l : List (List UInt8 × List UInt8)} (g : Good l) : ∀ x ∈ l.map txt, 44 ∉ x := by
  intro x hx
  obtain ⟨kv, hkv, rfl⟩ := List.mem_map.1 hx
  have h1 := (key_signs (g.key kv hkv)).1
  have h2 := g.no kv hkv
  unfold txt
  simp [h1, h2]
theorem members_txt {l : List (List UInt8 × List UInt8)} (g : Good l) : members (Lib.join (l.map txt) [44]) = (l, false) := by
  cases l with
  | nil => rfl
  | cons kv r =>
    have hne : (Lib.join ((kv :: r).map txt) [44]).isEmpty = false := by
      rw [List.map_cons, Lib.join_cons]
      unfold txt
      have := (key_signs (g.key kv (by simp))).2.2
      cases hk : kv.1 with
      | nil => exact (this hk).elim
      | cons a b => rfl
    unfold members
    rw [hne, split_join 44 _ (by simp) g.txt_no, pairs_txt _ (fun x hx => (key_signs (g.key x hx)).2.1)]
    exact mem_all _ [] g.key g.val g.nodup (by simp)

/-! ### Marks -/
theorem takeWhile_all (p : UInt8 → Bool) : ∀ (l : List UInt8), ∀ b ∈ l.takeWhile p, p b = true
  | [], b, h => by cases h
  | x :: l, b, h => by
    rw [List.takeWhile_cons] at h
    split at h
    · rename_i hx
      rcases List.mem_cons.1 h with rfl | h
      · exact hx
      · exact takeWhile_all p l b h
    · cases h
theorem trim_is (l : List UInt8) (c : UInt8) : ∃ k, l = Lib.trimRightB l c ++ List.replicate k c := by
  unfold Lib.trimRightB
  refine ⟨(l.reverse.takeWhile (· == c)).length, ?_⟩
  have h1 : l.reverse = l.reverse.takeWhile (· == c) ++ l.reverse.dropWhile (· == c) := (List.takeWhile_append_dropWhile).symm
  have h2 : l.reverse.takeWhile (· == c) = List.replicate (l.reverse.takeWhile (· == c)).length c := by
    refine List.eq_replicate_iff.2 ⟨rfl, fun b hb => ?_⟩
    have := takeWhile_all (· == c) l.reverse b hb
    simpa using this
  have h3 := congrArg List.reverse h1
  rw [List.reverse_reverse, List.reverse_append] at h3
  conv => lhs; rw [h3]
  congr 1
  rw [h2, List.reverse_replicate, List.length_replicate]
theorem hexOn_app : ∀ (xs ys : List UInt8) (v : Nat), hexOn (xs ++ ys) v = (hexOn xs v).bind (hexOn ys)
  | [], _, _ => rfl
  | c :: xs, ys, v => by
    rw [List.cons_append, hexOn, hexOn]
    cases unhex c with
    | none => rfl
    | some d => exact hexOn_app xs ys _
theorem hexOn_zeros : ∀ (k v : Nat), v < 18446744073709551616 → hexOn (List.replicate k 48) v = some (v * 16 ^ k % 18446744073709551616)
  | 0, v, h => by rw [List.replicate_zero, hexOn, Nat.pow_zero, Nat.mul_one, Nat.mod_eq_of_lt h]
  | k + 1, v, h => by
    rw [List.replicate_succ, hexOn]
    show hexOn (List.replicate k 48) ((v * 16 + 0) % 18446744073709551616) = _
    rw [hexOn_zeros k _ (Nat.mod_lt _ (by omega)), Nat.add_zero]
    congr 1
    rw [Nat.mul_mod, Nat.mod_mod, ← Nat.mul_mod, Nat.mul_assoc, Nat.pow_succ, Nat.mul_comm (16 ^ k) 16]
theorem short_part {t : Nat} (h : t < 72057594037927936) : partOf 1 (shortL t) = some t := by
  obtain ⟨k, hk⟩ := trim_is ((last t 14).drop 1) 48
  have hl := last_len t 14 (by omega)
  have hd : last t 14 = shortL t ++ List.replicate k 48 := by
    unfold shortL
    rw [List.append_assoc, ← hk, List.take_append_drop]
  have hlen : (shortL t).length + k = 14 := by
    have := congrArg List.length hd
    rw [List.length_append, List.length_replicate, hl] at this
    omega
  have hpos : 1 ≤ (shortL t).length := by
    unfold shortL
    rw [List.length_append, List.length_take, hl]
    omega
  have hn := hexNum_last t 14 (by omega)
  unfold hexNum at hn
  rw [hd, hexOn_app] at hn
  cases hs : hexOn (shortL t) 0 with
  | none => rw [hs] at hn; cases hn
  | some n =>
    rw [hs] at hn
    have hnl := hexOn_lt _ 0 n (by omega) hs
    have hz := hexOn_zeros k n hnl
    have e : n * 16 ^ k % 18446744073709551616 = t := by
      have h2 : some (n * 16 ^ k % 18446744073709551616) = some (t % 16 ^ 14 % 18446744073709551616) := by rw [← hz]; exact hn
      injection h2 with h2
      rw [h2]
      show t % 72057594037927936 % 18446744073709551616 = t
      omega
    unfold partOf hexNum
    rw [hs]
    simp only
    rw [if_pos (by simp; omega), show 14 - (shortL t).length = k by omega, e]
theorem last_part {r : Nat} (h : r < 72057594037927936) : partOf 14 (last r 14) = some r := by
  have hl := last_len r 14 (by omega)
  unfold partOf
  rw [hexNum_last r 14 (by omega), hl]
  simp only
  rw [if_pos (by decide)]
  congr 1
  show r % 72057594037927936 % 18446744073709551616 * 1 % 18446744073709551616 = r
  omega
/-- The signs that laid marks bear. -/
def markSign (c : UInt8) : Bool := valSign c && !(c == 61) && !(c == 44)
def digSign (c : UInt8) : Bool := markSign c && !(c == 59) && !(c == 58)
theorem dig_sign : ∀ d : Fin 16, digSign (hexd d.val) = true := by decide
theorem last_sign (n size : Nat) : ∀ c ∈ last n size, digSign c = true := by
  intro c hc
  have h1 := List.mem_of_mem_drop hc
  obtain ⟨j, _, rfl⟩ := List.mem_map.1 h1
  exact dig_sign ⟨dig n j, dig_lt _ _⟩
theorem short_sign (t : Nat) : ∀ c ∈ shortL t, digSign c = true := by
  intro c hc
  obtain ⟨k, hk⟩ := trim_is ((last t 14).drop 1) 48
  have hd : last t 14 = shortL t ++ List.replicate k 48 := by
    unfold shortL
    rw [List.append_assoc, ← hk, List.take_append_drop]
  exact last_sign t 14 c (by rw [hd]; exact List.mem_append_left _ hc)
theorem dig_no {l : List UInt8} (h : ∀ c ∈ l, digSign c = true) : 59 ∉ l ∧ 58 ∉ l ∧ ∀ c ∈ l, markSign c = true := by
  refine ⟨fun e => ?_, fun e => ?_, fun c hc => ?_⟩
  · have := h 59 e; revert this; decide
  · have := h 58 e; revert this; decide
  · have := h c hc
    unfold digSign at this
    simp only [Bool.and_eq_true] at this
    exact this.1.1
def pairsL (a : Bool) (t : Nat) (b : Bool) (r : Nat) : List (List UInt8 × List UInt8) := (if a then [([116, 104], shortL t)] else []) ++ (if b then [([114, 118], last r 14)] else [])
theorem marks_laid {a b : Bool} {t r : Nat} (hab : (a || b) = true) (ht : t < 72057594037927936) (hr : r < 72057594037927936) (ha : a = false → t = 0) (hb : b = false → r = 0) : marks (Lib.join (partsL a t b r) [59]) = ⟨a, t, b, r, false⟩ := by
  have hs := (dig_no (short_sign t)).1
  have hl := (dig_no (last_sign r 14)).1
  have hsp : split 59 (Lib.join (partsL a t b r) [59]) = partsL a t b r := by
    refine split_join 59 _ ?_ ?_
    · unfold partsL
      cases a <;> cases b <;> simp_all
    · intro x hx
      unfold partsL at hx
      rcases List.mem_append.1 hx with hx | hx
      · split at hx
        · rw [List.mem_singleton] at hx; subst hx; simp [hs]
        · cases hx
      · split at hx
        · rw [List.mem_singleton] at hx; subst hx; simp [hl]
        · cases hx
  have c1 : cutAt 58 ([116, 104, 58] ++ shortL t) = some ([116, 104], shortL t) := cut_ahead 58 [116, 104] (by decide) _
  have c2 : cutAt 58 ([114, 118, 58] ++ last r 14) = some ([114, 118], last r 14) := cut_ahead 58 [114, 118] (by decide) _
  have hp : pairs 58 (partsL a t b r) = (pairsL a t b r, false) := by
    unfold partsL pairsL
    cases a <;> cases b <;> simp only [if_true, if_false, Bool.false_eq_true, List.nil_append, List.append_nil, List.cons_append] <;> first | rfl | (rw [show pairs 58 _ = _ from pairs_some c1 _]; try rw [pairs_some c2]) | rw [pairs_some c2]
    all_goals rfl
  rw [marks_eq, hsp, hp]
  have p1 := short_part ht
  have p2 := last_part hr
  unfold pairsL run
  cases a <;> cases b
  · cases hab
  · rw [ha rfl]
    show (CtxState.step start ([114, 118], last r 14)).bent false = _
    rw [step_rv rfl p2]; rfl
  · rw [hb rfl]
    show (CtxState.step start ([116, 104], shortL t)).bent false = _
    rw [step_th rfl p1]; rfl
  · show (CtxState.step (CtxState.step start ([116, 104], shortL t)) ([114, 118], last r 14)).bent false = _
    rw [step_th rfl p1, step_rv rfl p2]; rfl

/-! ### Back -/
theorem all_join (p : UInt8 → Bool) (sep : List UInt8) (hs : ∀ c ∈ sep, p c = true) : ∀ xs : List (List UInt8), (∀ x ∈ xs, ∀ c ∈ x, p c = true) → ∀ c ∈ Lib.join xs sep, p c = true
  | [], _, c, h => by rw [Lib.join_nil] at h; cases h
  | x :: r, hx, c, h => by
    rw [Lib.join_cons] at h
    rcases List.mem_append.1 h with h | h
    · exact hx x (by simp) c h
    · unfold Lib.joinTail at h
      obtain ⟨y, hy, hc⟩ := List.mem_flatten.1 h
      obtain ⟨z, hz, rfl⟩ := List.mem_map.1 hy
      rcases List.mem_append.1 hc with hc | hc
      · exact hs c hc
      · exact hx z (List.mem_cons_of_mem _ hz) c hc
def laidV (a : Bool) (t : Nat) (b : Bool) (r : Nat) : List UInt8 := Lib.join (partsL a t b r) [59]
theorem laidV_sign (a : Bool) (t : Nat) (b : Bool) (r : Nat) : ∀ c ∈ laidV a t b r, markSign c = true := by
  have hs := (dig_no (short_sign t)).2.2
  have hl := (dig_no (last_sign r 14)).2.2
  refine all_join markSign [59] (by decide) _ (fun x hx => ?_)
  have th : ∀ c ∈ ([116, 104, 58] : List UInt8), markSign c = true := by decide
  have rv : ∀ c ∈ ([114, 118, 58] : List UInt8), markSign c = true := by decide
  unfold partsL at hx
  rcases List.mem_append.1 hx with hx | hx
  · split at hx
    · rw [List.mem_singleton] at hx; subst hx
      intro c hc
      rcases List.mem_append.1 hc with hc | hc
      · exact th c hc
      · exact hs c hc
    · cases hx
  · split at hx
    · rw [List.mem_singleton] at hx; subst hx
      intro c hc
      rcases List.mem_append.1 hc with hc | hc
      · exact rv c hc
      · exact hl c hc
    · cases hx
theorem laidV_right {a b : Bool} (t r : Nat) (hab : (a || b) = true) : rightVal (laidV a t b r) = true ∧ 44 ∉ laidV a t b r := by
  have hs := laidV_sign a t b r
  have hlen := (laidM_len a t b r).1
  have hne : (laidV a t b r).isEmpty = false := by
    unfold laidV partsL
    cases a <;> cases b
    · cases hab
    · rfl
    · simp [Lib.join_one]
    · simp [join_two]
  have h61 : 61 ∉ laidV a t b r := fun e => by have := hs 61 e; revert this; decide
  refine ⟨?_, fun e => by have := hs 44 e; revert this; decide⟩
  unfold rightVal
  rw [hne]
  have hl2 : (laidV a t b r).length ≤ 200 := Nat.le_trans hlen (by decide)
  have hc : (laidV a t b r).contains 61 = false := by simpa using h61
  have hall : (laidV a t b r).all valSign = true := by
    rw [List.all_eq_true]
    intro c hcm
    have := hs c hcm
    unfold markSign at this
    simp only [Bool.and_eq_true] at this
    exact this.1.1
  rw [hc, hall]
  simp [hl2]
/-- The members that are not ours. -/
def others (l : List (List UInt8 × List UInt8)) : List (List UInt8 × List UInt8) := l.filter fun kv => !(kv.1 == [111, 116])
theorem fold_oth : ∀ (l : List (List UInt8 × List UInt8)) (st : St), (l.foldl stStep st).oth = st.oth ++ (others l).map txt
  | [], st => by simp [others]
  | kv :: l, st => by
    rw [List.foldl_cons, fold_oth l]
    unfold others stStep
    by_cases h : kv.1 = [111, 116]
    · simp [h]
    · have hb : (kv.1 == [111, 116]) = false := by simpa using h
      rw [if_neg h, List.filter_cons, hb]
      simp [txt]
theorem fold_none : ∀ (l : List (List UInt8 × List UInt8)) (st : St), (∀ kv ∈ l, kv.1 ≠ [111, 116]) → (l.foldl stStep st) = ⟨st.m, st.oth ++ l.map txt⟩
  | [], st, _ => by simp
  | kv :: l, st, h => by
    rw [List.foldl_cons, fold_none l _ (fun x hx => h x (List.mem_cons_of_mem _ hx))]
    unfold stStep
    rw [if_neg (h kv (by simp))]
    simp [txt]
theorem others_good {l : List (List UInt8 × List UInt8)} (g : Good l) : Good (others l) ∧ ∀ kv ∈ others l, kv.1 ≠ [111, 116] := by
  have hsub : ∀ kv ∈ others l, kv ∈ l := fun kv h => (List.mem_filter.1 h).1
  refine ⟨⟨fun kv h => g.key kv (hsub kv h), fun kv h => g.val kv (hsub kv h), fun kv h => g.no kv (hsub kv h), ?_⟩, fun kv h => ?_⟩
  · exact g.nodup.sublist ((List.filter_sublist (l := l)).map Prod.fst)
  · have := (List.mem_filter.1 h).2
    simpa using this
/-- WHAT IS LAID IS READ; laid again it is the same. -/
theorem back {cs out : List UInt8} {a b : Bool} {t r : Nat} (h : withOf cs a t b r = (out, 0)) : readSt out = (0, ⟨a, t, b, r, false⟩, (readSt cs).2.2) ∧ withOf out a t b r = (out, 0) := by
  have hw := h
  unfold withOf at h
  split at h
  · rename_i h0
    have := congrArg Prod.snd h
    exact (h0 this).elim
  · rename_i h0
    have h0 : (readSt cs).1 = 0 := by simpa using h0
    split at h
    · have := congrArg Prod.snd h; cases this
    · rename_i ha
      have ha : areM a t b r = true := by simpa using ha
      split at h
      · have := congrArg Prod.snd h; cases this
      · rename_i hl
        have hout : Lib.join (membersW a t b r (readSt cs).2.2) [44] = out := congrArg Prod.fst h
        rw [hout] at hl
        have hl : tooLong out = false := by simpa using hl
        have hA := ha
        unfold areM at hA
        simp only [Bool.and_eq_true, Bool.or_eq_true, decide_eq_true_eq] at hA
        obtain ⟨⟨⟨ht, hr⟩, hat⟩, hbr⟩ := hA
        have ha0 : a = false → t = 0 := fun e => by rw [e] at hat; rcases hat with h | h; cases h; exact h
        have hb0 : b = false → r = 0 := fun e => by rw [e] at hbr; rcases hbr with h | h; cases h; exact h
        -- the members told
        obtain ⟨O, hO, hOg, hOn⟩ : ∃ O, (readSt cs).2.2 = O.map txt ∧ Good O ∧ ∀ kv ∈ O, kv.1 ≠ [111, 116] := by
          unfold readSt at h0 ⊢
          split at h0
          · cases h0
          · rename_i hl1
            rw [if_neg hl1]
            split at h0
            · cases h0
            · rename_i hw1
              rw [if_neg hw1]
              simp only [Bool.or_eq_true, not_or, Bool.not_eq_true] at hw1
              have hg := others_good (members_good hw1.2)
              refine ⟨others (members cs).1, ?_, hg.1, hg.2⟩
              show ((members cs).1.foldl stStep st0).oth = _
              rw [fold_oth]
              rfl
        have hread : readSt out = (0, ⟨a, t, b, r, false⟩, (readSt cs).2.2) := by
          rw [hO] at hout
          cases hab : (a || b) with
          | true =>
            have hMW : membersW a t b r (O.map txt) = ((([111, 116], laidV a t b r) :: O).map txt) := by
              unfold membersW; rw [hab]; rfl
            obtain ⟨v1, v2⟩ := laidV_right t r hab
            have hg : Good (([111, 116], laidV a t b r) :: O) := by
              refine ⟨?_, ?_, ?_, ?_⟩
              · intro kv hkv; rcases List.mem_cons.1 hkv with rfl | hkv; exact (by decide : rightKey [111, 116] = true); exact hOg.key kv hkv
              · intro kv hkv; rcases List.mem_cons.1 hkv with rfl | hkv; exact v1; exact hOg.val kv hkv
              · intro kv hkv; rcases List.mem_cons.1 hkv with rfl | hkv; exact v2; exact hOg.no kv hkv
              · rw [List.map_cons, List.nodup_cons]
                refine ⟨fun e => ?_, hOg.nodup⟩
                obtain ⟨x, hx, hxe⟩ := List.mem_map.1 e
                exact hOn x hx hxe
            rw [hMW] at hout
            have hm := members_txt hg
            rw [hout] at hm
            have hf : foldS (([111, 116], laidV a t b r) :: O) = ⟨(marks (laidV a t b r)).bent false, O.map txt⟩ := by
              unfold foldS
              rw [List.foldl_cons, stStep_ot, fold_none O _ hOn]
              rfl
            have hmk : marks (laidV a t b r) = ⟨a, t, b, r, false⟩ := marks_laid hab ht hr ha0 hb0
            unfold readSt
            rw [hl, hm]
            simp only [hf, hmk]
            rw [← readSt, hO]
            rfl
          | false =>
            have ha1 : a = false := by cases a; rfl; cases hab
            have hb1 : b = false := by cases b; rfl; rw [ha1] at hab; cases hab
            have hMW : membersW a t b r (O.map txt) = O.map txt := by unfold membersW; rw [hab]; rfl
            rw [hMW] at hout
            have hm := members_txt hOg
            rw [hout] at hm
            have hf : foldS O = ⟨start, O.map txt⟩ := by unfold foldS; rw [fold_none O _ hOn]; rfl
            unfold readSt
            rw [hl, hm]
            simp only [hf]
            rw [← readSt, hO, ha1, hb1, ha0 ha1, hb0 hb1]
            rfl
        refine ⟨hread, ?_⟩
        unfold withOf
        rw [hread]
        simp only [ne_eq, not_true_eq_false, if_false, ha, Bool.true_eq_false, hout, hl]
        rfl
theorem with_err (cs : List UInt8) (a : Bool) (t : Nat) (b : Bool) (r : Nat) : (∃ out, withOf cs a t b r = (out, 0)) ∨ (∃ e, withOf cs a t b r = ([], e) ∧ e ≠ 0 ∧ (e = 3 ∨ e = 31 ∨ e = 1)) := by
  unfold withOf
  split
  · rename_i h
    refine .inr ⟨_, rfl, h, ?_⟩
    unfold readSt at h ⊢
    split
    · exact .inl rfl
    · rename_i h1
      rw [if_neg h1] at h
      split
      · exact .inr (.inl rfl)
      · rename_i h2
        rw [if_neg h2] at h
        exact (h rfl).elim
  · split
    · exact .inr ⟨1, rfl, by decide, .inr (.inr rfl)⟩
    · split
      · exact .inr ⟨3, rfl, by decide, .inl rfl⟩
      · exact .inl ⟨_, rfl⟩
end Go.Proofs.CtxState
