/-
  Plain mathematics of frames one behind the other: what Scan tells, of whole frames, of a bent one, of one that is cut. No condition; no program is named here.
-/
import Derived.Test.YtdjejkjkcahdgaaFrameMath
namespace Go.Proofs.FrameMath
open Go.Proofs.NumMath

theorem getAt_go {cs : List UInt8} {i n to : Nat} (h : getAt cs (i : Int) = (n, to, 0)) : i < to ∧ to ≤ cs.length := by
  unfold getAt at h
  by_cases h0 : (i : Int) < 0 ∨ (cs.length : Int) < (i : Int)
  · rw [if_pos h0] at h; simp at h
  · rw [if_neg h0] at h
    simp only [Int.toNat_natCast] at h
    generalize hs : scan 0 0 (cs.drop i) = r at h
    obtain ⟨a, s, e⟩ := r
    by_cases he : e = 0
    · subst he
      simp at h
      obtain ⟨m, _, _, e2, _, e4, _, _⟩ := scan_inv _ 0 0 _ _ (by omega) hs
      have := put_pos m
      simp at e2 e4
      omega
    · simp [he] at h
theorem take_go {cs b : List UInt8} {i to : Nat} (h : take cs (i : Int) = (b, to, 0)) : i + 5 ≤ to ∧ to ≤ cs.length := by
  unfold take at h
  generalize hg : getAt cs (i : Int) = g at h
  obtain ⟨n, t0, e⟩ := g
  dsimp only at h
  by_cases he : e = 0
  · subst he
    obtain ⟨h1, h2⟩ := getAt_go hg
    simp only [ne_eq, not_true_eq_false, if_false] at h
    by_cases h3 : 4096 < n
    · rw [if_pos h3] at h; simp at h
    · rw [if_neg h3] at h
      by_cases h4 : cs.length - t0 < 4 + n
      · rw [if_pos h4] at h; simp at h
      · rw [if_neg h4] at h
        split at h
        · simp at h; omega
        · simp at h
  · simp only [ne_eq, he, not_false_eq_true, if_true] at h
    simp at h
    exact absurd h.2.2 he

/-- What Scan tells from a place on, in so many steps at most. -/
def scanN : Nat → List UInt8 → Nat → List (List UInt8) × Nat × Nat
  | 0, _, i => ([], i, 0)
  | k + 1, cs, i =>
    if i < cs.length then
      if (take cs (i : Int)).2.2 = 0 then ((take cs (i : Int)).1 :: (scanN k cs (take cs (i : Int)).2.1).1, (scanN k cs (take cs (i : Int)).2.1).2) else ([], i, (take cs (i : Int)).2.2)
    else ([], i, 0)
def scanF (cs : List UInt8) : List (List UInt8) × Nat × Nat := scanN (cs.length + 1) cs 0

theorem scanN_step {k i to : Nat} {cs b : List UInt8} (hi : i < cs.length) (h : take cs (i : Int) = (b, to, 0)) : scanN (k + 1) cs i = (b :: (scanN k cs to).1, (scanN k cs to).2) := by
  rw [scanN, if_pos hi, h, if_pos rfl]
theorem scanN_err {k i to e : Nat} {cs b : List UInt8} (hi : i < cs.length) (h : take cs (i : Int) = (b, to, e)) (he : e ≠ 0) : scanN (k + 1) cs i = ([], i, e) := by
  rw [scanN, if_pos hi, h, if_neg he]
theorem scanN_end {k i : Nat} {cs : List UInt8} (hi : ¬ i < cs.length) : scanN k cs i = ([], i, 0) := by
  cases k with
  | zero => rfl
  | succ k => rw [scanN, if_neg hi]

theorem frame_pos (b : List UInt8) : 5 ≤ (frame b).length := by have := put_pos b.length; rw [frame_length]; omega
/-- Whole frames ahead. -/
theorem scan_frames : ∀ (css : List (List UInt8)) (pre t : List UInt8) (k : Nat), (∀ c ∈ css, c.length ≤ 4096) → css.length ≤ k →
    scanN k (pre ++ (css.flatMap frame ++ t)) pre.length = (css ++ (scanN (k - css.length) (pre ++ (css.flatMap frame ++ t)) (pre.length + (css.flatMap frame).length)).1, (scanN (k - css.length) (pre ++ (css.flatMap frame ++ t)) (pre.length + (css.flatMap frame).length)).2)
  | [], pre, t, k, _, _ => by simp
  | c :: css, pre, t, 0, _, hk => by simp at hk
  | c :: css, pre, t, k + 1, h, hk => by
    have hp := frame_pos c
    have hT := take_frame pre c (css.flatMap frame ++ t) (h c (by simp))
    have e : pre ++ ((c :: css).flatMap frame ++ t) = pre ++ (frame c ++ (css.flatMap frame ++ t)) := by simp
    have hlt : pre.length < (pre ++ (frame c ++ (css.flatMap frame ++ t))).length := by simp; omega
    rw [e, scanN_step hlt hT]
    have ih := scan_frames css (pre ++ frame c) t k (fun d hd => h d (by simp [hd])) (by simpa using hk)
    have e2 : (pre ++ frame c) ++ (css.flatMap frame ++ t) = pre ++ (frame c ++ (css.flatMap frame ++ t)) := by simp
    have e3 : (pre ++ frame c).length = pre.length + (frame c).length := by simp
    have e4 : pre.length + (frame c).length + (css.flatMap frame).length = pre.length + ((c :: css).flatMap frame).length := by simp only [List.flatMap_cons, List.length_append]; omega
    have e5 : k + 1 - (c :: css).length = k - css.length := by simp
    rw [e2, e3, e4] at ih
    rw [ih, e5]
    simp
theorem frames_len : ∀ (css : List (List UInt8)), css.length ≤ (css.flatMap frame).length
  | [] => by simp
  | c :: css => by have := frame_pos c; have := frames_len css; simp only [List.flatMap_cons, List.length_append, List.length_cons]; omega
theorem scanF_frames (css : List (List UInt8)) (t : List UInt8) (h : ∀ c ∈ css, c.length ≤ 4096) : ∃ k, 1 ≤ k ∧
    scanF (css.flatMap frame ++ t) = (css ++ (scanN k (css.flatMap frame ++ t) (css.flatMap frame).length).1, (scanN k (css.flatMap frame ++ t) (css.flatMap frame).length).2) := by
  have hl := frames_len css
  have hh := scan_frames css [] t ((css.flatMap frame ++ t).length + 1) h (by rw [List.length_append]; omega)
  simp only [List.nil_append, List.length_nil, Nat.zero_add] at hh
  exact ⟨_, by rw [List.length_append]; omega, hh⟩
/-- **Frames, one behind the other, are all told back.** -/
theorem scanF_all (css : List (List UInt8)) (h : ∀ c ∈ css, c.length ≤ 4096) : scanF (css.flatMap frame) = (css, (css.flatMap frame).length, 0) := by
  obtain ⟨k, _, hk⟩ := scanF_frames css [] h
  rw [List.append_nil] at hk
  rw [hk, scanN_end (by omega)]
  simp
/-- What stands ahead of what is wrong is told. -/
theorem scanF_wrong (css : List (List UInt8)) (t : List UInt8) (e : Nat) (h : ∀ c ∈ css, c.length ≤ 4096) (ht : 0 < t.length) (he : e ≠ 0) (hT : take (css.flatMap frame ++ t) ((css.flatMap frame).length : Int) = ([], 0, e)) :
    scanF (css.flatMap frame ++ t) = (css, (css.flatMap frame).length, e) := by
  obtain ⟨k, h1, hk⟩ := scanF_frames css t h
  obtain ⟨k, rfl⟩ : ∃ j, k = j + 1 := ⟨k - 1, by omega⟩
  rw [hk, scanN_err (by rw [List.length_append]; omega) hT he]
  simp

theorem getAt_cut (pre : List UInt8) (L i : Nat) (hL : L < 18446744073709551616) (hi : i < (put L).length) : getAt (pre ++ (put L).take i) (pre.length : Int) = (0, 0, 10) := by
  unfold getAt
  rw [if_neg (by simp; omega), Int.toNat_natCast, List.drop_left, scan_cut L 0 0 i hi (by have := put_len10 hL; omega)]
  simp
/-- A frame that is cut is too short. -/
theorem take_cut (pre b : List UInt8) (i : Nat) (hb : b.length ≤ 4096) (hi : i < (frame b).length) : take (pre ++ (frame b).take i) (pre.length : Int) = ([], 0, 10) := by
  rw [frame_length] at hi
  by_cases h : i < (put b.length).length
  · have e : (frame b).take i = (put b.length).take i := by
      unfold frame; rw [List.take_append_of_le_length (by omega)]
    rw [e]
    unfold take
    rw [getAt_cut pre b.length i (by omega) h]
    simp
  · have e : (frame b).take i = put b.length ++ (four (sum b) ++ b).take (i - (put b.length).length) := by
      unfold frame; rw [List.take_append, List.take_of_length_le (by omega)]
    rw [e]
    unfold take
    rw [getAt_at pre _ b.length (by omega)]
    simp only [ne_eq, not_true_eq_false, if_false]
    rw [if_neg (by omega), if_pos (by simp [four_length]; omega)]

end Go.Proofs.FrameMath
