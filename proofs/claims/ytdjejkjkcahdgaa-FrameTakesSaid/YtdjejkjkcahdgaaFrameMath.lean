/-
  Plain mathematics of the check of bytes: half by half, byte by byte; it tells bytes apart of which one is another one. No condition; no program is named here.
-/
import Derived.Test.YtdjejkjkcahdgaaNumMath
namespace Go.Proofs.FrameMath
open Go.Proofs.NumMath

/-- One half: half of it, and, if it was odd, xor edb88320. -/
def half (n : Nat) : Nat := if n % 2 = 1 then n / 2 ^^^ 3988292384 else n / 2
/-- So many halves. -/
def halves : Nat → Nat → Nat
  | 0, n => n
  | k + 1, n => half (halves k n)
def with8 (c b : Nat) : Nat := halves 8 (c ^^^ b)
def folds : Nat → List UInt8 → Nat
  | c, [] => c
  | c, x :: r => folds (with8 c x.toNat) r
def sum (cs : List UInt8) : Nat := folds 4294967295 cs ^^^ 4294967295

theorem xor_lt {a b : Nat} (ha : a < 4294967296) (hb : b < 4294967296) : a ^^^ b < 4294967296 := Nat.xor_lt_two_pow (n := 32) ha hb
theorem half_lt {n : Nat} (h : n < 4294967296) : half n < 4294967296 := by
  unfold half
  split
  · exact xor_lt (by omega) (by omega)
  · omega
theorem halves_lt : ∀ k {n : Nat}, n < 4294967296 → halves k n < 4294967296
  | 0, _, h => h
  | k + 1, _, h => half_lt (halves_lt k h)
theorem with8_lt {c b : Nat} (hc : c < 4294967296) (hb : b < 256) : with8 c b < 4294967296 := halves_lt 8 (xor_lt hc (by omega))
theorem folds_lt : ∀ (cs : List UInt8) {c : Nat}, c < 4294967296 → folds c cs < 4294967296
  | [], _, h => h
  | x :: r, _, h => folds_lt r (with8_lt h x.toNat_lt)
theorem sum_lt (cs : List UInt8) : sum cs < 4294967296 := xor_lt (folds_lt cs (by omega)) (by omega)
theorem folds_append : ∀ (a b : List UInt8) (c : Nat), folds c (a ++ b) = folds (folds c a) b
  | [], _, _ => rfl
  | x :: r, b, c => folds_append r b (with8 c x.toNat)
theorem folds_snoc (a : List UInt8) (x : UInt8) (c : Nat) : folds c (a ++ [x]) = with8 (folds c a) x.toNat := by rw [folds_append]; rfl

theorem xor_cancel {a b c : Nat} (h : a ^^^ c = b ^^^ c) : a = b := by
  have : a ^^^ c ^^^ c = b ^^^ c ^^^ c := by rw [h]
  simpa [Nat.xor_assoc] using this
theorem xor_cancel_left {a b c : Nat} (h : c ^^^ a = c ^^^ b) : a = b := by
  rw [Nat.xor_comm c a, Nat.xor_comm c b] at h; exact xor_cancel h
theorem top_lo {n : Nat} (h : n < 2147483648) : n.testBit 31 = false := Nat.testBit_lt_two_pow (i := 31) h
theorem top_hi {n : Nat} (h : n < 2147483648) : (n ^^^ 3988292384).testBit 31 = true := by
  rw [Nat.testBit_xor, top_lo h]; decide
theorem half_inj {a b : Nat} (ha : a < 4294967296) (hb : b < 4294967296) (h : half a = half b) : a = b := by
  unfold half at h
  have ta := top_lo (n := a / 2) (by omega)
  have tb := top_lo (n := b / 2) (by omega)
  have ua := top_hi (n := a / 2) (by omega)
  have ub := top_hi (n := b / 2) (by omega)
  by_cases h1 : a % 2 = 1 <;> by_cases h2 : b % 2 = 1
  · rw [if_pos h1, if_pos h2] at h
    have := xor_cancel h
    omega
  · rw [if_pos h1, if_neg h2] at h
    rw [h, tb] at ua; cases ua
  · rw [if_neg h1, if_pos h2] at h
    rw [← h, ta] at ub; cases ub
  · rw [if_neg h1, if_neg h2] at h
    omega
theorem halves_inj : ∀ (k : Nat) {a b : Nat}, a < 4294967296 → b < 4294967296 → halves k a = halves k b → a = b
  | 0, _, _, _, _, h => h
  | k + 1, _, _, ha, hb, h => halves_inj k ha hb (half_inj (halves_lt k ha) (halves_lt k hb) h)
theorem with8_inj {a b x : Nat} (ha : a < 4294967296) (hb : b < 4294967296) (hx : x < 256) (h : with8 a x = with8 b x) : a = b :=
  xor_cancel (halves_inj 8 (xor_lt ha (by omega)) (xor_lt hb (by omega)) h)
theorem with8_byte {a x y : Nat} (ha : a < 4294967296) (hx : x < 256) (hy : y < 256) (h : with8 a x = with8 a y) : x = y :=
  xor_cancel_left (halves_inj 8 (xor_lt ha (by omega)) (xor_lt ha (by omega)) h)
theorem folds_inj : ∀ (cs : List UInt8) {a b : Nat}, a < 4294967296 → b < 4294967296 → folds a cs = folds b cs → a = b
  | [], _, _, _, _, h => h
  | x :: r, _, _, ha, hb, h => with8_inj ha hb x.toNat_lt (folds_inj r (with8_lt ha x.toNat_lt) (with8_lt hb x.toNat_lt) h)
/-- **Bytes of which one is another one have another sum.** -/
theorem sum_bent (a r : List UInt8) (x y : UInt8) (h : sum (a ++ x :: r) = sum (a ++ y :: r)) : x = y := by
  have h1 := xor_cancel h
  rw [folds_append, folds_append] at h1
  have hl := folds_lt a (c := 4294967295) (by omega)
  have h2 := folds_inj r (with8_lt hl x.toNat_lt) (with8_lt hl y.toNat_lt) h1
  have h3 := with8_byte hl x.toNat_lt y.toNat_lt h2
  exact UInt8.toNat_inj.1 h3

/-- A number's four bytes, the most significant first. -/
def four (n : Nat) : List UInt8 := [UInt8.ofNat (n / 16777216), UInt8.ofNat (n / 65536), UInt8.ofNat (n / 256), UInt8.ofNat n]
theorem four_length (n : Nat) : (four n).length = 4 := rfl
theorem four_inj {a b : Nat} (ha : a < 4294967296) (hb : b < 4294967296) (h : four a = four b) : a = b := by
  unfold four at h
  simp only [List.cons.injEq, and_true] at h
  obtain ⟨h0, h1, h2, h3⟩ := h
  have e0 := congrArg UInt8.toNat h0
  have e1 := congrArg UInt8.toNat h1
  have e2 := congrArg UInt8.toNat h2
  have e3 := congrArg UInt8.toNat h3
  simp at e0 e1 e2 e3
  omega

/-- A frame's bytes. -/
def frame (cs : List UInt8) : List UInt8 := put cs.length ++ (four (sum cs) ++ cs)
theorem frame_length (cs : List UInt8) : (frame cs).length = (put cs.length).length + 4 + cs.length := by simp [frame, four_length]; omega

/-- What Take tells: the bytes, the place behind, the error. -/
def take (cs : List UInt8) (i : Int) : List UInt8 × Nat × Nat :=
  if (getAt cs i).2.2 ≠ 0 then ([], 0, (getAt cs i).2.2)
  else if 4096 < (getAt cs i).1 then ([], 0, 3)
  else if cs.length - (getAt cs i).2.1 < 4 + (getAt cs i).1 then ([], 0, 10)
  else if (cs.drop (getAt cs i).2.1).take 4 = four (sum ((cs.drop ((getAt cs i).2.1 + 4)).take (getAt cs i).1)) then
    ((cs.drop ((getAt cs i).2.1 + 4)).take (getAt cs i).1, (getAt cs i).2.1 + 4 + (getAt cs i).1, 0)
  else ([], 0, 30)

theorem put_two {n : Nat} (h1 : 128 ≤ n) (h2 : n < 16384) : (put n).length = 2 := by
  rw [put_ge h1, put_lt (by omega)]; rfl
theorem put_one {n : Nat} (h : n < 128) : (put n).length = 1 := by rw [put_lt h]; rfl
theorem put_le2 {n : Nat} (h2 : n < 16384) : (put n).length ≤ 2 := by
  by_cases h : n < 128
  · rw [put_one h]; omega
  · rw [put_two (by omega) h2]; omega

theorem getAt_at (pre t : List UInt8) (L : Nat) (hL : L < 18446744073709551616) : getAt (pre ++ (put L ++ t)) (pre.length : Int) = (L, pre.length + (put L).length, 0) := by
  unfold getAt
  rw [if_neg (by simp; omega), Int.toNat_natCast, List.drop_left, scan_put L 0 0 t (.inl rfl) (by omega) (by have := put_len10 hL; omega)]
  simp
/-- Take where a length, four bytes and so many more stand. -/
theorem take_at (pre s b t : List UInt8) (hs : s.length = 4) (hb : b.length ≤ 4096) :
    take (pre ++ (put b.length ++ (s ++ (b ++ t)))) (pre.length : Int) = if s = four (sum b) then (b, pre.length + (put b.length).length + 4 + b.length, 0) else ([], 0, 30) := by
  unfold take
  rw [getAt_at pre (s ++ (b ++ t)) b.length (by omega)]
  simp only [ne_eq, not_true_eq_false, if_false]
  have e1 : (pre ++ (put b.length ++ (s ++ (b ++ t)))).drop (pre.length + (put b.length).length) = s ++ (b ++ t) := by
    rw [← List.append_assoc, List.drop_left' (by simp)]
  have e2 : (pre ++ (put b.length ++ (s ++ (b ++ t)))).drop (pre.length + (put b.length).length + 4) = b ++ t := by
    rw [← List.drop_drop, e1, List.drop_left' hs]
  rw [if_neg (by omega), if_neg (by simp [hs]; omega), e1, e2, List.take_left' hs, List.take_left]
theorem take_frame (pre b t : List UInt8) (hb : b.length ≤ 4096) : take (pre ++ (frame b ++ t)) (pre.length : Int) = (b, pre.length + (frame b).length, 0) := by
  have h := take_at pre (four (sum b)) b t rfl hb
  rw [if_pos rfl] at h
  have e : pre ++ (frame b ++ t) = pre ++ (put b.length ++ (four (sum b) ++ (b ++ t))) := by simp [frame]
  rw [e, h, frame_length]
  simp; omega

end Go.Proofs.FrameMath
