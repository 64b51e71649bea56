/-
  item.Encode and telemeterref03.Encode of every item: the same bytes, or none; telemeterlaw03.tells of every item.
-/
import Derived.Deep.RegionHeld
import Derived.Test.YtklgggolkclebaaItemRef7
import Derived.Test.YtklgggolkclebaaItemEncNo2
namespace Go.Proofs.Ytklgggolkclebaa
open Go.RowKit Go.Proofs.NumMath Go.Proofs.ItemMath

theorem nil_str {s : ByteArray} (h : s.size = 0) : s = ⟨#[]⟩ := by
  have : s.data = #[] := Array.eq_empty_of_size_eq_zero h
  cases s; simp_all
/-- An item as bytes, if it may be. -/
def encItem (k : Nat) (s : Sp) (g : Lg) : Option (List UInt8) :=
  if k = 1 then (if rightSpan s = true ∧ g.key.size = 0 ∧ g.weight = 0 ∧ g.at_ = 0 ∧ g.body.size = 0 then some (1 :: encSpan s) else none)
  else if k = 2 then (if rightLog g = true ∧ noSpan s = true then some (2 :: encLog g) else none) else none
def errItem (o : Option (List UInt8)) : Nat := match o with | some _ => 0 | none => 40
theorem noSpan_parts {s : Sp} (h : noSpan s = true) : s.hi = 0 ∧ s.lo = 0 ∧ s.id = 0 ∧ s.par = 0 ∧ s.name.size = 0 ∧ s.start = 0 ∧ s.stop = 0 ∧ s.bad = false ∧ s.attrs.length = 0 ∧ s.rv = 0 := by
  unfold noSpan at h
  simp only [Bool.and_eq_true, decide_eq_true_eq, Bool.not_eq_true'] at h
  obtain ⟨⟨⟨⟨⟨⟨⟨⟨⟨h1, h2⟩, h3⟩, h4⟩, h5⟩, h6⟩, h7⟩, h8⟩, h9⟩, h10⟩ := h
  exact ⟨h1, h2, h3, h4, h5, h6, h7, h8, h9, h10⟩

set_option maxHeartbeats 2000000 in
theorem encode_all (k hi lo id par rv : Nat) (name : ByteArray) (start stop : Int) (bad : Bool) (A : Option Addr) (l : List Attr) (n cap : Nat) (key body : ByteArray) (weight : Nat) (at_ : Int) (w : World) (hk : k < 256) (b1 : hi < 18446744073709551616) (b2 : lo < 18446744073709551616) (b3 : id < 18446744073709551616) (b4 : par < 18446744073709551616)
    (hn : l.length = n) (hnm : n ≤ 9223372036854775807) (hname : name.size ≤ 9223372036854775807) (hkey : key.size ≤ 9223372036854775807) (hbody : body.size ≤ 9223372036854775807) (hr : HoldsA w.heap.size w A l) (o : Option (List UInt8)) (ho : encItem k ⟨hi, lo, id, par, name, start, stop, bad, l, rv⟩ ⟨key, weight, at_, body⟩ = o) (z : List UInt8) (m : Nat) (hz : o.getD [] = z) (hm : z.length = m) (E : Nat) (hE : errItem o = E) :
    Calls Try.prog 19 #[.agg #[.int .u8 (k : Int), .int .u64 (hi : Int), .int .u64 (lo : Int), .int .u64 (id : Int), .int .u64 (par : Int), .string name, .int .i64 start, .int .i64 stop, .bool bad, .slice A n cap, .int .u64 (rv : Int), .string key, .int .u64 (weight : Int), .int .i64 at_, .string body]] w fun e w' => ∃ A' c', e = .returned (.tuple #[.slice A' m c', .int .u16 (E : Int)]) ∧ w'.ownsRow w.heap.size 5 1 (.slice A' m c') z.length (z.map b8) ∧ Below w.heap.size w w' := by
  have none_of : o = none → ∀ (e : Ending) (w' : World), e = .returned (.tuple #[.slice none 0 0, .int .u16 40]) ∧ Below w.heap.size w w' → ∃ A' c', e = .returned (.tuple #[.slice A' m c', .int .u16 (E : Int)]) ∧ w'.ownsRow w.heap.size 5 1 (.slice A' m c') z.length (z.map b8) ∧ Below w.heap.size w w' := fun h e w' ⟨he, hb⟩ => by
    subst h
    obtain rfl : [] = z := hz
    obtain rfl : 0 = m := hm
    obtain rfl : 40 = E := hE
    exact ⟨none, 0, he, World.ownsRow_nil _ _ _ _, hb⟩
  by_cases k1 : k = 1
  · subst k1
    cases hs : rightSpan ⟨hi, lo, id, par, name, start, stop, bad, l, rv⟩ with
    | false =>
      have e : o = none := by rw [← ho]; unfold encItem; rw [if_pos rfl, if_neg (by simp [hs])]
      exact (encode_bad_span hi lo id par rv name start stop bad A l n cap key body weight at_ w hn hnm hname hr hs).mono (none_of e)
    | true =>
      by_cases c1 : key.size = 0
      · by_cases c2 : weight = 0
        · by_cases c3 : at_ = 0
          · by_cases c4 : body.size = 0
            · have e : o = some (1 :: encSpan ⟨hi, lo, id, par, name, start, stop, bad, l, rv⟩) := by rw [← ho]; unfold encItem; rw [if_pos rfl, if_pos ⟨hs, c1, c2, c3, c4⟩]
              subst e
              obtain rfl : (0 : Nat) = E := hE
              obtain rfl := nil_str c1
              obtain rfl := nil_str c4
              subst c2 c3
              exact encode_span hi lo id par rv name start stop bad A l n cap w b1 b2 b3 b4 hn hr hs z m hz hm
            · have e : o = none := by rw [← ho]; unfold encItem; rw [if_pos rfl, if_neg (by simp [c4])]
              exact (encode_span_body hi lo id par rv name start stop bad A l n cap key body weight at_ w hn hnm hname hr hs (nil_str c1) c2 c3 c4).mono (none_of e)
          · have e : o = none := by rw [← ho]; unfold encItem; rw [if_pos rfl, if_neg (by simp [c3])]
            exact (encode_span_at hi lo id par rv name start stop bad A l n cap key body weight at_ w hn hnm hname hr hs (nil_str c1) c2 c3).mono (none_of e)
        · have e : o = none := by rw [← ho]; unfold encItem; rw [if_pos rfl, if_neg (by simp [c2])]
          exact (encode_span_besides hi lo id par rv name start stop bad A l n cap key body weight at_ w hn hnm hname hr hs c2).mono (none_of e)
      · have e : o = none := by rw [← ho]; unfold encItem; rw [if_pos rfl, if_neg (by simp [c1])]
        exact (encode_span_key hi lo id par rv name start stop bad A l n cap key body weight at_ w hn hnm hname hr hs c1).mono (none_of e)
  by_cases k2 : k = 2
  · subst k2
    cases hg : rightLog ⟨key, weight, at_, body⟩ with
    | false =>
      have e : o = none := by rw [← ho]; unfold encItem; rw [if_neg k1, if_pos rfl, if_neg (by simp [hg])]
      exact (encode_bad_log hi lo id par rv name start stop bad A l n cap key body weight at_ w hkey hbody hg).mono (none_of e)
    | true =>
      cases hs : noSpan ⟨hi, lo, id, par, name, start, stop, bad, l, rv⟩ with
      | false =>
        have e : o = none := by rw [← ho]; unfold encItem; rw [if_neg k1, if_pos rfl, if_neg (by simp [hs])]
        exact (encode_log_besides hi lo id par rv name start stop bad A l n cap key body weight at_ w hn hkey hbody hg hs).mono (none_of e)
      | true =>
        have e : o = some (2 :: encLog ⟨key, weight, at_, body⟩) := by rw [← ho]; unfold encItem; rw [if_neg k1, if_pos rfl, if_pos ⟨hg, hs⟩]
        obtain ⟨q1, q2, q3, q4, q5, q6, q7, q8, q9, q10⟩ := noSpan_parts hs
        dsimp only at q1 q2 q3 q4 q5 q6 q7 q8 q9 q10
        obtain rfl := nil_str q5
        obtain rfl : n = 0 := by omega
        subst e q1 q2 q3 q4 q6 q7 q8 q10
        obtain rfl : (0 : Nat) = E := hE
        exact encode_log_on A cap key body weight at_ w hg z m hz hm
  · have e : o = none := by rw [← ho]; unfold encItem; rw [if_neg k1, if_neg k2]
    exact (encode_kind k hi lo id par rv name start stop bad A l n cap key body weight at_ w k1 k2 hk).mono (none_of e)

set_option maxHeartbeats 2000000 in
theorem refEncode_all (k hi lo id par rv : Nat) (name : ByteArray) (start stop : Int) (bad : Bool) (A : Option Addr) (l : List Attr) (n cap : Nat) (key body : ByteArray) (weight : Nat) (at_ : Int) (w : World) (hk : k < 256) (b1 : hi < 18446744073709551616) (b2 : lo < 18446744073709551616) (b3 : id < 18446744073709551616) (b4 : par < 18446744073709551616)
    (hn : l.length = n) (hnm : n ≤ 9223372036854775807) (hname : name.size ≤ 9223372036854775807) (hkey : key.size ≤ 9223372036854775807) (hbody : body.size ≤ 9223372036854775807) (hr : HoldsA w.heap.size w A l) (o : Option (List UInt8)) (ho : encItem k ⟨hi, lo, id, par, name, start, stop, bad, l, rv⟩ ⟨key, weight, at_, body⟩ = o) (z : List UInt8) (m : Nat) (hz : o.getD [] = z) (hm : z.length = m) (E : Nat) (hE : errItem o = E) :
    Calls Try.prog 17 #[.agg #[.int .u8 (k : Int), .int .u64 (hi : Int), .int .u64 (lo : Int), .int .u64 (id : Int), .int .u64 (par : Int), .string name, .int .i64 start, .int .i64 stop, .bool bad, .slice A n cap, .int .u64 (rv : Int), .string key, .int .u64 (weight : Int), .int .i64 at_, .string body]] w fun e w' => ∃ A' c', e = .returned (.tuple #[.slice A' m c', .int .i64 (E : Int)]) ∧ w'.ownsRow w.heap.size 5 1 (.slice A' m c') z.length (z.map b8) ∧ Below w.heap.size w w' := by
  have none_of : o = none → ∀ (e : Ending) (w' : World), e = .returned (.tuple #[.slice none 0 0, .int .i64 40]) ∧ Below w.heap.size w w' → ∃ A' c', e = .returned (.tuple #[.slice A' m c', .int .i64 (E : Int)]) ∧ w'.ownsRow w.heap.size 5 1 (.slice A' m c') z.length (z.map b8) ∧ Below w.heap.size w w' := fun h e w' ⟨he, hb⟩ => by
    subst h
    obtain rfl : [] = z := hz
    obtain rfl : 0 = m := hm
    obtain rfl : 40 = E := hE
    exact ⟨none, 0, he, World.ownsRow_nil _ _ _ _, hb⟩
  by_cases k1 : k = 1
  · subst k1
    cases hs : rightSpan ⟨hi, lo, id, par, name, start, stop, bad, l, rv⟩ with
    | false =>
      have e : o = none := by rw [← ho]; unfold encItem; rw [if_pos rfl, if_neg (by simp [hs])]
      exact (refEncode_bad_span hi lo id par rv name start stop bad A l n cap key body weight at_ w hn hnm hname hr hs).mono (none_of e)
    | true =>
      by_cases c1 : key.size = 0
      · by_cases c2 : weight = 0
        · by_cases c3 : at_ = 0
          · by_cases c4 : body.size = 0
            · have e : o = some (1 :: encSpan ⟨hi, lo, id, par, name, start, stop, bad, l, rv⟩) := by rw [← ho]; unfold encItem; rw [if_pos rfl, if_pos ⟨hs, c1, c2, c3, c4⟩]
              subst e
              obtain rfl : (0 : Nat) = E := hE
              obtain rfl := nil_str c1
              obtain rfl := nil_str c4
              subst c2 c3
              exact refEncode_span hi lo id par rv name start stop bad A l n cap w b1 b2 b3 b4 hn hr hs z m hz hm
            · have e : o = none := by rw [← ho]; unfold encItem; rw [if_pos rfl, if_neg (by simp [c4])]
              exact (refEncode_span_body hi lo id par rv name start stop bad A l n cap key body weight at_ w hn hnm hname hr hs (nil_str c1) c2 c3 c4).mono (none_of e)
          · have e : o = none := by rw [← ho]; unfold encItem; rw [if_pos rfl, if_neg (by simp [c3])]
            exact (refEncode_span_at hi lo id par rv name start stop bad A l n cap key body weight at_ w hn hnm hname hr hs (nil_str c1) c2 c3).mono (none_of e)
        · have e : o = none := by rw [← ho]; unfold encItem; rw [if_pos rfl, if_neg (by simp [c2])]
          exact (refEncode_span_weight hi lo id par rv name start stop bad A l n cap key body weight at_ w hn hnm hname hr hs (nil_str c1) c2).mono (none_of e)
      · have e : o = none := by rw [← ho]; unfold encItem; rw [if_pos rfl, if_neg (by simp [c1])]
        exact (refEncode_span_key hi lo id par rv name start stop bad A l n cap key body weight at_ w hn hnm hname hr hs c1).mono (none_of e)
  by_cases k2 : k = 2
  · subst k2
    cases hg : rightLog ⟨key, weight, at_, body⟩ with
    | false =>
      have e : o = none := by rw [← ho]; unfold encItem; rw [if_neg k1, if_pos rfl, if_neg (by simp [hg])]
      exact (refEncode_bad_log hi lo id par rv name start stop bad A l n cap key body weight at_ w hkey hbody hg).mono (none_of e)
    | true =>
      cases hs : noSpan ⟨hi, lo, id, par, name, start, stop, bad, l, rv⟩ with
      | false =>
        have e : o = none := by rw [← ho]; unfold encItem; rw [if_neg k1, if_pos rfl, if_neg (by simp [hs])]
        exact (refEncode_log_besides hi lo id par rv name start stop bad A l n cap key body weight at_ w hn hkey hbody hg hs).mono (none_of e)
      | true =>
        have e : o = some (2 :: encLog ⟨key, weight, at_, body⟩) := by rw [← ho]; unfold encItem; rw [if_neg k1, if_pos rfl, if_pos ⟨hg, hs⟩]
        obtain ⟨q1, q2, q3, q4, q5, q6, q7, q8, q9, q10⟩ := noSpan_parts hs
        dsimp only at q1 q2 q3 q4 q5 q6 q7 q8 q9 q10
        obtain rfl := nil_str q5
        obtain rfl : n = 0 := by omega
        subst e q1 q2 q3 q4 q6 q7 q8 q10
        obtain rfl : (0 : Nat) = E := hE
        exact refEncode_log_on A cap key body weight at_ w hg z m hz hm
  · have e : o = none := by rw [← ho]; unfold encItem; rw [if_neg k1, if_neg k2]
    exact (refEncode_kind k hi lo id par rv name start stop bad A l n cap key body weight at_ w k1 k2 hk).mono (none_of e)

set_option linter.unusedSimpArgs false in
set_option linter.unusedVariables false in
set_option maxRecDepth 100000 in
set_option maxHeartbeats 8000000 in
/-- **telemeterlaw03.tells of every item.** -/
theorem tells_any (k hi lo id par rv : Nat) (name : ByteArray) (start stop : Int) (bad : Bool) (A : Option Addr) (l : List Attr) (n cap : Nat) (key body : ByteArray) (weight : Nat) (at_ : Int) (w : World) (hk : k < 256) (b1 : hi < 18446744073709551616) (b2 : lo < 18446744073709551616) (b3 : id < 18446744073709551616) (b4 : par < 18446744073709551616)
    (hn : l.length = n) (hnm : n ≤ 9223372036854775807) (hname : name.size ≤ 9223372036854775807) (hkey : key.size ≤ 9223372036854775807) (hbody : body.size ≤ 9223372036854775807) (hr : HoldsA w.heap.size w A l) :
    Calls Try.prog 16 #[.agg #[.int .u8 (k : Int), .int .u64 (hi : Int), .int .u64 (lo : Int), .int .u64 (id : Int), .int .u64 (par : Int), .string name, .int .i64 start, .int .i64 stop, .bool bad, .slice A n cap, .int .u64 (rv : Int), .string key, .int .u64 (weight : Int), .int .i64 at_, .string body]] w fun e w' => e = .returned (.bool true) ∧ Below w.heap.size w w' := by
  obtain ⟨o, ho⟩ : ∃ o, encItem k ⟨hi, lo, id, par, name, start, stop, bad, l, rv⟩ ⟨key, weight, at_, body⟩ = o := ⟨_, rfl⟩
  obtain ⟨z, hz⟩ : ∃ z, o.getD [] = z := ⟨_, rfl⟩
  obtain ⟨m, hm⟩ : ∃ m, z.length = m := ⟨_, rfl⟩
  obtain ⟨E, hE⟩ : ∃ E, errItem o = E := ⟨_, rfl⟩
  obtain ⟨r, hrs⟩ : ∃ r, rightSpan ⟨hi, lo, id, par, name, start, stop, bad, l, rv⟩ = r := ⟨_, rfl⟩
  obtain ⟨q, hrl⟩ : ∃ r, rightLog ⟨key, weight, at_, body⟩ = r := ⟨_, rfl⟩
  have hEb : E ≤ 40 := by rw [← hE]; unfold errItem; split <;> omega
  have hC := fun (W : World) (h : Below w.heap.size w W) => encode_all k hi lo id par rv name start stop bad A l n cap key body weight at_ W hk b1 b2 b3 b4 hn hnm hname hkey hbody (hr.later h) o ho z m hz hm E hE
  have hD := fun (W : World) (h : Below w.heap.size w W) => refEncode_all k hi lo id par rv name start stop bad A l n cap key body weight at_ W hk b1 b2 b3 b4 hn hnm hname hkey hbody (hr.later h) o ho z m hz hm E hE
  have hS1 := fun (W : World) (h : Below w.heap.size w W) => rightSpan_any hi lo id par rv name start stop bad A l n cap W r hn hnm hname (hr.later h) hrs
  have hS2 := fun (W : World) (h : Below w.heap.size w W) => refRightSpan_any hi lo id par rv name start stop bad A l n cap W r hn hnm hname (hr.later h) hrs
  have hL1 := fun (W : World) => rightLog_any key body weight at_ W q hkey hbody hrl
  have hL2 := fun (W : World) => refRightLog_any key body weight at_ W q hkey hbody hrl
  unfold spCells at hS1 hS2
  unfold lgCells at hL1 hL2
  have HC := Lib.hid hC
  have HD := Lib.hid hD
  have HS1 := Lib.hid hS1
  have HS2 := Lib.hid hS2
  have HL1 := Lib.hid hL1
  have HL2 := Lib.hid hL2
  have HM := Lib.hid hm
  have ew : IntKind.i64.wrap (E : Int) = (E : Int) := by rw [IntKind.wrap_i64]; omega
  have HB0 := Lib.hid ((Below.refl w.heap.size w).alloc (Nat.le_refl _) (.cells #[.int .u8 (k : Int), .int .u64 (hi : Int), .int .u64 (lo : Int), .int .u64 (id : Int), .int .u64 (par : Int), .string name, .int .i64 start, .int .i64 stop, .bool bad, .slice A n cap, .int .u64 (rv : Int), .string key, .int .u64 (weight : Int), .int .i64 at_, .string body] 38))
  have HK0 := Lib.hid (blk_new w #[.int .u8 (k : Int), .int .u64 (hi : Int), .int .u64 (lo : Int), .int .u64 (id : Int), .int .u64 (par : Int), .string name, .int .i64 start, .int .i64 stop, .bool bad, .slice A n cap, .int .u64 (rv : Int), .string key, .int .u64 (weight : Int), .int .i64 at_, .string body] 38)
  clear hC hD hS1 hS2 hL1 hL2 ho hz hm hE hrs hrl hr hn
  go_enter Try.func16, Try.ntmps16
  go_wp2_with fail
  refine (HC.out _ HB0.out).mono ?_
  rintro e w1 ⟨A1, c1, rfl, o1, b1'⟩
  have HB1 := Lib.hid (HB0.out.trans (b1'.mono HB0.out.size))
  have HK1 := Lib.hid (HK0.out.same (b1'.block _ HK0.out.lt))
  have HO1 := Lib.hid o1
  clear o1 b1'
  have g0 : w1.cell? ⟨w.heap.size, 0, none⟩ = some (.int .u8 (k : Int)) := HK1.out.cell 0 rfl
  have g1 : w1.cell? ⟨w.heap.size, 1, none⟩ = some (.int .u64 (hi : Int)) := HK1.out.cell 1 rfl
  have g2 : w1.cell? ⟨w.heap.size, 2, none⟩ = some (.int .u64 (lo : Int)) := HK1.out.cell 2 rfl
  have g3 : w1.cell? ⟨w.heap.size, 3, none⟩ = some (.int .u64 (id : Int)) := HK1.out.cell 3 rfl
  have g4 : w1.cell? ⟨w.heap.size, 4, none⟩ = some (.int .u64 (par : Int)) := HK1.out.cell 4 rfl
  have g5 : w1.cell? ⟨w.heap.size, 5, none⟩ = some (.string name) := HK1.out.cell 5 rfl
  have g6 : w1.cell? ⟨w.heap.size, 6, none⟩ = some (.int .i64 start) := HK1.out.cell 6 rfl
  have g7 : w1.cell? ⟨w.heap.size, 7, none⟩ = some (.int .i64 stop) := HK1.out.cell 7 rfl
  have g8 : w1.cell? ⟨w.heap.size, 8, none⟩ = some (.bool bad) := HK1.out.cell 8 rfl
  have g9 : w1.cell? ⟨w.heap.size, 9, none⟩ = some (.slice A n cap) := HK1.out.cell 9 rfl
  have g10 : w1.cell? ⟨w.heap.size, 10, none⟩ = some (.int .u64 (rv : Int)) := HK1.out.cell 10 rfl
  have g11 : w1.cell? ⟨w.heap.size, 11, none⟩ = some (.string key) := HK1.out.cell 11 rfl
  have g12 : w1.cell? ⟨w.heap.size, 12, none⟩ = some (.int .u64 (weight : Int)) := HK1.out.cell 12 rfl
  have g13 : w1.cell? ⟨w.heap.size, 13, none⟩ = some (.int .i64 at_) := HK1.out.cell 13 rfl
  have g14 : w1.cell? ⟨w.heap.size, 14, none⟩ = some (.string body) := HK1.out.cell 14 rfl
  go_wp2_with fail
  refine (HD.out _ HB1.out).mono ?_
  rintro e w2 ⟨A2, c2, rfl, o2, b2'⟩
  have HB2 := Lib.hid (HB1.out.trans (b2'.mono HB1.out.size))
  have HK2 := Lib.hid (HK1.out.same (b2'.block _ HK1.out.lt))
  have HO2 := Lib.hid o2
  have HO1b := Lib.hid (own_later HO1.out b2')
  clear o2 b2' g0 g1 g2 g3 g4 g5 g6 g7 g8 g9 g10 g11 g12 g13 g14
  obtain ⟨s1, hs1⟩ : ∃ s1 : ByteArray, (⟨z.toArray⟩ : ByteArray) = s1 := ⟨_, rfl⟩
  have ht1 : ∀ W, Below w2.heap.size w2 W → (convert 22 9 (.slice A1 m c1)).run Try.prog W = .ok (.string s1) W := fun W h => by
    rw [← hs1]; exact text_run A1 z m c1 W _ HM.out ((own_facts (cs := z) (by rw [HM.out]; have := HO1b.out; rw [HM.out] at this; exact this)).2.2.later h)
  have ht2 : ∀ W, Below w2.heap.size w2 W → (convert 22 9 (.slice A2 m c2)).run Try.prog W = .ok (.string s1) W := fun W h => by
    rw [← hs1]; exact text_run A2 z m c2 W _ HM.out ((own_facts (cs := z) (by rw [HM.out]; have := HO2.out; rw [HM.out] at this; exact this)).2.2.later h)
  have HT1 := Lib.hid ht1
  have HT2 := Lib.hid ht2
  have hKd : Blk w2.drew w.heap.size #[.int .u8 (k : Int), .int .u64 (hi : Int), .int .u64 (lo : Int), .int .u64 (id : Int), .int .u64 (par : Int), .string name, .int .i64 start, .int .i64 stop, .bool bad, .slice A n cap, .int .u64 (rv : Int), .string key, .int .u64 (weight : Int), .int .i64 at_, .string body] 38 := HK2.out
  have hBd : Below w2.heap.size w2 w2.drew := (Below.refl _ _).drew
  clear ht1 ht2 hs1
  go_wp2_with fail
  refine wp_region_held_drew (S := fun W => Blk W w.heap.size #[.int .u8 (k : Int), .int .u64 (hi : Int), .int .u64 (lo : Int), .int .u64 (id : Int), .int .u64 (par : Int), .string name, .int .i64 start, .int .i64 stop, .bool bad, .slice A n cap, .int .u64 (rv : Int), .string key, .int .u64 (weight : Int), .int .i64 at_, .string body] 38 ∧ Below w2.heap.size w2 W) (by kernel_rfl) ?_ (fun hHeld => ?_)
  · exact ⟨hKd, hBd⟩
  refine wpAnyH_take (i := 0) (v := ?_) rfl (by kernel_rfl) (by kernel_rfl) (by kernel_rfl) (fun _ _ _ h => h) (Or.inl ⟨by rfl, ?_⟩) (by assumption) ?_
  rotate_left
  · intro wq hSw; (try dsimp only at hSw); go_simp; (try with_reducible rfl)
  simp only [Act.put, List.getElem_toArray, List.getElem_cons_succ, List.getElem_cons_zero, List.setIfInBounds_toArray, List.set_cons_zero, List.set_cons_succ]
  refine wpAnyH_take (i := 1) (v := ?_) rfl (by kernel_rfl) (by kernel_rfl) (by kernel_rfl) (fun _ _ _ h => h) (Or.inl ⟨by rfl, ?_⟩) (by assumption) ?_
  rotate_left
  · intro wq hSw; (try dsimp only at hSw); have hq := HT1.out _ hSw.2; go_simp; (try with_reducible rfl)
  simp only [Act.put, List.getElem_toArray, List.getElem_cons_succ, List.getElem_cons_zero, List.setIfInBounds_toArray, List.set_cons_zero, List.set_cons_succ]
  refine wpAnyH_take (i := 2) (v := ?_) rfl (by kernel_rfl) (by kernel_rfl) (by kernel_rfl) (fun _ _ _ h => h) (Or.inl ⟨by rfl, ?_⟩) (by assumption) ?_
  rotate_left
  · intro wq hSw; (try dsimp only at hSw); go_simp; (try with_reducible rfl)
  simp only [Act.put, List.getElem_toArray, List.getElem_cons_succ, List.getElem_cons_zero, List.setIfInBounds_toArray, List.set_cons_zero, List.set_cons_succ]
  refine wpAnyH_take (i := 3) (v := ?_) rfl (by kernel_rfl) (by kernel_rfl) (by kernel_rfl) (fun _ _ _ h => h) (Or.inl ⟨by rfl, ?_⟩) (by assumption) ?_
  rotate_left
  · intro wq hSw; (try dsimp only at hSw); have hq := HT2.out _ hSw.2; go_simp; (try with_reducible rfl)
  simp only [Act.put, List.getElem_toArray, List.getElem_cons_succ, List.getElem_cons_zero, List.setIfInBounds_toArray, List.set_cons_zero, List.set_cons_succ]
  refine wpAnyH_take (i := 4) (v := ?_) rfl (by kernel_rfl) (by kernel_rfl) (by kernel_rfl) (fun _ _ _ h => h) (Or.inl ⟨by rfl, ?_⟩) (by assumption) ?_
  rotate_left
  · intro wq hSw; (try dsimp only at hSw); go_simp; (try with_reducible rfl)
  simp only [Act.put, List.getElem_toArray, List.getElem_cons_succ, List.getElem_cons_zero, List.setIfInBounds_toArray, List.set_cons_zero, List.set_cons_succ]
  refine wpAnyH_take (i := 5) (v := ?_) rfl (by kernel_rfl) (by kernel_rfl) (by kernel_rfl) (fun _ _ _ h => h) (Or.inl ⟨by rfl, ?_⟩) (by assumption) ?_
  rotate_left
  · intro wq hSw; (try dsimp only at hSw); go_simp; (try with_reducible rfl)
  simp only [Act.put, List.getElem_toArray, List.getElem_cons_succ, List.getElem_cons_zero, List.setIfInBounds_toArray, List.set_cons_zero, List.set_cons_succ]
  refine wpAnyH_take (i := 6) (v := ?_) rfl (by kernel_rfl) (by kernel_rfl) (by kernel_rfl) (fun _ _ _ h => h) (Or.inl ⟨by rfl, ?_⟩) (by assumption) ?_
  rotate_left
  · intro wq hSw; (try dsimp only at hSw); go_simp; (try with_reducible rfl)
  simp only [Act.put, List.getElem_toArray, List.getElem_cons_succ, List.getElem_cons_zero, List.setIfInBounds_toArray, List.set_cons_zero, List.set_cons_succ]
  refine wpAnyH_take (i := 7) (v := ?_) rfl (by kernel_rfl) (by kernel_rfl) (by kernel_rfl) (fun _ _ _ h => h) (Or.inl ⟨by rfl, ?_⟩) (by assumption) ?_
  rotate_left
  · intro wq hSw; (try dsimp only at hSw); go_simp; (try with_reducible rfl)
  simp only [Act.put, List.getElem_toArray, List.getElem_cons_succ, List.getElem_cons_zero, List.setIfInBounds_toArray, List.set_cons_zero, List.set_cons_succ]
  refine wpAnyH_take (i := 8) (v := ?_) rfl (by kernel_rfl) (by kernel_rfl) (by kernel_rfl) (fun _ _ _ h => h) (Or.inl ⟨by rfl, ?_⟩) (by assumption) ?_
  rotate_left
  · intro wq hSw; (try dsimp only at hSw); go_simp; (try with_reducible rfl)
  simp only [Act.put, List.getElem_toArray, List.getElem_cons_succ, List.getElem_cons_zero, List.setIfInBounds_toArray, List.set_cons_zero, List.set_cons_succ]
  refine wpAnyH_take (i := 9) (v := ?_) rfl (by kernel_rfl) (by kernel_rfl) (by kernel_rfl) (fun _ _ _ h => h) (Or.inl ⟨by rfl, ?_⟩) (by assumption) ?_
  rotate_left
  · intro wq hSw; (try dsimp only at hSw); go_simp; (try with_reducible rfl)
  simp only [Act.put, List.getElem_toArray, List.getElem_cons_succ, List.getElem_cons_zero, List.setIfInBounds_toArray, List.set_cons_zero, List.set_cons_succ]
  refine wpAnyH_take (i := 10) (v := ?_) rfl (by kernel_rfl) (by kernel_rfl) (by kernel_rfl) (fun _ _ _ h => h) (Or.inl ⟨by rfl, ?_⟩) (by assumption) ?_
  rotate_left
  · intro wq hSw; (try dsimp only at hSw); go_simp; (try with_reducible rfl)
  simp only [Act.put, List.getElem_toArray, List.getElem_cons_succ, List.getElem_cons_zero, List.setIfInBounds_toArray, List.set_cons_zero, List.set_cons_succ]
  refine wpAnyH_take (i := 11) (v := ?_) rfl (by kernel_rfl) (by kernel_rfl) (by kernel_rfl) (fun _ _ _ h => h) (Or.inl ⟨by rfl, ?_⟩) (by assumption) ?_
  rotate_left
  · intro wq hSw; (try dsimp only at hSw); go_simp; (try with_reducible rfl)
  simp only [Act.put, List.getElem_toArray, List.getElem_cons_succ, List.getElem_cons_zero, List.setIfInBounds_toArray, List.set_cons_zero, List.set_cons_succ]
  refine wpAnyH_take (i := 12) (v := ?_) rfl (by kernel_rfl) (by kernel_rfl) (by kernel_rfl) (fun _ _ _ h => h) (Or.inl ⟨by rfl, ?_⟩) (by assumption) ?_
  rotate_left
  · intro wq hSw; (try dsimp only at hSw); go_simp; (try with_reducible rfl)
  simp only [Act.put, List.getElem_toArray, List.getElem_cons_succ, List.getElem_cons_zero, List.setIfInBounds_toArray, List.set_cons_zero, List.set_cons_succ]
  refine wpAnyH_take (i := 13) (v := ?_) rfl (by kernel_rfl) (by kernel_rfl) (by kernel_rfl) (fun _ _ _ h => h) (Or.inl ⟨by rfl, ?_⟩) (by assumption) ?_
  rotate_left
  · intro wq hSw; (try dsimp only at hSw); have q1 := hSw.1.cell 1 rfl; have q2 := hSw.1.cell 2 rfl; have q3 := hSw.1.cell 3 rfl; have q4 := hSw.1.cell 4 rfl; have q5 := hSw.1.cell 5 rfl; have q6 := hSw.1.cell 6 rfl; have q7 := hSw.1.cell 7 rfl; have q8 := hSw.1.cell 8 rfl; have q9 := hSw.1.cell 9 rfl; have q10 := hSw.1.cell 10 rfl; go_simp; (try with_reducible rfl)
  simp only [Act.put, List.getElem_toArray, List.getElem_cons_succ, List.getElem_cons_zero, List.setIfInBounds_toArray, List.set_cons_zero, List.set_cons_succ]
  refine wpAnyH_take (i := 15) (v := ?_) rfl (by kernel_rfl) (by kernel_rfl) (by kernel_rfl) (fun _ _ _ h => h) (Or.inl ⟨by rfl, ?_⟩) (by assumption) ?_
  rotate_left
  · intro wq hSw; (try dsimp only at hSw); go_simp; (try with_reducible rfl)
  simp only [Act.put, List.getElem_toArray, List.getElem_cons_succ, List.getElem_cons_zero, List.setIfInBounds_toArray, List.set_cons_zero, List.set_cons_succ]
  refine wpAnyH_take (i := 16) (v := ?_) rfl (by kernel_rfl) (by kernel_rfl) (by kernel_rfl) (fun _ _ _ h => h) (Or.inl ⟨by rfl, ?_⟩) (by assumption) ?_
  rotate_left
  · intro wq hSw; (try dsimp only at hSw); have q1 := hSw.1.cell 1 rfl; have q2 := hSw.1.cell 2 rfl; have q3 := hSw.1.cell 3 rfl; have q4 := hSw.1.cell 4 rfl; have q5 := hSw.1.cell 5 rfl; have q6 := hSw.1.cell 6 rfl; have q7 := hSw.1.cell 7 rfl; have q8 := hSw.1.cell 8 rfl; have q9 := hSw.1.cell 9 rfl; have q10 := hSw.1.cell 10 rfl; go_simp; (try with_reducible rfl)
  simp only [Act.put, List.getElem_toArray, List.getElem_cons_succ, List.getElem_cons_zero, List.setIfInBounds_toArray, List.set_cons_zero, List.set_cons_succ]
  refine wpAnyH_ready (rs := [14]) (by kernel_rfl) (by simp) ?_
  refine AllReadyH.cons rfl (fun K hK => ?_) AllReadyH.nil
  go_simp
  refine (HS1.out _ (HB2.out.trans (hHeld.2.mono HB2.out.size))).mono ?_
  rintro e y1 ⟨rfl, by1⟩
  (try go_wp2_with fail)
  refine hK.out _ _ ?_ (fun hHeld => ?_)
  · exact ⟨hHeld.1.same (by1.block _ hHeld.1.lt), hHeld.2.trans (by1.mono hHeld.2.size)⟩
  clear hK K
  try simp only [Act.put, List.getElem_toArray, List.getElem_cons_succ, List.getElem_cons_zero, List.setIfInBounds_toArray, List.set_cons_zero, List.set_cons_succ]
  refine wpAnyH_ready (rs := [17]) (by kernel_rfl) (by simp) ?_
  refine AllReadyH.cons rfl (fun K hK => ?_) AllReadyH.nil
  go_simp
  refine (HS2.out _ (HB2.out.trans (hHeld.2.mono HB2.out.size))).mono ?_
  rintro e y2 ⟨rfl, by2⟩
  (try go_wp2_with fail)
  refine hK.out _ _ ?_ (fun hHeld => ?_)
  · exact ⟨hHeld.1.same (by2.block _ hHeld.1.lt), hHeld.2.trans (by2.mono hHeld.2.size)⟩
  clear hK K
  try simp only [Act.put, List.getElem_toArray, List.getElem_cons_succ, List.getElem_cons_zero, List.setIfInBounds_toArray, List.set_cons_zero, List.set_cons_succ]
  refine wpAnyH_take (i := 18) (v := ?_) rfl (by kernel_rfl) (by kernel_rfl) (by kernel_rfl) (fun _ _ _ h => h) (Or.inl ⟨by rfl, ?_⟩) (by assumption) ?_
  rotate_left
  · intro wq hSw; (try dsimp only at hSw); go_simp; (try with_reducible rfl)
  simp only [Act.put, List.getElem_toArray, List.getElem_cons_succ, List.getElem_cons_zero, List.setIfInBounds_toArray, List.set_cons_zero, List.set_cons_succ]
  refine wpAnyH_take (i := 19) (v := ?_) rfl (by kernel_rfl) (by kernel_rfl) (by kernel_rfl) (fun _ _ _ h => h) (Or.inl ⟨by rfl, ?_⟩) (by assumption) ?_
  rotate_left
  · intro wq hSw; (try dsimp only at hSw); go_simp; (try with_reducible rfl)
  simp only [Act.put, List.getElem_toArray, List.getElem_cons_succ, List.getElem_cons_zero, List.setIfInBounds_toArray, List.set_cons_zero, List.set_cons_succ]
  refine wpAnyH_take (i := 20) (v := ?_) rfl (by kernel_rfl) (by kernel_rfl) (by kernel_rfl) (fun _ _ _ h => h) (Or.inl ⟨by rfl, ?_⟩) (by assumption) ?_
  rotate_left
  · intro wq hSw; (try dsimp only at hSw); go_simp; (try with_reducible rfl)
  simp only [Act.put, List.getElem_toArray, List.getElem_cons_succ, List.getElem_cons_zero, List.setIfInBounds_toArray, List.set_cons_zero, List.set_cons_succ]
  refine wpAnyH_take (i := 21) (v := ?_) rfl (by kernel_rfl) (by kernel_rfl) (by kernel_rfl) (fun _ _ _ h => h) (Or.inl ⟨by rfl, ?_⟩) (by assumption) ?_
  rotate_left
  · intro wq hSw; (try dsimp only at hSw); go_simp; (try with_reducible rfl)
  simp only [Act.put, List.getElem_toArray, List.getElem_cons_succ, List.getElem_cons_zero, List.setIfInBounds_toArray, List.set_cons_zero, List.set_cons_succ]
  refine wpAnyH_take (i := 22) (v := ?_) rfl (by kernel_rfl) (by kernel_rfl) (by kernel_rfl) (fun _ _ _ h => h) (Or.inl ⟨by rfl, ?_⟩) (by assumption) ?_
  rotate_left
  · intro wq hSw; (try dsimp only at hSw); have q11 := hSw.1.cell 11 rfl; have q12 := hSw.1.cell 12 rfl; have q13 := hSw.1.cell 13 rfl; have q14 := hSw.1.cell 14 rfl; go_simp; (try with_reducible rfl)
  simp only [Act.put, List.getElem_toArray, List.getElem_cons_succ, List.getElem_cons_zero, List.setIfInBounds_toArray, List.set_cons_zero, List.set_cons_succ]
  refine wpAnyH_take (i := 24) (v := ?_) rfl (by kernel_rfl) (by kernel_rfl) (by kernel_rfl) (fun _ _ _ h => h) (Or.inl ⟨by rfl, ?_⟩) (by assumption) ?_
  rotate_left
  · intro wq hSw; (try dsimp only at hSw); go_simp; (try with_reducible rfl)
  simp only [Act.put, List.getElem_toArray, List.getElem_cons_succ, List.getElem_cons_zero, List.setIfInBounds_toArray, List.set_cons_zero, List.set_cons_succ]
  refine wpAnyH_take (i := 25) (v := ?_) rfl (by kernel_rfl) (by kernel_rfl) (by kernel_rfl) (fun _ _ _ h => h) (Or.inl ⟨by rfl, ?_⟩) (by assumption) ?_
  rotate_left
  · intro wq hSw; (try dsimp only at hSw); have q11 := hSw.1.cell 11 rfl; have q12 := hSw.1.cell 12 rfl; have q13 := hSw.1.cell 13 rfl; have q14 := hSw.1.cell 14 rfl; go_simp; (try with_reducible rfl)
  simp only [Act.put, List.getElem_toArray, List.getElem_cons_succ, List.getElem_cons_zero, List.setIfInBounds_toArray, List.set_cons_zero, List.set_cons_succ]
  refine wpAnyH_ready (rs := [23]) (by kernel_rfl) (by simp) ?_
  refine AllReadyH.cons rfl (fun K hK => ?_) AllReadyH.nil
  go_simp
  refine (HL1.out _).mono ?_
  rintro e y3 ⟨rfl, by3⟩
  (try go_wp2_with fail)
  refine hK.out _ _ ?_ (fun hHeld => ?_)
  · exact ⟨hHeld.1.same (by3.block _ hHeld.1.lt), hHeld.2.trans (by3.mono hHeld.2.size)⟩
  clear hK K
  try simp only [Act.put, List.getElem_toArray, List.getElem_cons_succ, List.getElem_cons_zero, List.setIfInBounds_toArray, List.set_cons_zero, List.set_cons_succ]
  refine wpAnyH_ready (rs := [26]) (by kernel_rfl) (by simp) ?_
  refine AllReadyH.cons rfl (fun K hK => ?_) AllReadyH.nil
  go_simp
  refine (HL2.out _).mono ?_
  rintro e y4 ⟨rfl, by4⟩
  (try go_wp2_with fail)
  refine hK.out _ _ ?_ (fun hHeld => ?_)
  · exact ⟨hHeld.1.same (by4.block _ hHeld.1.lt), hHeld.2.trans (by4.mono hHeld.2.size)⟩
  clear hK K
  try simp only [Act.put, List.getElem_toArray, List.getElem_cons_succ, List.getElem_cons_zero, List.setIfInBounds_toArray, List.set_cons_zero, List.set_cons_succ]
  refine wpAnyH_take (i := 27) (v := ?_) rfl (by kernel_rfl) (by kernel_rfl) (by kernel_rfl) (fun _ _ _ h => h) (Or.inl ⟨by rfl, ?_⟩) (by assumption) ?_
  rotate_left
  · intro wq hSw; (try dsimp only at hSw); go_simp; (try with_reducible rfl)
  simp only [Act.put, List.getElem_toArray, List.getElem_cons_succ, List.getElem_cons_zero, List.setIfInBounds_toArray, List.set_cons_zero, List.set_cons_succ]
  refine wpAnyH_take (i := 28) (v := ?_) rfl (by kernel_rfl) (by kernel_rfl) (by kernel_rfl) (fun _ _ _ h => h) (Or.inl ⟨by rfl, ?_⟩) (by assumption) ?_
  rotate_left
  · intro wq hSw; (try dsimp only at hSw); go_simp; (try with_reducible rfl)
  simp only [Act.put, List.getElem_toArray, List.getElem_cons_succ, List.getElem_cons_zero, List.setIfInBounds_toArray, List.set_cons_zero, List.set_cons_succ]
  refine wpAnyH_take (i := 29) (v := ?_) rfl (by kernel_rfl) (by kernel_rfl) (by kernel_rfl) (fun _ _ _ h => h) (Or.inl ⟨by rfl, ?_⟩) (by assumption) ?_
  rotate_left
  · intro wq hSw; (try dsimp only at hSw); go_simp; (try with_reducible rfl)
  simp only [Act.put, List.getElem_toArray, List.getElem_cons_succ, List.getElem_cons_zero, List.setIfInBounds_toArray, List.set_cons_zero, List.set_cons_succ]
  have hBf := HB2.out.trans (hHeld.2.mono HB2.out.size)
  refine wpAnyH_done (by kernel_rfl) ?_ _
  clear hHeld
  clear by1 by2 by3 by4
  go_wp2_with fail
  go_ret
  exact ⟨rfl, hBf⟩

end Go.Proofs.Ytklgggolkclebaa
