/-
  Proved: ItemEncodes returns true for every item, all choices, bends and texts: Encode is what the chapter says, of right items and of wrong ones. No condition.
-/
import Derived.Test.YtfmdjopcpbcajaaItemOwn
import Derived.Test.YtfmdjopcpbcajaaItemKnown
import Derived.Test.YtfmdjopcpbcajaaAgain
namespace Go.Proofs.Ytfmdjopcpbcajaa
open Go.ChangeShapes Go.WideShapes Go.ChangeAt Go.RowKit Go.Proofs.NumMath Go.Proofs.ItemMath

theorem own_apart2 {W : World} {B n g : Nat} {v : Value} {xs : List Value} {C : Array Value} {e T : TypeId} (ho : W.ownsRow B e 2 v n xs) (hb : Blk W g C T) (hT : e ≠ T) : v.ownBlock ≠ some g := fun h => by
  rcases ho.2 with ⟨rfl, _⟩ | ⟨k, cap, cur, rfl, _, hk, _⟩
  · simp [Value.ownBlock] at h
  · obtain rfl : k = g := by simpa [Value.ownBlock] using h
    unfold Blk at hb
    rw [hk] at hb
    injection hb with hb
    injection hb with _ h2 _
    exact hT h2

theorem aCells_app2 (l : List Attr) (a : Attr) : aCells (l ++ [a]) = aCells l ++ [.string a.1, .string a.2] := by simp [aCells]

set_option linter.unusedSimpArgs false in
set_option linter.unusedVariables false in
set_option maxRecDepth 100000 in
set_option maxHeartbeats 4000000 in
theorem bend_0 (k hi lo id par rv weight : Nat) (name key body : ByteArray) (start stop at_ : Int) (bad : Bool) (B : Option Addr) (l : List Attr) (ln lc : Nat) (A : Option Addr) (cs : List UInt8) (len cap how : Nat) (nn : Int) (s : ByteArray) (w : World)
    (hk : k < 256) (b1 : hi < 18446744073709551616) (b2 : lo < 18446744073709551616) (b3 : id < 18446744073709551616) (b4 : par < 18446744073709551616) (hn : l.length = ln) (hnm : ln ≤ lc) (hlc : lc ≤ 9223372036854775807) (hname : name.size ≤ 9223372036854775807) (hkey : key.size ≤ 9223372036854775807) (hbody : body.size ≤ 9223372036854775807) (hB : HoldsA w.heap.size w B l)
    (hlen : cs.length = len) (hl : len ≤ cap) (hcap : cap ≤ 9223372036854775807) (hr : Holds8 w.heap.size w A cs) (hhow : how < 256) (hnn : -9223372036854775808 ≤ nn ∧ nn ≤ 9223372036854775807) (hs : s.size ≤ 9223372036854775807) (h1 : ¬ 12 < ln) (h2 : ¬ 100 < s.size) (hm : how % 8 = 0) :
    Calls Try.prog 5 #[.agg #[.int .u8 (k : Int), .int .u64 (hi : Int), .int .u64 (lo : Int), .int .u64 (id : Int), .int .u64 (par : Int), .string name, .int .i64 start, .int .i64 stop, .bool bad, .slice B ln lc, .int .u64 (rv : Int), .string key, .int .u64 (weight : Int), .int .i64 at_, .string body], .slice A len cap, .int .u8 (how : Int), .int .i64 nn, .string s] w fun e w' => e = .returned (.bool true) ∧ Below w.heap.size w w' := by
  have d1 : decide ((12 : Int) < (ln : Int)) = false := by simp; omega
  have d2 : decide ((100 : Int) < (s.size : Int)) = false := by simp; omega
  have HBb := Lib.hid hB
  have HR := Lib.hid hr
  have hI := fun (W : World) (h : Below w.heap.size w W) => madeOwn_any A cs len cap W hlen hl hcap (hr.later h)
  have HI := Lib.hid hI
  have HN := Lib.hid hn
  clear hr hlen hI hB hn
  have hX0 : Below w.heap.size w (w.alloc (.cells #[.int .u8 (k : Int), .int .u64 (hi : Int), .int .u64 (lo : Int), .int .u64 (id : Int), .int .u64 (par : Int), .string name, .int .i64 start, .int .i64 stop, .bool bad, .slice B ln lc, .int .u64 (rv : Int), .string key, .int .u64 (weight : Int), .int .i64 at_, .string body] 38)) := (Below.refl _ _).alloc (Nat.le_refl _) _
  have HX0 := Lib.hid hX0
  have HXB := Lib.hid (blk_new w #[.int .u8 (k : Int), .int .u64 (hi : Int), .int .u64 (lo : Int), .int .u64 (id : Int), .int .u64 (par : Int), .string name, .int .i64 start, .int .i64 stop, .bool bad, .slice B ln lc, .int .u64 (rv : Int), .string key, .int .u64 (weight : Int), .int .i64 at_, .string body] 38)
  clear hX0
  go_enter Try.func5, Try.ntmps5
  go_wp2_with fail
  refine (known_any _).mono ?_
  rintro e w1 ⟨rfl, hb1⟩
  have HX1 := Lib.hid (HXB.out.same (hb1.block _ HXB.out.lt))
  have HB1 := Lib.hid (HX0.out.trans (hb1.mono (by simp)))
  have t0 : (how : Int).tmod 8 = (0 : Int) := by rw [Int.tmod_eq_emod_of_nonneg (by omega)]; omega
  clear hb1 HXB HX0 hm
  go_wp2_with fail
  refine (HI.out _ HB1.out).mono ?_
  rintro e w2 ⟨k2, hi2, lo2, id2, par2, rv2, weight2, name2, key2, body2, start2, stop2, at2, bad2, A2, l2, n2, c2, rfl, hq1, hq2, hq3, hq4, hn2, hn8, hal, hown, hb2⟩
  obtain ⟨g1, g2, g3, g4, g5⟩ := hq1
  have HX2 := Lib.hid (HX1.out.same (hb2.block _ HX1.out.lt))
  have HB2 := Lib.hid (HB1.out.trans (hb2.mono HB1.out.size))
  have HO2 := Lib.hid (lower_own hown HB1.out.size)
  have hgx : w.heap.size < w2.heap.size := HX2.out.lt
  have HN2 := Lib.hid hn2
  have HAL := Lib.hid hal
  clear hb2 hown hn2 hal HX1 HI HB1 HR
  have HX4 := Lib.hid (HX2.out.same (Below.heap_alloc w2 (.cells #[.int .u8 (k2 : Int), .int .u64 (hi2 : Int), .int .u64 (lo2 : Int), .int .u64 (id2 : Int), .int .u64 (par2 : Int), .string name2, .int .i64 nn, .int .i64 stop2, .bool bad2, .slice A2 n2 c2, .int .u64 (rv2 : Int), .string key2, .int .u64 (weight2 : Int), .int .i64 at2, .string body2] 38) _ hgx))
  have HY4 := Lib.hid (blk_new w2 #[.int .u8 (k2 : Int), .int .u64 (hi2 : Int), .int .u64 (lo2 : Int), .int .u64 (id2 : Int), .int .u64 (par2 : Int), .string name2, .int .i64 nn, .int .i64 stop2, .bool bad2, .slice A2 n2 c2, .int .u64 (rv2 : Int), .string key2, .int .u64 (weight2 : Int), .int .i64 at2, .string body2] 38)
  have HB4 := Lib.hid (HB2.out.alloc HB2.out.size (.cells #[.int .u8 (k2 : Int), .int .u64 (hi2 : Int), .int .u64 (lo2 : Int), .int .u64 (id2 : Int), .int .u64 (par2 : Int), .string name2, .int .i64 nn, .int .i64 stop2, .bool bad2, .slice A2 n2 c2, .int .u64 (rv2 : Int), .string key2, .int .u64 (weight2 : Int), .int .i64 at2, .string body2] 38))
  have HA4 := Lib.hid (holdsA_own (HO2.out.alloc (.cells #[.int .u8 (k2 : Int), .int .u64 (hi2 : Int), .int .u64 (lo2 : Int), .int .u64 (id2 : Int), .int .u64 (par2 : Int), .string name2, .int .i64 nn, .int .i64 stop2, .bool bad2, .slice A2 n2 c2, .int .u64 (rv2 : Int), .string key2, .int .u64 (weight2 : Int), .int .i64 at2, .string body2] 38)) HN2.out HAL.out)
  clear HX2 HB2 HO2
  have x0 := HX4.out.cell 0 rfl
  have xf0 := HX4.out.free 0
  have x1 := HX4.out.cell 1 rfl
  have xf1 := HX4.out.free 1
  have x2 := HX4.out.cell 2 rfl
  have xf2 := HX4.out.free 2
  have x3 := HX4.out.cell 3 rfl
  have xf3 := HX4.out.free 3
  have x4 := HX4.out.cell 4 rfl
  have xf4 := HX4.out.free 4
  have x5 := HX4.out.cell 5 rfl
  have xf5 := HX4.out.free 5
  have x6 := HX4.out.cell 6 rfl
  have xf6 := HX4.out.free 6
  have x7 := HX4.out.cell 7 rfl
  have xf7 := HX4.out.free 7
  have x8 := HX4.out.cell 8 rfl
  have xf8 := HX4.out.free 8
  have x9 := HX4.out.cell 9 rfl
  have xf9 := HX4.out.free 9
  have x10 := HX4.out.cell 10 rfl
  have xf10 := HX4.out.free 10
  have x11 := HX4.out.cell 11 rfl
  have xf11 := HX4.out.free 11
  have x12 := HX4.out.cell 12 rfl
  have xf12 := HX4.out.free 12
  have x13 := HX4.out.cell 13 rfl
  have xf13 := HX4.out.free 13
  have x14 := HX4.out.cell 14 rfl
  have xf14 := HX4.out.free 14
  go_wp2_with fail
  refine (tells_any k hi lo id par rv name start stop bad B l ln lc key body weight at_ _ hk b1 b2 b3 b4 HN.out (by omega) hname hkey hbody (HBb.out.later HB4.out)).mono ?_
  rintro e w5 ⟨rfl, hb5⟩
  have HY5 := Lib.hid (HY4.out.same (hb5.block _ HY4.out.lt))
  have HA5 := Lib.hid (HA4.out.later hb5)
  have HB5 := Lib.hid (HB4.out.trans (hb5.mono HB4.out.size))
  clear hb5
  have y0 := HY5.out.cell 0 rfl
  have yf0 := HY5.out.free 0
  have y1 := HY5.out.cell 1 rfl
  have yf1 := HY5.out.free 1
  have y2 := HY5.out.cell 2 rfl
  have yf2 := HY5.out.free 2
  have y3 := HY5.out.cell 3 rfl
  have yf3 := HY5.out.free 3
  have y4 := HY5.out.cell 4 rfl
  have yf4 := HY5.out.free 4
  have y5 := HY5.out.cell 5 rfl
  have yf5 := HY5.out.free 5
  have y6 := HY5.out.cell 6 rfl
  have yf6 := HY5.out.free 6
  have y7 := HY5.out.cell 7 rfl
  have yf7 := HY5.out.free 7
  have y8 := HY5.out.cell 8 rfl
  have yf8 := HY5.out.free 8
  have y9 := HY5.out.cell 9 rfl
  have yf9 := HY5.out.free 9
  have y10 := HY5.out.cell 10 rfl
  have yf10 := HY5.out.free 10
  have y11 := HY5.out.cell 11 rfl
  have yf11 := HY5.out.free 11
  have y12 := HY5.out.cell 12 rfl
  have yf12 := HY5.out.free 12
  have y13 := HY5.out.cell 13 rfl
  have yf13 := HY5.out.free 13
  have y14 := HY5.out.cell 14 rfl
  have yf14 := HY5.out.free 14
  go_wp2_with fail
  refine (tells_any k2 hi2 lo2 id2 par2 rv2 name2 nn stop2 bad2 A2 l2 n2 c2 key2 body2 weight2 at2 _ g1 g2 g3 g4 g5 HN2.out.symm (by omega) hq2 hq3 hq4 HA5.out).mono ?_
  rintro e w6 ⟨rfl, hb6⟩
  have HB6 := Lib.hid (HB5.out.trans (hb6.mono HB5.out.size))
  clear hb6
  go_wp2_with fail
  go_ret
  exact ⟨rfl, HB6.out⟩

set_option linter.unusedSimpArgs false in
set_option linter.unusedVariables false in
set_option maxRecDepth 100000 in
set_option maxHeartbeats 4000000 in
theorem bend_1 (k hi lo id par rv weight : Nat) (name key body : ByteArray) (start stop at_ : Int) (bad : Bool) (B : Option Addr) (l : List Attr) (ln lc : Nat) (A : Option Addr) (cs : List UInt8) (len cap how : Nat) (nn : Int) (s : ByteArray) (w : World)
    (hk : k < 256) (b1 : hi < 18446744073709551616) (b2 : lo < 18446744073709551616) (b3 : id < 18446744073709551616) (b4 : par < 18446744073709551616) (hn : l.length = ln) (hnm : ln ≤ lc) (hlc : lc ≤ 9223372036854775807) (hname : name.size ≤ 9223372036854775807) (hkey : key.size ≤ 9223372036854775807) (hbody : body.size ≤ 9223372036854775807) (hB : HoldsA w.heap.size w B l)
    (hlen : cs.length = len) (hl : len ≤ cap) (hcap : cap ≤ 9223372036854775807) (hr : Holds8 w.heap.size w A cs) (hhow : how < 256) (hnn : -9223372036854775808 ≤ nn ∧ nn ≤ 9223372036854775807) (hs : s.size ≤ 9223372036854775807) (h1 : ¬ 12 < ln) (h2 : ¬ 100 < s.size) (hm : how % 8 = 1) :
    Calls Try.prog 5 #[.agg #[.int .u8 (k : Int), .int .u64 (hi : Int), .int .u64 (lo : Int), .int .u64 (id : Int), .int .u64 (par : Int), .string name, .int .i64 start, .int .i64 stop, .bool bad, .slice B ln lc, .int .u64 (rv : Int), .string key, .int .u64 (weight : Int), .int .i64 at_, .string body], .slice A len cap, .int .u8 (how : Int), .int .i64 nn, .string s] w fun e w' => e = .returned (.bool true) ∧ Below w.heap.size w w' := by
  have d1 : decide ((12 : Int) < (ln : Int)) = false := by simp; omega
  have d2 : decide ((100 : Int) < (s.size : Int)) = false := by simp; omega
  have HBb := Lib.hid hB
  have HR := Lib.hid hr
  have hI := fun (W : World) (h : Below w.heap.size w W) => madeOwn_any A cs len cap W hlen hl hcap (hr.later h)
  have HI := Lib.hid hI
  have HN := Lib.hid hn
  clear hr hlen hI hB hn
  have hX0 : Below w.heap.size w (w.alloc (.cells #[.int .u8 (k : Int), .int .u64 (hi : Int), .int .u64 (lo : Int), .int .u64 (id : Int), .int .u64 (par : Int), .string name, .int .i64 start, .int .i64 stop, .bool bad, .slice B ln lc, .int .u64 (rv : Int), .string key, .int .u64 (weight : Int), .int .i64 at_, .string body] 38)) := (Below.refl _ _).alloc (Nat.le_refl _) _
  have HX0 := Lib.hid hX0
  have HXB := Lib.hid (blk_new w #[.int .u8 (k : Int), .int .u64 (hi : Int), .int .u64 (lo : Int), .int .u64 (id : Int), .int .u64 (par : Int), .string name, .int .i64 start, .int .i64 stop, .bool bad, .slice B ln lc, .int .u64 (rv : Int), .string key, .int .u64 (weight : Int), .int .i64 at_, .string body] 38)
  clear hX0
  go_enter Try.func5, Try.ntmps5
  go_wp2_with fail
  refine (known_any _).mono ?_
  rintro e w1 ⟨rfl, hb1⟩
  have HX1 := Lib.hid (HXB.out.same (hb1.block _ HXB.out.lt))
  have HB1 := Lib.hid (HX0.out.trans (hb1.mono (by simp)))
  have t0 : (how : Int).tmod 8 = (1 : Int) := by rw [Int.tmod_eq_emod_of_nonneg (by omega)]; omega
  clear hb1 HXB HX0 hm
  go_wp2_with fail
  refine (HI.out _ HB1.out).mono ?_
  rintro e w2 ⟨k2, hi2, lo2, id2, par2, rv2, weight2, name2, key2, body2, start2, stop2, at2, bad2, A2, l2, n2, c2, rfl, hq1, hq2, hq3, hq4, hn2, hn8, hal, hown, hb2⟩
  obtain ⟨g1, g2, g3, g4, g5⟩ := hq1
  have HX2 := Lib.hid (HX1.out.same (hb2.block _ HX1.out.lt))
  have HB2 := Lib.hid (HB1.out.trans (hb2.mono HB1.out.size))
  have HO2 := Lib.hid (lower_own hown HB1.out.size)
  have hgx : w.heap.size < w2.heap.size := HX2.out.lt
  have HN2 := Lib.hid hn2
  have HAL := Lib.hid hal
  clear hb2 hown hn2 hal HX1 HI HB1 HR
  have HX4 := Lib.hid (HX2.out.same (Below.heap_alloc w2 (.cells #[.int .u8 (k2 : Int), .int .u64 (hi2 : Int), .int .u64 (lo2 : Int), .int .u64 (id2 : Int), .int .u64 (par2 : Int), .string s, .int .i64 start2, .int .i64 stop2, .bool bad2, .slice A2 n2 c2, .int .u64 (rv2 : Int), .string key2, .int .u64 (weight2 : Int), .int .i64 at2, .string body2] 38) _ hgx))
  have HY4 := Lib.hid (blk_new w2 #[.int .u8 (k2 : Int), .int .u64 (hi2 : Int), .int .u64 (lo2 : Int), .int .u64 (id2 : Int), .int .u64 (par2 : Int), .string s, .int .i64 start2, .int .i64 stop2, .bool bad2, .slice A2 n2 c2, .int .u64 (rv2 : Int), .string key2, .int .u64 (weight2 : Int), .int .i64 at2, .string body2] 38)
  have HB4 := Lib.hid (HB2.out.alloc HB2.out.size (.cells #[.int .u8 (k2 : Int), .int .u64 (hi2 : Int), .int .u64 (lo2 : Int), .int .u64 (id2 : Int), .int .u64 (par2 : Int), .string s, .int .i64 start2, .int .i64 stop2, .bool bad2, .slice A2 n2 c2, .int .u64 (rv2 : Int), .string key2, .int .u64 (weight2 : Int), .int .i64 at2, .string body2] 38))
  have HA4 := Lib.hid (holdsA_own (HO2.out.alloc (.cells #[.int .u8 (k2 : Int), .int .u64 (hi2 : Int), .int .u64 (lo2 : Int), .int .u64 (id2 : Int), .int .u64 (par2 : Int), .string s, .int .i64 start2, .int .i64 stop2, .bool bad2, .slice A2 n2 c2, .int .u64 (rv2 : Int), .string key2, .int .u64 (weight2 : Int), .int .i64 at2, .string body2] 38)) HN2.out HAL.out)
  clear HX2 HB2 HO2
  have x0 := HX4.out.cell 0 rfl
  have xf0 := HX4.out.free 0
  have x1 := HX4.out.cell 1 rfl
  have xf1 := HX4.out.free 1
  have x2 := HX4.out.cell 2 rfl
  have xf2 := HX4.out.free 2
  have x3 := HX4.out.cell 3 rfl
  have xf3 := HX4.out.free 3
  have x4 := HX4.out.cell 4 rfl
  have xf4 := HX4.out.free 4
  have x5 := HX4.out.cell 5 rfl
  have xf5 := HX4.out.free 5
  have x6 := HX4.out.cell 6 rfl
  have xf6 := HX4.out.free 6
  have x7 := HX4.out.cell 7 rfl
  have xf7 := HX4.out.free 7
  have x8 := HX4.out.cell 8 rfl
  have xf8 := HX4.out.free 8
  have x9 := HX4.out.cell 9 rfl
  have xf9 := HX4.out.free 9
  have x10 := HX4.out.cell 10 rfl
  have xf10 := HX4.out.free 10
  have x11 := HX4.out.cell 11 rfl
  have xf11 := HX4.out.free 11
  have x12 := HX4.out.cell 12 rfl
  have xf12 := HX4.out.free 12
  have x13 := HX4.out.cell 13 rfl
  have xf13 := HX4.out.free 13
  have x14 := HX4.out.cell 14 rfl
  have xf14 := HX4.out.free 14
  go_wp2_with fail
  refine (tells_any k hi lo id par rv name start stop bad B l ln lc key body weight at_ _ hk b1 b2 b3 b4 HN.out (by omega) hname hkey hbody (HBb.out.later HB4.out)).mono ?_
  rintro e w5 ⟨rfl, hb5⟩
  have HY5 := Lib.hid (HY4.out.same (hb5.block _ HY4.out.lt))
  have HA5 := Lib.hid (HA4.out.later hb5)
  have HB5 := Lib.hid (HB4.out.trans (hb5.mono HB4.out.size))
  clear hb5
  have y0 := HY5.out.cell 0 rfl
  have yf0 := HY5.out.free 0
  have y1 := HY5.out.cell 1 rfl
  have yf1 := HY5.out.free 1
  have y2 := HY5.out.cell 2 rfl
  have yf2 := HY5.out.free 2
  have y3 := HY5.out.cell 3 rfl
  have yf3 := HY5.out.free 3
  have y4 := HY5.out.cell 4 rfl
  have yf4 := HY5.out.free 4
  have y5 := HY5.out.cell 5 rfl
  have yf5 := HY5.out.free 5
  have y6 := HY5.out.cell 6 rfl
  have yf6 := HY5.out.free 6
  have y7 := HY5.out.cell 7 rfl
  have yf7 := HY5.out.free 7
  have y8 := HY5.out.cell 8 rfl
  have yf8 := HY5.out.free 8
  have y9 := HY5.out.cell 9 rfl
  have yf9 := HY5.out.free 9
  have y10 := HY5.out.cell 10 rfl
  have yf10 := HY5.out.free 10
  have y11 := HY5.out.cell 11 rfl
  have yf11 := HY5.out.free 11
  have y12 := HY5.out.cell 12 rfl
  have yf12 := HY5.out.free 12
  have y13 := HY5.out.cell 13 rfl
  have yf13 := HY5.out.free 13
  have y14 := HY5.out.cell 14 rfl
  have yf14 := HY5.out.free 14
  go_wp2_with fail
  refine (tells_any k2 hi2 lo2 id2 par2 rv2 s start2 stop2 bad2 A2 l2 n2 c2 key2 body2 weight2 at2 _ g1 g2 g3 g4 g5 HN2.out.symm (by omega) hs hq3 hq4 HA5.out).mono ?_
  rintro e w6 ⟨rfl, hb6⟩
  have HB6 := Lib.hid (HB5.out.trans (hb6.mono HB5.out.size))
  clear hb6
  go_wp2_with fail
  go_ret
  exact ⟨rfl, HB6.out⟩

set_option linter.unusedSimpArgs false in
set_option linter.unusedVariables false in
set_option maxRecDepth 100000 in
set_option maxHeartbeats 4000000 in
theorem bend_2 (k hi lo id par rv weight : Nat) (name key body : ByteArray) (start stop at_ : Int) (bad : Bool) (B : Option Addr) (l : List Attr) (ln lc : Nat) (A : Option Addr) (cs : List UInt8) (len cap how : Nat) (nn : Int) (s : ByteArray) (w : World)
    (hk : k < 256) (b1 : hi < 18446744073709551616) (b2 : lo < 18446744073709551616) (b3 : id < 18446744073709551616) (b4 : par < 18446744073709551616) (hn : l.length = ln) (hnm : ln ≤ lc) (hlc : lc ≤ 9223372036854775807) (hname : name.size ≤ 9223372036854775807) (hkey : key.size ≤ 9223372036854775807) (hbody : body.size ≤ 9223372036854775807) (hB : HoldsA w.heap.size w B l)
    (hlen : cs.length = len) (hl : len ≤ cap) (hcap : cap ≤ 9223372036854775807) (hr : Holds8 w.heap.size w A cs) (hhow : how < 256) (hnn : -9223372036854775808 ≤ nn ∧ nn ≤ 9223372036854775807) (hs : s.size ≤ 9223372036854775807) (h1 : ¬ 12 < ln) (h2 : ¬ 100 < s.size) (hm : how % 8 = 2) :
    Calls Try.prog 5 #[.agg #[.int .u8 (k : Int), .int .u64 (hi : Int), .int .u64 (lo : Int), .int .u64 (id : Int), .int .u64 (par : Int), .string name, .int .i64 start, .int .i64 stop, .bool bad, .slice B ln lc, .int .u64 (rv : Int), .string key, .int .u64 (weight : Int), .int .i64 at_, .string body], .slice A len cap, .int .u8 (how : Int), .int .i64 nn, .string s] w fun e w' => e = .returned (.bool true) ∧ Below w.heap.size w w' := by
  have d1 : decide ((12 : Int) < (ln : Int)) = false := by simp; omega
  have d2 : decide ((100 : Int) < (s.size : Int)) = false := by simp; omega
  have HBb := Lib.hid hB
  have HR := Lib.hid hr
  have hI := fun (W : World) (h : Below w.heap.size w W) => madeOwn_any A cs len cap W hlen hl hcap (hr.later h)
  have HI := Lib.hid hI
  have HN := Lib.hid hn
  clear hr hlen hI hB hn
  have hX0 : Below w.heap.size w (w.alloc (.cells #[.int .u8 (k : Int), .int .u64 (hi : Int), .int .u64 (lo : Int), .int .u64 (id : Int), .int .u64 (par : Int), .string name, .int .i64 start, .int .i64 stop, .bool bad, .slice B ln lc, .int .u64 (rv : Int), .string key, .int .u64 (weight : Int), .int .i64 at_, .string body] 38)) := (Below.refl _ _).alloc (Nat.le_refl _) _
  have HX0 := Lib.hid hX0
  have HXB := Lib.hid (blk_new w #[.int .u8 (k : Int), .int .u64 (hi : Int), .int .u64 (lo : Int), .int .u64 (id : Int), .int .u64 (par : Int), .string name, .int .i64 start, .int .i64 stop, .bool bad, .slice B ln lc, .int .u64 (rv : Int), .string key, .int .u64 (weight : Int), .int .i64 at_, .string body] 38)
  clear hX0
  go_enter Try.func5, Try.ntmps5
  go_wp2_with fail
  refine (known_any _).mono ?_
  rintro e w1 ⟨rfl, hb1⟩
  have HX1 := Lib.hid (HXB.out.same (hb1.block _ HXB.out.lt))
  have HB1 := Lib.hid (HX0.out.trans (hb1.mono (by simp)))
  have t0 : (how : Int).tmod 8 = (2 : Int) := by rw [Int.tmod_eq_emod_of_nonneg (by omega)]; omega
  clear hb1 HXB HX0 hm
  go_wp2_with fail
  refine (HI.out _ HB1.out).mono ?_
  rintro e w2 ⟨k2, hi2, lo2, id2, par2, rv2, weight2, name2, key2, body2, start2, stop2, at2, bad2, A2, l2, n2, c2, rfl, hq1, hq2, hq3, hq4, hn2, hn8, hal, hown, hb2⟩
  obtain ⟨g1, g2, g3, g4, g5⟩ := hq1
  have HX2 := Lib.hid (HX1.out.same (hb2.block _ HX1.out.lt))
  have HB2 := Lib.hid (HB1.out.trans (hb2.mono HB1.out.size))
  have HO2 := Lib.hid (lower_own hown HB1.out.size)
  have hgx : w.heap.size < w2.heap.size := HX2.out.lt
  have HN2 := Lib.hid hn2
  have HAL := Lib.hid hal
  clear hb2 hown hn2 hal HX1 HI HB1 HR
  have HX4 := Lib.hid (HX2.out.same (Below.heap_alloc w2 (.cells #[.int .u8 (k2 : Int), .int .u64 (hi2 : Int), .int .u64 (lo2 : Int), .int .u64 (id2 : Int), .int .u64 (par2 : Int), .string name2, .int .i64 start2, .int .i64 stop2, .bool bad2, .slice A2 n2 c2, .int .u64 (rv2 : Int), .string key2, .int .u64 (weight2 : Int), .int .i64 at2, .string s] 38) _ hgx))
  have HY4 := Lib.hid (blk_new w2 #[.int .u8 (k2 : Int), .int .u64 (hi2 : Int), .int .u64 (lo2 : Int), .int .u64 (id2 : Int), .int .u64 (par2 : Int), .string name2, .int .i64 start2, .int .i64 stop2, .bool bad2, .slice A2 n2 c2, .int .u64 (rv2 : Int), .string key2, .int .u64 (weight2 : Int), .int .i64 at2, .string s] 38)
  have HB4 := Lib.hid (HB2.out.alloc HB2.out.size (.cells #[.int .u8 (k2 : Int), .int .u64 (hi2 : Int), .int .u64 (lo2 : Int), .int .u64 (id2 : Int), .int .u64 (par2 : Int), .string name2, .int .i64 start2, .int .i64 stop2, .bool bad2, .slice A2 n2 c2, .int .u64 (rv2 : Int), .string key2, .int .u64 (weight2 : Int), .int .i64 at2, .string s] 38))
  have HA4 := Lib.hid (holdsA_own (HO2.out.alloc (.cells #[.int .u8 (k2 : Int), .int .u64 (hi2 : Int), .int .u64 (lo2 : Int), .int .u64 (id2 : Int), .int .u64 (par2 : Int), .string name2, .int .i64 start2, .int .i64 stop2, .bool bad2, .slice A2 n2 c2, .int .u64 (rv2 : Int), .string key2, .int .u64 (weight2 : Int), .int .i64 at2, .string s] 38)) HN2.out HAL.out)
  clear HX2 HB2 HO2
  have x0 := HX4.out.cell 0 rfl
  have xf0 := HX4.out.free 0
  have x1 := HX4.out.cell 1 rfl
  have xf1 := HX4.out.free 1
  have x2 := HX4.out.cell 2 rfl
  have xf2 := HX4.out.free 2
  have x3 := HX4.out.cell 3 rfl
  have xf3 := HX4.out.free 3
  have x4 := HX4.out.cell 4 rfl
  have xf4 := HX4.out.free 4
  have x5 := HX4.out.cell 5 rfl
  have xf5 := HX4.out.free 5
  have x6 := HX4.out.cell 6 rfl
  have xf6 := HX4.out.free 6
  have x7 := HX4.out.cell 7 rfl
  have xf7 := HX4.out.free 7
  have x8 := HX4.out.cell 8 rfl
  have xf8 := HX4.out.free 8
  have x9 := HX4.out.cell 9 rfl
  have xf9 := HX4.out.free 9
  have x10 := HX4.out.cell 10 rfl
  have xf10 := HX4.out.free 10
  have x11 := HX4.out.cell 11 rfl
  have xf11 := HX4.out.free 11
  have x12 := HX4.out.cell 12 rfl
  have xf12 := HX4.out.free 12
  have x13 := HX4.out.cell 13 rfl
  have xf13 := HX4.out.free 13
  have x14 := HX4.out.cell 14 rfl
  have xf14 := HX4.out.free 14
  go_wp2_with fail
  refine (tells_any k hi lo id par rv name start stop bad B l ln lc key body weight at_ _ hk b1 b2 b3 b4 HN.out (by omega) hname hkey hbody (HBb.out.later HB4.out)).mono ?_
  rintro e w5 ⟨rfl, hb5⟩
  have HY5 := Lib.hid (HY4.out.same (hb5.block _ HY4.out.lt))
  have HA5 := Lib.hid (HA4.out.later hb5)
  have HB5 := Lib.hid (HB4.out.trans (hb5.mono HB4.out.size))
  clear hb5
  have y0 := HY5.out.cell 0 rfl
  have yf0 := HY5.out.free 0
  have y1 := HY5.out.cell 1 rfl
  have yf1 := HY5.out.free 1
  have y2 := HY5.out.cell 2 rfl
  have yf2 := HY5.out.free 2
  have y3 := HY5.out.cell 3 rfl
  have yf3 := HY5.out.free 3
  have y4 := HY5.out.cell 4 rfl
  have yf4 := HY5.out.free 4
  have y5 := HY5.out.cell 5 rfl
  have yf5 := HY5.out.free 5
  have y6 := HY5.out.cell 6 rfl
  have yf6 := HY5.out.free 6
  have y7 := HY5.out.cell 7 rfl
  have yf7 := HY5.out.free 7
  have y8 := HY5.out.cell 8 rfl
  have yf8 := HY5.out.free 8
  have y9 := HY5.out.cell 9 rfl
  have yf9 := HY5.out.free 9
  have y10 := HY5.out.cell 10 rfl
  have yf10 := HY5.out.free 10
  have y11 := HY5.out.cell 11 rfl
  have yf11 := HY5.out.free 11
  have y12 := HY5.out.cell 12 rfl
  have yf12 := HY5.out.free 12
  have y13 := HY5.out.cell 13 rfl
  have yf13 := HY5.out.free 13
  have y14 := HY5.out.cell 14 rfl
  have yf14 := HY5.out.free 14
  go_wp2_with fail
  refine (tells_any k2 hi2 lo2 id2 par2 rv2 name2 start2 stop2 bad2 A2 l2 n2 c2 key2 s weight2 at2 _ g1 g2 g3 g4 g5 HN2.out.symm (by omega) hq2 hq3 hs HA5.out).mono ?_
  rintro e w6 ⟨rfl, hb6⟩
  have HB6 := Lib.hid (HB5.out.trans (hb6.mono HB5.out.size))
  clear hb6
  go_wp2_with fail
  go_ret
  exact ⟨rfl, HB6.out⟩

set_option linter.unusedSimpArgs false in
set_option linter.unusedVariables false in
set_option maxRecDepth 100000 in
set_option maxHeartbeats 4000000 in
theorem bend_3 (k hi lo id par rv weight : Nat) (name key body : ByteArray) (start stop at_ : Int) (bad : Bool) (B : Option Addr) (l : List Attr) (ln lc : Nat) (A : Option Addr) (cs : List UInt8) (len cap how : Nat) (nn : Int) (s : ByteArray) (w : World)
    (hk : k < 256) (b1 : hi < 18446744073709551616) (b2 : lo < 18446744073709551616) (b3 : id < 18446744073709551616) (b4 : par < 18446744073709551616) (hn : l.length = ln) (hnm : ln ≤ lc) (hlc : lc ≤ 9223372036854775807) (hname : name.size ≤ 9223372036854775807) (hkey : key.size ≤ 9223372036854775807) (hbody : body.size ≤ 9223372036854775807) (hB : HoldsA w.heap.size w B l)
    (hlen : cs.length = len) (hl : len ≤ cap) (hcap : cap ≤ 9223372036854775807) (hr : Holds8 w.heap.size w A cs) (hhow : how < 256) (hnn : -9223372036854775808 ≤ nn ∧ nn ≤ 9223372036854775807) (hs : s.size ≤ 9223372036854775807) (h1 : ¬ 12 < ln) (h2 : ¬ 100 < s.size) (hm : how % 8 = 3) :
    Calls Try.prog 5 #[.agg #[.int .u8 (k : Int), .int .u64 (hi : Int), .int .u64 (lo : Int), .int .u64 (id : Int), .int .u64 (par : Int), .string name, .int .i64 start, .int .i64 stop, .bool bad, .slice B ln lc, .int .u64 (rv : Int), .string key, .int .u64 (weight : Int), .int .i64 at_, .string body], .slice A len cap, .int .u8 (how : Int), .int .i64 nn, .string s] w fun e w' => e = .returned (.bool true) ∧ Below w.heap.size w w' := by
  have d1 : decide ((12 : Int) < (ln : Int)) = false := by simp; omega
  have d2 : decide ((100 : Int) < (s.size : Int)) = false := by simp; omega
  have HBb := Lib.hid hB
  have HR := Lib.hid hr
  have hI := fun (W : World) (h : Below w.heap.size w W) => madeOwn_any A cs len cap W hlen hl hcap (hr.later h)
  have HI := Lib.hid hI
  have HN := Lib.hid hn
  clear hr hlen hI hB hn
  have hX0 : Below w.heap.size w (w.alloc (.cells #[.int .u8 (k : Int), .int .u64 (hi : Int), .int .u64 (lo : Int), .int .u64 (id : Int), .int .u64 (par : Int), .string name, .int .i64 start, .int .i64 stop, .bool bad, .slice B ln lc, .int .u64 (rv : Int), .string key, .int .u64 (weight : Int), .int .i64 at_, .string body] 38)) := (Below.refl _ _).alloc (Nat.le_refl _) _
  have HX0 := Lib.hid hX0
  have HXB := Lib.hid (blk_new w #[.int .u8 (k : Int), .int .u64 (hi : Int), .int .u64 (lo : Int), .int .u64 (id : Int), .int .u64 (par : Int), .string name, .int .i64 start, .int .i64 stop, .bool bad, .slice B ln lc, .int .u64 (rv : Int), .string key, .int .u64 (weight : Int), .int .i64 at_, .string body] 38)
  clear hX0
  go_enter Try.func5, Try.ntmps5
  go_wp2_with fail
  refine (known_any _).mono ?_
  rintro e w1 ⟨rfl, hb1⟩
  have HX1 := Lib.hid (HXB.out.same (hb1.block _ HXB.out.lt))
  have HB1 := Lib.hid (HX0.out.trans (hb1.mono (by simp)))
  have t0 : (how : Int).tmod 8 = (3 : Int) := by rw [Int.tmod_eq_emod_of_nonneg (by omega)]; omega
  clear hb1 HXB HX0 hm
  go_wp2_with fail
  refine (HI.out _ HB1.out).mono ?_
  rintro e w2 ⟨k2, hi2, lo2, id2, par2, rv2, weight2, name2, key2, body2, start2, stop2, at2, bad2, A2, l2, n2, c2, rfl, hq1, hq2, hq3, hq4, hn2, hn8, hal, hown, hb2⟩
  obtain ⟨g1, g2, g3, g4, g5⟩ := hq1
  have HX2 := Lib.hid (HX1.out.same (hb2.block _ HX1.out.lt))
  have HB2 := Lib.hid (HB1.out.trans (hb2.mono HB1.out.size))
  have HO2 := Lib.hid (lower_own hown HB1.out.size)
  have hgx : w.heap.size < w2.heap.size := HX2.out.lt
  have HN2 := Lib.hid hn2
  have HAL := Lib.hid hal
  clear hb2 hown hn2 hal HX1 HI HB1 HR
  obtain ⟨u, hu0, hu⟩ : ∃ u : Nat, IntKind.u64.wrap nn = (u : Int) ∧ u < 18446744073709551616 := ⟨(nn % 18446744073709551616).toNat, by rw [show IntKind.u64.wrap nn = nn % 18446744073709551616 by simp [IntKind.wrap, IntKind.bits, IntKind.signed]]; omega, by omega⟩
  have HX4 := Lib.hid (HX2.out.same (Below.heap_alloc w2 (.cells #[.int .u8 (k2 : Int), .int .u64 (hi2 : Int), .int .u64 (lo2 : Int), .int .u64 (id2 : Int), .int .u64 (par2 : Int), .string name2, .int .i64 start2, .int .i64 stop2, .bool bad2, .slice A2 n2 c2, .int .u64 (rv2 : Int), .string key2, .int .u64 (u : Int), .int .i64 at2, .string body2] 38) _ hgx))
  have HY4 := Lib.hid (blk_new w2 #[.int .u8 (k2 : Int), .int .u64 (hi2 : Int), .int .u64 (lo2 : Int), .int .u64 (id2 : Int), .int .u64 (par2 : Int), .string name2, .int .i64 start2, .int .i64 stop2, .bool bad2, .slice A2 n2 c2, .int .u64 (rv2 : Int), .string key2, .int .u64 (u : Int), .int .i64 at2, .string body2] 38)
  have HB4 := Lib.hid (HB2.out.alloc HB2.out.size (.cells #[.int .u8 (k2 : Int), .int .u64 (hi2 : Int), .int .u64 (lo2 : Int), .int .u64 (id2 : Int), .int .u64 (par2 : Int), .string name2, .int .i64 start2, .int .i64 stop2, .bool bad2, .slice A2 n2 c2, .int .u64 (rv2 : Int), .string key2, .int .u64 (u : Int), .int .i64 at2, .string body2] 38))
  have HA4 := Lib.hid (holdsA_own (HO2.out.alloc (.cells #[.int .u8 (k2 : Int), .int .u64 (hi2 : Int), .int .u64 (lo2 : Int), .int .u64 (id2 : Int), .int .u64 (par2 : Int), .string name2, .int .i64 start2, .int .i64 stop2, .bool bad2, .slice A2 n2 c2, .int .u64 (rv2 : Int), .string key2, .int .u64 (u : Int), .int .i64 at2, .string body2] 38)) HN2.out HAL.out)
  clear HX2 HB2 HO2
  have x0 := HX4.out.cell 0 rfl
  have xf0 := HX4.out.free 0
  have x1 := HX4.out.cell 1 rfl
  have xf1 := HX4.out.free 1
  have x2 := HX4.out.cell 2 rfl
  have xf2 := HX4.out.free 2
  have x3 := HX4.out.cell 3 rfl
  have xf3 := HX4.out.free 3
  have x4 := HX4.out.cell 4 rfl
  have xf4 := HX4.out.free 4
  have x5 := HX4.out.cell 5 rfl
  have xf5 := HX4.out.free 5
  have x6 := HX4.out.cell 6 rfl
  have xf6 := HX4.out.free 6
  have x7 := HX4.out.cell 7 rfl
  have xf7 := HX4.out.free 7
  have x8 := HX4.out.cell 8 rfl
  have xf8 := HX4.out.free 8
  have x9 := HX4.out.cell 9 rfl
  have xf9 := HX4.out.free 9
  have x10 := HX4.out.cell 10 rfl
  have xf10 := HX4.out.free 10
  have x11 := HX4.out.cell 11 rfl
  have xf11 := HX4.out.free 11
  have x12 := HX4.out.cell 12 rfl
  have xf12 := HX4.out.free 12
  have x13 := HX4.out.cell 13 rfl
  have xf13 := HX4.out.free 13
  have x14 := HX4.out.cell 14 rfl
  have xf14 := HX4.out.free 14
  go_wp2_with fail
  refine (tells_any k hi lo id par rv name start stop bad B l ln lc key body weight at_ _ hk b1 b2 b3 b4 HN.out (by omega) hname hkey hbody (HBb.out.later HB4.out)).mono ?_
  rintro e w5 ⟨rfl, hb5⟩
  have HY5 := Lib.hid (HY4.out.same (hb5.block _ HY4.out.lt))
  have HA5 := Lib.hid (HA4.out.later hb5)
  have HB5 := Lib.hid (HB4.out.trans (hb5.mono HB4.out.size))
  clear hb5
  have y0 := HY5.out.cell 0 rfl
  have yf0 := HY5.out.free 0
  have y1 := HY5.out.cell 1 rfl
  have yf1 := HY5.out.free 1
  have y2 := HY5.out.cell 2 rfl
  have yf2 := HY5.out.free 2
  have y3 := HY5.out.cell 3 rfl
  have yf3 := HY5.out.free 3
  have y4 := HY5.out.cell 4 rfl
  have yf4 := HY5.out.free 4
  have y5 := HY5.out.cell 5 rfl
  have yf5 := HY5.out.free 5
  have y6 := HY5.out.cell 6 rfl
  have yf6 := HY5.out.free 6
  have y7 := HY5.out.cell 7 rfl
  have yf7 := HY5.out.free 7
  have y8 := HY5.out.cell 8 rfl
  have yf8 := HY5.out.free 8
  have y9 := HY5.out.cell 9 rfl
  have yf9 := HY5.out.free 9
  have y10 := HY5.out.cell 10 rfl
  have yf10 := HY5.out.free 10
  have y11 := HY5.out.cell 11 rfl
  have yf11 := HY5.out.free 11
  have y12 := HY5.out.cell 12 rfl
  have yf12 := HY5.out.free 12
  have y13 := HY5.out.cell 13 rfl
  have yf13 := HY5.out.free 13
  have y14 := HY5.out.cell 14 rfl
  have yf14 := HY5.out.free 14
  go_wp2_with fail
  refine (tells_any k2 hi2 lo2 id2 par2 rv2 name2 start2 stop2 bad2 A2 l2 n2 c2 key2 body2 u at2 _ g1 g2 g3 g4 g5 HN2.out.symm (by omega) hq2 hq3 hq4 HA5.out).mono ?_
  rintro e w6 ⟨rfl, hb6⟩
  have HB6 := Lib.hid (HB5.out.trans (hb6.mono HB5.out.size))
  clear hb6
  go_wp2_with fail
  go_ret
  exact ⟨rfl, HB6.out⟩

set_option linter.unusedSimpArgs false in
set_option linter.unusedVariables false in
set_option maxRecDepth 100000 in
set_option maxHeartbeats 4000000 in
theorem bend_4 (k hi lo id par rv weight : Nat) (name key body : ByteArray) (start stop at_ : Int) (bad : Bool) (B : Option Addr) (l : List Attr) (ln lc : Nat) (A : Option Addr) (cs : List UInt8) (len cap how : Nat) (nn : Int) (s : ByteArray) (w : World)
    (hk : k < 256) (b1 : hi < 18446744073709551616) (b2 : lo < 18446744073709551616) (b3 : id < 18446744073709551616) (b4 : par < 18446744073709551616) (hn : l.length = ln) (hnm : ln ≤ lc) (hlc : lc ≤ 9223372036854775807) (hname : name.size ≤ 9223372036854775807) (hkey : key.size ≤ 9223372036854775807) (hbody : body.size ≤ 9223372036854775807) (hB : HoldsA w.heap.size w B l)
    (hlen : cs.length = len) (hl : len ≤ cap) (hcap : cap ≤ 9223372036854775807) (hr : Holds8 w.heap.size w A cs) (hhow : how < 256) (hnn : -9223372036854775808 ≤ nn ∧ nn ≤ 9223372036854775807) (hs : s.size ≤ 9223372036854775807) (h1 : ¬ 12 < ln) (h2 : ¬ 100 < s.size) (hm : how % 8 = 4) :
    Calls Try.prog 5 #[.agg #[.int .u8 (k : Int), .int .u64 (hi : Int), .int .u64 (lo : Int), .int .u64 (id : Int), .int .u64 (par : Int), .string name, .int .i64 start, .int .i64 stop, .bool bad, .slice B ln lc, .int .u64 (rv : Int), .string key, .int .u64 (weight : Int), .int .i64 at_, .string body], .slice A len cap, .int .u8 (how : Int), .int .i64 nn, .string s] w fun e w' => e = .returned (.bool true) ∧ Below w.heap.size w w' := by
  have d1 : decide ((12 : Int) < (ln : Int)) = false := by simp; omega
  have d2 : decide ((100 : Int) < (s.size : Int)) = false := by simp; omega
  have HBb := Lib.hid hB
  have HR := Lib.hid hr
  have hI := fun (W : World) (h : Below w.heap.size w W) => madeOwn_any A cs len cap W hlen hl hcap (hr.later h)
  have HI := Lib.hid hI
  have HN := Lib.hid hn
  clear hr hlen hI hB hn
  have hX0 : Below w.heap.size w (w.alloc (.cells #[.int .u8 (k : Int), .int .u64 (hi : Int), .int .u64 (lo : Int), .int .u64 (id : Int), .int .u64 (par : Int), .string name, .int .i64 start, .int .i64 stop, .bool bad, .slice B ln lc, .int .u64 (rv : Int), .string key, .int .u64 (weight : Int), .int .i64 at_, .string body] 38)) := (Below.refl _ _).alloc (Nat.le_refl _) _
  have HX0 := Lib.hid hX0
  have HXB := Lib.hid (blk_new w #[.int .u8 (k : Int), .int .u64 (hi : Int), .int .u64 (lo : Int), .int .u64 (id : Int), .int .u64 (par : Int), .string name, .int .i64 start, .int .i64 stop, .bool bad, .slice B ln lc, .int .u64 (rv : Int), .string key, .int .u64 (weight : Int), .int .i64 at_, .string body] 38)
  clear hX0
  go_enter Try.func5, Try.ntmps5
  go_wp2_with fail
  refine (known_any _).mono ?_
  rintro e w1 ⟨rfl, hb1⟩
  have HX1 := Lib.hid (HXB.out.same (hb1.block _ HXB.out.lt))
  have HB1 := Lib.hid (HX0.out.trans (hb1.mono (by simp)))
  have t0 : (how : Int).tmod 8 = (4 : Int) := by rw [Int.tmod_eq_emod_of_nonneg (by omega)]; omega
  clear hb1 HXB HX0 hm
  go_wp2_with fail
  refine (HI.out _ HB1.out).mono ?_
  rintro e w2 ⟨k2, hi2, lo2, id2, par2, rv2, weight2, name2, key2, body2, start2, stop2, at2, bad2, A2, l2, n2, c2, rfl, hq1, hq2, hq3, hq4, hn2, hn8, hal, hown, hb2⟩
  obtain ⟨g1, g2, g3, g4, g5⟩ := hq1
  have HX2 := Lib.hid (HX1.out.same (hb2.block _ HX1.out.lt))
  have HB2 := Lib.hid (HB1.out.trans (hb2.mono HB1.out.size))
  have HO2 := Lib.hid (lower_own hown HB1.out.size)
  have hgx : w.heap.size < w2.heap.size := HX2.out.lt
  have HN2 := Lib.hid hn2
  have HAL := Lib.hid hal
  clear hb2 hown hn2 hal HX1 HI HB1 HR
  obtain ⟨i1, ha0, ha1, ha2, ha3⟩ := info_parts info_attr
  have HX3 := Lib.hid (HX2.out.same (Below.heap_alloc w2 (.cells #[.int .u8 (k2 : Int), .int .u64 (hi2 : Int), .int .u64 (lo2 : Int), .int .u64 (id2 : Int), .int .u64 (par2 : Int), .string name2, .int .i64 start2, .int .i64 stop2, .bool bad2, .slice A2 n2 c2, .int .u64 (rv2 : Int), .string key2, .int .u64 (weight2 : Int), .int .i64 at2, .string body2] 38) _ hgx))
  have HY3 := Lib.hid (blk_new w2 #[.int .u8 (k2 : Int), .int .u64 (hi2 : Int), .int .u64 (lo2 : Int), .int .u64 (id2 : Int), .int .u64 (par2 : Int), .string name2, .int .i64 start2, .int .i64 stop2, .bool bad2, .slice A2 n2 c2, .int .u64 (rv2 : Int), .string key2, .int .u64 (weight2 : Int), .int .i64 at2, .string body2] 38)
  have HO3 := Lib.hid (HO2.out.alloc (.cells #[.int .u8 (k2 : Int), .int .u64 (hi2 : Int), .int .u64 (lo2 : Int), .int .u64 (id2 : Int), .int .u64 (par2 : Int), .string name2, .int .i64 start2, .int .i64 stop2, .bool bad2, .slice A2 n2 c2, .int .u64 (rv2 : Int), .string key2, .int .u64 (weight2 : Int), .int .i64 at2, .string body2] 38))
  go_wp2_with (at_builtin; refine wpList_append_lies _ rfl _ _ 24 rfl w.heap.size 36 i1 (.agg #[.string ⟨#[]⟩, .string ⟨#[]⟩]) 2 32 Try.underlying24 ha0 ha1 ha2 ha3 rfl (by decide) (.slice A2 n2 c2) n2 (aCells l2) rfl (HO3.out.alloc _) ⟨w2.heap.size + 1, 0, none⟩ 1 1 [.string s, .string s] rfl rfl (new_pair_at (w2.alloc (.cells #[.int .u8 (k2 : Int), .int .u64 (hi2 : Int), .int .u64 (lo2 : Int), .int .u64 (id2 : Int), .int .u64 (par2 : Int), .string name2, .int .i64 start2, .int .i64 stop2, .bool bad2, .slice A2 n2 c2, .int .u64 (rv2 : Int), .string key2, .int .u64 (weight2 : Int), .int .i64 at2, .string body2] 38)) (w2.heap.size + 1) (by simp) _ _ _) (by simp [Value.oneCell']) (by decide) (by unfold maxLen; omega) (by omega) (by simp; omega) (w2.heap.size + 2) (by simp) ?_; intro gg c3 w4 hown4 hgr4 hor4 hlt4; have HY4 := Lib.hid ((HY3.out.same (Below.heap_alloc (w2.alloc (.cells #[.int .u8 (k2 : Int), .int .u64 (hi2 : Int), .int .u64 (lo2 : Int), .int .u64 (id2 : Int), .int .u64 (par2 : Int), .string name2, .int .i64 start2, .int .i64 stop2, .bool bad2, .slice A2 n2 c2, .int .u64 (rv2 : Int), .string key2, .int .u64 (weight2 : Int), .int .i64 at2, .string body2] 38)) (.cells #[.string s, .string s] 36) _ (by simp))).same (grown_at hgr4 (by simp; omega) (own_apart2 HO3.out HY3.out (by decide)))); have HX4 := Lib.hid ((HX3.out.same (Below.heap_alloc (w2.alloc (.cells #[.int .u8 (k2 : Int), .int .u64 (hi2 : Int), .int .u64 (lo2 : Int), .int .u64 (id2 : Int), .int .u64 (par2 : Int), .string name2, .int .i64 start2, .int .i64 stop2, .bool bad2, .slice A2 n2 c2, .int .u64 (rv2 : Int), .string key2, .int .u64 (weight2 : Int), .int .i64 at2, .string body2] 38)) (.cells #[.string s, .string s] 36) _ (by simp; omega))).same (grown_at hgr4 (by simp; omega) (own_apart2 HO3.out HX3.out (by decide)))); have HB4 := Lib.hid (((HB2.out.alloc HB2.out.size (.cells #[.int .u8 (k2 : Int), .int .u64 (hi2 : Int), .int .u64 (lo2 : Int), .int .u64 (id2 : Int), .int .u64 (par2 : Int), .string name2, .int .i64 start2, .int .i64 stop2, .bool bad2, .slice A2 n2 c2, .int .u64 (rv2 : Int), .string key2, .int .u64 (weight2 : Int), .int .i64 at2, .string body2] 38)).alloc (by simp; omega) (.cells #[.string s, .string s] 36)).grown hgr4 (by simp; omega) (fun b hb => by rcases HO3.out.2 with ⟨e, _⟩ | ⟨g', _, _, e, hg', _⟩; (rw [e] at hb; simp [Value.ownBlock] at hb); (rw [e] at hb; simp [Value.ownBlock] at hb; omega))); have HO4 := Lib.hid hown4; have z9 := HY4.out.cell 9 rfl; have zf9 := HY4.out.free 9; have HX5 := Lib.hid (HX4.out.same (((Below.refl (w.heap.size + 1) w4).setCell (p := ⟨w2.heap.size, 9, none⟩) (by show _ ≤ w2.heap.size; omega) (.slice (some ⟨gg, 0, none⟩) (n2 + 1) c3)).block _ (Nat.lt_succ_self _))); have HY5 : Hid (Blk (w4.setCell ⟨w2.heap.size, 9, none⟩ (.slice (some ⟨gg, 0, none⟩) (n2 + 1) c3)) w2.heap.size #[.int .u8 (k2 : Int), .int .u64 (hi2 : Int), .int .u64 (lo2 : Int), .int .u64 (id2 : Int), .int .u64 (par2 : Int), .string name2, .int .i64 start2, .int .i64 stop2, .bool bad2, .slice (some ⟨gg, 0, none⟩) (n2 + 1) c3, .int .u64 (rv2 : Int), .string key2, .int .u64 (weight2 : Int), .int .i64 at2, .string body2] 38) := Lib.hid (HY4.out.set 9 _); have HBX := Lib.hid (HB4.out.setCell (p := ⟨w2.heap.size, 9, none⟩) (by show _ ≤ w2.heap.size; omega) (.slice (some ⟨gg, 0, none⟩) (n2 + 1) c3)); have HAX := Lib.hid (holdsA_own (l := l2 ++ [(s, s)]) (by rw [aCells_app2]; exact ownsRow_setCell_other HO4.out (a := ⟨w2.heap.size, 9, none⟩) (own_apart2 HO4.out HY4.out (by decide)) (.slice (some ⟨gg, 0, none⟩) (n2 + 1) c3)) (by rw [List.length_append, ← HN2.out]; rfl) (fun a ha => by rcases List.mem_append.1 ha with h | h; (exact HAL.out a h); (obtain rfl : a = (s, s) := by simpa using h); exact ⟨by show s.size ≤ 100; omega, by show s.size ≤ 100; omega⟩)); clear hown4 hgr4; have x0 := HX5.out.cell 0 rfl; have xf0 := HX5.out.free 0; have x1 := HX5.out.cell 1 rfl; have xf1 := HX5.out.free 1; have x2 := HX5.out.cell 2 rfl; have xf2 := HX5.out.free 2; have x3 := HX5.out.cell 3 rfl; have xf3 := HX5.out.free 3; have x4 := HX5.out.cell 4 rfl; have xf4 := HX5.out.free 4; have x5 := HX5.out.cell 5 rfl; have xf5 := HX5.out.free 5; have x6 := HX5.out.cell 6 rfl; have xf6 := HX5.out.free 6; have x7 := HX5.out.cell 7 rfl; have xf7 := HX5.out.free 7; have x8 := HX5.out.cell 8 rfl; have xf8 := HX5.out.free 8; have x9 := HX5.out.cell 9 rfl; have xf9 := HX5.out.free 9; have x10 := HX5.out.cell 10 rfl; have xf10 := HX5.out.free 10; have x11 := HX5.out.cell 11 rfl; have xf11 := HX5.out.free 11; have x12 := HX5.out.cell 12 rfl; have xf12 := HX5.out.free 12; have x13 := HX5.out.cell 13 rfl; have xf13 := HX5.out.free 13; have x14 := HX5.out.cell 14 rfl; have xf14 := HX5.out.free 14)
  refine (tells_any k hi lo id par rv name start stop bad B l ln lc key body weight at_ _ hk b1 b2 b3 b4 HN.out (by omega) hname hkey hbody (HBb.out.later HBX.out)).mono ?_
  rintro e w5 ⟨rfl, hb5⟩
  have HY6 := Lib.hid (HY5.out.same (hb5.block _ HY5.out.lt))
  have HA5 := Lib.hid (HAX.out.later hb5)
  have HB5 := Lib.hid (HBX.out.trans (hb5.mono HBX.out.size))
  clear hb5
  have y0 := HY6.out.cell 0 rfl
  have yf0 := HY6.out.free 0
  have y1 := HY6.out.cell 1 rfl
  have yf1 := HY6.out.free 1
  have y2 := HY6.out.cell 2 rfl
  have yf2 := HY6.out.free 2
  have y3 := HY6.out.cell 3 rfl
  have yf3 := HY6.out.free 3
  have y4 := HY6.out.cell 4 rfl
  have yf4 := HY6.out.free 4
  have y5 := HY6.out.cell 5 rfl
  have yf5 := HY6.out.free 5
  have y6 := HY6.out.cell 6 rfl
  have yf6 := HY6.out.free 6
  have y7 := HY6.out.cell 7 rfl
  have yf7 := HY6.out.free 7
  have y8 := HY6.out.cell 8 rfl
  have yf8 := HY6.out.free 8
  have y9 := HY6.out.cell 9 rfl
  have yf9 := HY6.out.free 9
  have y10 := HY6.out.cell 10 rfl
  have yf10 := HY6.out.free 10
  have y11 := HY6.out.cell 11 rfl
  have yf11 := HY6.out.free 11
  have y12 := HY6.out.cell 12 rfl
  have yf12 := HY6.out.free 12
  have y13 := HY6.out.cell 13 rfl
  have yf13 := HY6.out.free 13
  have y14 := HY6.out.cell 14 rfl
  have yf14 := HY6.out.free 14
  go_wp2_with fail
  refine (tells_any k2 hi2 lo2 id2 par2 rv2 name2 start2 stop2 bad2 (some ⟨gg, 0, none⟩) (l2 ++ [(s, s)]) (n2 + 1) c3 key2 body2 weight2 at2 _ g1 g2 g3 g4 g5 (by rw [List.length_append, ← HN2.out]; rfl) (by omega) hq2 hq3 hq4 HA5.out).mono ?_
  rintro e w6 ⟨rfl, hb6⟩
  have HB6 := Lib.hid (HB5.out.trans (hb6.mono HB5.out.size))
  clear hb6
  go_wp2_with fail
  go_ret
  exact ⟨rfl, HB6.out⟩

set_option linter.unusedSimpArgs false in
set_option linter.unusedVariables false in
set_option maxRecDepth 100000 in
set_option maxHeartbeats 4000000 in
theorem bend_5 (k hi lo id par rv weight : Nat) (name key body : ByteArray) (start stop at_ : Int) (bad : Bool) (B : Option Addr) (l : List Attr) (ln lc : Nat) (A : Option Addr) (cs : List UInt8) (len cap how : Nat) (nn : Int) (s : ByteArray) (w : World)
    (hk : k < 256) (b1 : hi < 18446744073709551616) (b2 : lo < 18446744073709551616) (b3 : id < 18446744073709551616) (b4 : par < 18446744073709551616) (hn : l.length = ln) (hnm : ln ≤ lc) (hlc : lc ≤ 9223372036854775807) (hname : name.size ≤ 9223372036854775807) (hkey : key.size ≤ 9223372036854775807) (hbody : body.size ≤ 9223372036854775807) (hB : HoldsA w.heap.size w B l)
    (hlen : cs.length = len) (hl : len ≤ cap) (hcap : cap ≤ 9223372036854775807) (hr : Holds8 w.heap.size w A cs) (hhow : how < 256) (hnn : -9223372036854775808 ≤ nn ∧ nn ≤ 9223372036854775807) (hs : s.size ≤ 9223372036854775807) (h1 : ¬ 12 < ln) (h2 : ¬ 100 < s.size) (hm : how % 8 = 5) :
    Calls Try.prog 5 #[.agg #[.int .u8 (k : Int), .int .u64 (hi : Int), .int .u64 (lo : Int), .int .u64 (id : Int), .int .u64 (par : Int), .string name, .int .i64 start, .int .i64 stop, .bool bad, .slice B ln lc, .int .u64 (rv : Int), .string key, .int .u64 (weight : Int), .int .i64 at_, .string body], .slice A len cap, .int .u8 (how : Int), .int .i64 nn, .string s] w fun e w' => e = .returned (.bool true) ∧ Below w.heap.size w w' := by
  have d1 : decide ((12 : Int) < (ln : Int)) = false := by simp; omega
  have d2 : decide ((100 : Int) < (s.size : Int)) = false := by simp; omega
  have HBb := Lib.hid hB
  have HR := Lib.hid hr
  have hI := fun (W : World) (h : Below w.heap.size w W) => madeOwn_any A cs len cap W hlen hl hcap (hr.later h)
  have HI := Lib.hid hI
  have HN := Lib.hid hn
  clear hr hlen hI hB hn
  have hX0 : Below w.heap.size w (w.alloc (.cells #[.int .u8 (k : Int), .int .u64 (hi : Int), .int .u64 (lo : Int), .int .u64 (id : Int), .int .u64 (par : Int), .string name, .int .i64 start, .int .i64 stop, .bool bad, .slice B ln lc, .int .u64 (rv : Int), .string key, .int .u64 (weight : Int), .int .i64 at_, .string body] 38)) := (Below.refl _ _).alloc (Nat.le_refl _) _
  have HX0 := Lib.hid hX0
  have HXB := Lib.hid (blk_new w #[.int .u8 (k : Int), .int .u64 (hi : Int), .int .u64 (lo : Int), .int .u64 (id : Int), .int .u64 (par : Int), .string name, .int .i64 start, .int .i64 stop, .bool bad, .slice B ln lc, .int .u64 (rv : Int), .string key, .int .u64 (weight : Int), .int .i64 at_, .string body] 38)
  clear hX0
  go_enter Try.func5, Try.ntmps5
  go_wp2_with fail
  refine (known_any _).mono ?_
  rintro e w1 ⟨rfl, hb1⟩
  have HX1 := Lib.hid (HXB.out.same (hb1.block _ HXB.out.lt))
  have HB1 := Lib.hid (HX0.out.trans (hb1.mono (by simp)))
  have t0 : (how : Int).tmod 8 = (5 : Int) := by rw [Int.tmod_eq_emod_of_nonneg (by omega)]; omega
  clear hb1 HXB HX0 hm
  go_wp2_with fail
  refine (HI.out _ HB1.out).mono ?_
  rintro e w2 ⟨k2, hi2, lo2, id2, par2, rv2, weight2, name2, key2, body2, start2, stop2, at2, bad2, A2, l2, n2, c2, rfl, hq1, hq2, hq3, hq4, hn2, hn8, hal, hown, hb2⟩
  obtain ⟨g1, g2, g3, g4, g5⟩ := hq1
  have HX2 := Lib.hid (HX1.out.same (hb2.block _ HX1.out.lt))
  have HB2 := Lib.hid (HB1.out.trans (hb2.mono HB1.out.size))
  have HO2 := Lib.hid (lower_own hown HB1.out.size)
  have hgx : w.heap.size < w2.heap.size := HX2.out.lt
  have HN2 := Lib.hid hn2
  have HAL := Lib.hid hal
  clear hb2 hown hn2 hal HX1 HI HB1 HR
  obtain ⟨u, hu0, hu⟩ : ∃ u : Nat, IntKind.u64.wrap nn = (u : Int) ∧ u < 18446744073709551616 := ⟨(nn % 18446744073709551616).toNat, by rw [show IntKind.u64.wrap nn = nn % 18446744073709551616 by simp [IntKind.wrap, IntKind.bits, IntKind.signed]]; omega, by omega⟩
  have HX4 := Lib.hid (HX2.out.same (Below.heap_alloc w2 (.cells #[.int .u8 (k2 : Int), .int .u64 (hi2 : Int), .int .u64 (lo2 : Int), .int .u64 (id2 : Int), .int .u64 (par2 : Int), .string name2, .int .i64 start2, .int .i64 stop2, .bool bad2, .slice A2 n2 c2, .int .u64 (u : Int), .string key2, .int .u64 (weight2 : Int), .int .i64 at2, .string body2] 38) _ hgx))
  have HY4 := Lib.hid (blk_new w2 #[.int .u8 (k2 : Int), .int .u64 (hi2 : Int), .int .u64 (lo2 : Int), .int .u64 (id2 : Int), .int .u64 (par2 : Int), .string name2, .int .i64 start2, .int .i64 stop2, .bool bad2, .slice A2 n2 c2, .int .u64 (u : Int), .string key2, .int .u64 (weight2 : Int), .int .i64 at2, .string body2] 38)
  have HB4 := Lib.hid (HB2.out.alloc HB2.out.size (.cells #[.int .u8 (k2 : Int), .int .u64 (hi2 : Int), .int .u64 (lo2 : Int), .int .u64 (id2 : Int), .int .u64 (par2 : Int), .string name2, .int .i64 start2, .int .i64 stop2, .bool bad2, .slice A2 n2 c2, .int .u64 (u : Int), .string key2, .int .u64 (weight2 : Int), .int .i64 at2, .string body2] 38))
  have HA4 := Lib.hid (holdsA_own (HO2.out.alloc (.cells #[.int .u8 (k2 : Int), .int .u64 (hi2 : Int), .int .u64 (lo2 : Int), .int .u64 (id2 : Int), .int .u64 (par2 : Int), .string name2, .int .i64 start2, .int .i64 stop2, .bool bad2, .slice A2 n2 c2, .int .u64 (u : Int), .string key2, .int .u64 (weight2 : Int), .int .i64 at2, .string body2] 38)) HN2.out HAL.out)
  clear HX2 HB2 HO2
  have x0 := HX4.out.cell 0 rfl
  have xf0 := HX4.out.free 0
  have x1 := HX4.out.cell 1 rfl
  have xf1 := HX4.out.free 1
  have x2 := HX4.out.cell 2 rfl
  have xf2 := HX4.out.free 2
  have x3 := HX4.out.cell 3 rfl
  have xf3 := HX4.out.free 3
  have x4 := HX4.out.cell 4 rfl
  have xf4 := HX4.out.free 4
  have x5 := HX4.out.cell 5 rfl
  have xf5 := HX4.out.free 5
  have x6 := HX4.out.cell 6 rfl
  have xf6 := HX4.out.free 6
  have x7 := HX4.out.cell 7 rfl
  have xf7 := HX4.out.free 7
  have x8 := HX4.out.cell 8 rfl
  have xf8 := HX4.out.free 8
  have x9 := HX4.out.cell 9 rfl
  have xf9 := HX4.out.free 9
  have x10 := HX4.out.cell 10 rfl
  have xf10 := HX4.out.free 10
  have x11 := HX4.out.cell 11 rfl
  have xf11 := HX4.out.free 11
  have x12 := HX4.out.cell 12 rfl
  have xf12 := HX4.out.free 12
  have x13 := HX4.out.cell 13 rfl
  have xf13 := HX4.out.free 13
  have x14 := HX4.out.cell 14 rfl
  have xf14 := HX4.out.free 14
  go_wp2_with fail
  refine (tells_any k hi lo id par rv name start stop bad B l ln lc key body weight at_ _ hk b1 b2 b3 b4 HN.out (by omega) hname hkey hbody (HBb.out.later HB4.out)).mono ?_
  rintro e w5 ⟨rfl, hb5⟩
  have HY5 := Lib.hid (HY4.out.same (hb5.block _ HY4.out.lt))
  have HA5 := Lib.hid (HA4.out.later hb5)
  have HB5 := Lib.hid (HB4.out.trans (hb5.mono HB4.out.size))
  clear hb5
  have y0 := HY5.out.cell 0 rfl
  have yf0 := HY5.out.free 0
  have y1 := HY5.out.cell 1 rfl
  have yf1 := HY5.out.free 1
  have y2 := HY5.out.cell 2 rfl
  have yf2 := HY5.out.free 2
  have y3 := HY5.out.cell 3 rfl
  have yf3 := HY5.out.free 3
  have y4 := HY5.out.cell 4 rfl
  have yf4 := HY5.out.free 4
  have y5 := HY5.out.cell 5 rfl
  have yf5 := HY5.out.free 5
  have y6 := HY5.out.cell 6 rfl
  have yf6 := HY5.out.free 6
  have y7 := HY5.out.cell 7 rfl
  have yf7 := HY5.out.free 7
  have y8 := HY5.out.cell 8 rfl
  have yf8 := HY5.out.free 8
  have y9 := HY5.out.cell 9 rfl
  have yf9 := HY5.out.free 9
  have y10 := HY5.out.cell 10 rfl
  have yf10 := HY5.out.free 10
  have y11 := HY5.out.cell 11 rfl
  have yf11 := HY5.out.free 11
  have y12 := HY5.out.cell 12 rfl
  have yf12 := HY5.out.free 12
  have y13 := HY5.out.cell 13 rfl
  have yf13 := HY5.out.free 13
  have y14 := HY5.out.cell 14 rfl
  have yf14 := HY5.out.free 14
  go_wp2_with fail
  refine (tells_any k2 hi2 lo2 id2 par2 u name2 start2 stop2 bad2 A2 l2 n2 c2 key2 body2 weight2 at2 _ g1 g2 g3 g4 g5 HN2.out.symm (by omega) hq2 hq3 hq4 HA5.out).mono ?_
  rintro e w6 ⟨rfl, hb6⟩
  have HB6 := Lib.hid (HB5.out.trans (hb6.mono HB5.out.size))
  clear hb6
  go_wp2_with fail
  go_ret
  exact ⟨rfl, HB6.out⟩

set_option linter.unusedSimpArgs false in
set_option linter.unusedVariables false in
set_option maxRecDepth 100000 in
set_option maxHeartbeats 4000000 in
theorem bend_6 (k hi lo id par rv weight : Nat) (name key body : ByteArray) (start stop at_ : Int) (bad : Bool) (B : Option Addr) (l : List Attr) (ln lc : Nat) (A : Option Addr) (cs : List UInt8) (len cap how : Nat) (nn : Int) (s : ByteArray) (w : World)
    (hk : k < 256) (b1 : hi < 18446744073709551616) (b2 : lo < 18446744073709551616) (b3 : id < 18446744073709551616) (b4 : par < 18446744073709551616) (hn : l.length = ln) (hnm : ln ≤ lc) (hlc : lc ≤ 9223372036854775807) (hname : name.size ≤ 9223372036854775807) (hkey : key.size ≤ 9223372036854775807) (hbody : body.size ≤ 9223372036854775807) (hB : HoldsA w.heap.size w B l)
    (hlen : cs.length = len) (hl : len ≤ cap) (hcap : cap ≤ 9223372036854775807) (hr : Holds8 w.heap.size w A cs) (hhow : how < 256) (hnn : -9223372036854775808 ≤ nn ∧ nn ≤ 9223372036854775807) (hs : s.size ≤ 9223372036854775807) (h1 : ¬ 12 < ln) (h2 : ¬ 100 < s.size) (hm : how % 8 = 6) :
    Calls Try.prog 5 #[.agg #[.int .u8 (k : Int), .int .u64 (hi : Int), .int .u64 (lo : Int), .int .u64 (id : Int), .int .u64 (par : Int), .string name, .int .i64 start, .int .i64 stop, .bool bad, .slice B ln lc, .int .u64 (rv : Int), .string key, .int .u64 (weight : Int), .int .i64 at_, .string body], .slice A len cap, .int .u8 (how : Int), .int .i64 nn, .string s] w fun e w' => e = .returned (.bool true) ∧ Below w.heap.size w w' := by
  have d1 : decide ((12 : Int) < (ln : Int)) = false := by simp; omega
  have d2 : decide ((100 : Int) < (s.size : Int)) = false := by simp; omega
  have HBb := Lib.hid hB
  have HR := Lib.hid hr
  have hI := fun (W : World) (h : Below w.heap.size w W) => madeOwn_any A cs len cap W hlen hl hcap (hr.later h)
  have HI := Lib.hid hI
  have HN := Lib.hid hn
  clear hr hlen hI hB hn
  have hX0 : Below w.heap.size w (w.alloc (.cells #[.int .u8 (k : Int), .int .u64 (hi : Int), .int .u64 (lo : Int), .int .u64 (id : Int), .int .u64 (par : Int), .string name, .int .i64 start, .int .i64 stop, .bool bad, .slice B ln lc, .int .u64 (rv : Int), .string key, .int .u64 (weight : Int), .int .i64 at_, .string body] 38)) := (Below.refl _ _).alloc (Nat.le_refl _) _
  have HX0 := Lib.hid hX0
  have HXB := Lib.hid (blk_new w #[.int .u8 (k : Int), .int .u64 (hi : Int), .int .u64 (lo : Int), .int .u64 (id : Int), .int .u64 (par : Int), .string name, .int .i64 start, .int .i64 stop, .bool bad, .slice B ln lc, .int .u64 (rv : Int), .string key, .int .u64 (weight : Int), .int .i64 at_, .string body] 38)
  clear hX0
  go_enter Try.func5, Try.ntmps5
  go_wp2_with fail
  refine (known_any _).mono ?_
  rintro e w1 ⟨rfl, hb1⟩
  have HX1 := Lib.hid (HXB.out.same (hb1.block _ HXB.out.lt))
  have HB1 := Lib.hid (HX0.out.trans (hb1.mono (by simp)))
  have t0 : (how : Int).tmod 8 = (6 : Int) := by rw [Int.tmod_eq_emod_of_nonneg (by omega)]; omega
  clear hb1 HXB HX0 hm
  go_wp2_with fail
  refine (HI.out _ HB1.out).mono ?_
  rintro e w2 ⟨k2, hi2, lo2, id2, par2, rv2, weight2, name2, key2, body2, start2, stop2, at2, bad2, A2, l2, n2, c2, rfl, hq1, hq2, hq3, hq4, hn2, hn8, hal, hown, hb2⟩
  obtain ⟨g1, g2, g3, g4, g5⟩ := hq1
  have HX2 := Lib.hid (HX1.out.same (hb2.block _ HX1.out.lt))
  have HB2 := Lib.hid (HB1.out.trans (hb2.mono HB1.out.size))
  have HO2 := Lib.hid (lower_own hown HB1.out.size)
  have hgx : w.heap.size < w2.heap.size := HX2.out.lt
  have HN2 := Lib.hid hn2
  have HAL := Lib.hid hal
  clear hb2 hown hn2 hal HX1 HI HB1 HR
  obtain ⟨t, ht⟩ : ∃ t : Int, nn.tmod 2 = t := ⟨_, rfl⟩
  obtain ⟨u, hu0, hu⟩ : ∃ u : Nat, IntKind.u64.wrap t = (u : Int) ∧ u < 18446744073709551616 := ⟨(t % 18446744073709551616).toNat, by rw [show IntKind.u64.wrap t = t % 18446744073709551616 by simp [IntKind.wrap, IntKind.bits, IntKind.signed]]; omega, by omega⟩
  have HX4 := Lib.hid (HX2.out.same (Below.heap_alloc w2 (.cells #[.int .u8 (k2 : Int), .int .u64 (hi2 : Int), .int .u64 (lo2 : Int), .int .u64 (u : Int), .int .u64 (par2 : Int), .string name2, .int .i64 start2, .int .i64 stop2, .bool bad2, .slice A2 n2 c2, .int .u64 (rv2 : Int), .string key2, .int .u64 (weight2 : Int), .int .i64 at2, .string body2] 38) _ hgx))
  have HY4 := Lib.hid (blk_new w2 #[.int .u8 (k2 : Int), .int .u64 (hi2 : Int), .int .u64 (lo2 : Int), .int .u64 (u : Int), .int .u64 (par2 : Int), .string name2, .int .i64 start2, .int .i64 stop2, .bool bad2, .slice A2 n2 c2, .int .u64 (rv2 : Int), .string key2, .int .u64 (weight2 : Int), .int .i64 at2, .string body2] 38)
  have HB4 := Lib.hid (HB2.out.alloc HB2.out.size (.cells #[.int .u8 (k2 : Int), .int .u64 (hi2 : Int), .int .u64 (lo2 : Int), .int .u64 (u : Int), .int .u64 (par2 : Int), .string name2, .int .i64 start2, .int .i64 stop2, .bool bad2, .slice A2 n2 c2, .int .u64 (rv2 : Int), .string key2, .int .u64 (weight2 : Int), .int .i64 at2, .string body2] 38))
  have HA4 := Lib.hid (holdsA_own (HO2.out.alloc (.cells #[.int .u8 (k2 : Int), .int .u64 (hi2 : Int), .int .u64 (lo2 : Int), .int .u64 (u : Int), .int .u64 (par2 : Int), .string name2, .int .i64 start2, .int .i64 stop2, .bool bad2, .slice A2 n2 c2, .int .u64 (rv2 : Int), .string key2, .int .u64 (weight2 : Int), .int .i64 at2, .string body2] 38)) HN2.out HAL.out)
  clear HX2 HB2 HO2
  have x0 := HX4.out.cell 0 rfl
  have xf0 := HX4.out.free 0
  have x1 := HX4.out.cell 1 rfl
  have xf1 := HX4.out.free 1
  have x2 := HX4.out.cell 2 rfl
  have xf2 := HX4.out.free 2
  have x3 := HX4.out.cell 3 rfl
  have xf3 := HX4.out.free 3
  have x4 := HX4.out.cell 4 rfl
  have xf4 := HX4.out.free 4
  have x5 := HX4.out.cell 5 rfl
  have xf5 := HX4.out.free 5
  have x6 := HX4.out.cell 6 rfl
  have xf6 := HX4.out.free 6
  have x7 := HX4.out.cell 7 rfl
  have xf7 := HX4.out.free 7
  have x8 := HX4.out.cell 8 rfl
  have xf8 := HX4.out.free 8
  have x9 := HX4.out.cell 9 rfl
  have xf9 := HX4.out.free 9
  have x10 := HX4.out.cell 10 rfl
  have xf10 := HX4.out.free 10
  have x11 := HX4.out.cell 11 rfl
  have xf11 := HX4.out.free 11
  have x12 := HX4.out.cell 12 rfl
  have xf12 := HX4.out.free 12
  have x13 := HX4.out.cell 13 rfl
  have xf13 := HX4.out.free 13
  have x14 := HX4.out.cell 14 rfl
  have xf14 := HX4.out.free 14
  go_wp2_with fail
  refine (tells_any k hi lo id par rv name start stop bad B l ln lc key body weight at_ _ hk b1 b2 b3 b4 HN.out (by omega) hname hkey hbody (HBb.out.later HB4.out)).mono ?_
  rintro e w5 ⟨rfl, hb5⟩
  have HY5 := Lib.hid (HY4.out.same (hb5.block _ HY4.out.lt))
  have HA5 := Lib.hid (HA4.out.later hb5)
  have HB5 := Lib.hid (HB4.out.trans (hb5.mono HB4.out.size))
  clear hb5
  have y0 := HY5.out.cell 0 rfl
  have yf0 := HY5.out.free 0
  have y1 := HY5.out.cell 1 rfl
  have yf1 := HY5.out.free 1
  have y2 := HY5.out.cell 2 rfl
  have yf2 := HY5.out.free 2
  have y3 := HY5.out.cell 3 rfl
  have yf3 := HY5.out.free 3
  have y4 := HY5.out.cell 4 rfl
  have yf4 := HY5.out.free 4
  have y5 := HY5.out.cell 5 rfl
  have yf5 := HY5.out.free 5
  have y6 := HY5.out.cell 6 rfl
  have yf6 := HY5.out.free 6
  have y7 := HY5.out.cell 7 rfl
  have yf7 := HY5.out.free 7
  have y8 := HY5.out.cell 8 rfl
  have yf8 := HY5.out.free 8
  have y9 := HY5.out.cell 9 rfl
  have yf9 := HY5.out.free 9
  have y10 := HY5.out.cell 10 rfl
  have yf10 := HY5.out.free 10
  have y11 := HY5.out.cell 11 rfl
  have yf11 := HY5.out.free 11
  have y12 := HY5.out.cell 12 rfl
  have yf12 := HY5.out.free 12
  have y13 := HY5.out.cell 13 rfl
  have yf13 := HY5.out.free 13
  have y14 := HY5.out.cell 14 rfl
  have yf14 := HY5.out.free 14
  go_wp2_with fail
  refine (tells_any k2 hi2 lo2 u par2 rv2 name2 start2 stop2 bad2 A2 l2 n2 c2 key2 body2 weight2 at2 _ g1 g2 g3 hu g5 HN2.out.symm (by omega) hq2 hq3 hq4 HA5.out).mono ?_
  rintro e w6 ⟨rfl, hb6⟩
  have HB6 := Lib.hid (HB5.out.trans (hb6.mono HB5.out.size))
  clear hb6
  go_wp2_with fail
  go_ret
  exact ⟨rfl, HB6.out⟩

set_option linter.unusedSimpArgs false in
set_option linter.unusedVariables false in
set_option maxRecDepth 100000 in
set_option maxHeartbeats 4000000 in
theorem bend_7 (k hi lo id par rv weight : Nat) (name key body : ByteArray) (start stop at_ : Int) (bad : Bool) (B : Option Addr) (l : List Attr) (ln lc : Nat) (A : Option Addr) (cs : List UInt8) (len cap how : Nat) (nn : Int) (s : ByteArray) (w : World)
    (hk : k < 256) (b1 : hi < 18446744073709551616) (b2 : lo < 18446744073709551616) (b3 : id < 18446744073709551616) (b4 : par < 18446744073709551616) (hn : l.length = ln) (hnm : ln ≤ lc) (hlc : lc ≤ 9223372036854775807) (hname : name.size ≤ 9223372036854775807) (hkey : key.size ≤ 9223372036854775807) (hbody : body.size ≤ 9223372036854775807) (hB : HoldsA w.heap.size w B l)
    (hlen : cs.length = len) (hl : len ≤ cap) (hcap : cap ≤ 9223372036854775807) (hr : Holds8 w.heap.size w A cs) (hhow : how < 256) (hnn : -9223372036854775808 ≤ nn ∧ nn ≤ 9223372036854775807) (hs : s.size ≤ 9223372036854775807) (h1 : ¬ 12 < ln) (h2 : ¬ 100 < s.size) (hm : how % 8 = 7) :
    Calls Try.prog 5 #[.agg #[.int .u8 (k : Int), .int .u64 (hi : Int), .int .u64 (lo : Int), .int .u64 (id : Int), .int .u64 (par : Int), .string name, .int .i64 start, .int .i64 stop, .bool bad, .slice B ln lc, .int .u64 (rv : Int), .string key, .int .u64 (weight : Int), .int .i64 at_, .string body], .slice A len cap, .int .u8 (how : Int), .int .i64 nn, .string s] w fun e w' => e = .returned (.bool true) ∧ Below w.heap.size w w' := by
  have d1 : decide ((12 : Int) < (ln : Int)) = false := by simp; omega
  have d2 : decide ((100 : Int) < (s.size : Int)) = false := by simp; omega
  have HBb := Lib.hid hB
  have HR := Lib.hid hr
  have hI := fun (W : World) (h : Below w.heap.size w W) => madeOwn_any A cs len cap W hlen hl hcap (hr.later h)
  have HI := Lib.hid hI
  have HN := Lib.hid hn
  clear hr hlen hI hB hn
  have hX0 : Below w.heap.size w (w.alloc (.cells #[.int .u8 (k : Int), .int .u64 (hi : Int), .int .u64 (lo : Int), .int .u64 (id : Int), .int .u64 (par : Int), .string name, .int .i64 start, .int .i64 stop, .bool bad, .slice B ln lc, .int .u64 (rv : Int), .string key, .int .u64 (weight : Int), .int .i64 at_, .string body] 38)) := (Below.refl _ _).alloc (Nat.le_refl _) _
  have HX0 := Lib.hid hX0
  have HXB := Lib.hid (blk_new w #[.int .u8 (k : Int), .int .u64 (hi : Int), .int .u64 (lo : Int), .int .u64 (id : Int), .int .u64 (par : Int), .string name, .int .i64 start, .int .i64 stop, .bool bad, .slice B ln lc, .int .u64 (rv : Int), .string key, .int .u64 (weight : Int), .int .i64 at_, .string body] 38)
  clear hX0
  go_enter Try.func5, Try.ntmps5
  go_wp2_with fail
  refine (known_any _).mono ?_
  rintro e w1 ⟨rfl, hb1⟩
  have HX1 := Lib.hid (HXB.out.same (hb1.block _ HXB.out.lt))
  have HB1 := Lib.hid (HX0.out.trans (hb1.mono (by simp)))
  have t0 : (how : Int).tmod 8 = (7 : Int) := by rw [Int.tmod_eq_emod_of_nonneg (by omega)]; omega
  clear hb1 HXB HX0 hm
  go_wp2_with fail
  refine (HI.out _ HB1.out).mono ?_
  rintro e w2 ⟨k2, hi2, lo2, id2, par2, rv2, weight2, name2, key2, body2, start2, stop2, at2, bad2, A2, l2, n2, c2, rfl, hq1, hq2, hq3, hq4, hn2, hn8, hal, hown, hb2⟩
  obtain ⟨g1, g2, g3, g4, g5⟩ := hq1
  have HX2 := Lib.hid (HX1.out.same (hb2.block _ HX1.out.lt))
  have HB2 := Lib.hid (HB1.out.trans (hb2.mono HB1.out.size))
  have HO2 := Lib.hid (lower_own hown HB1.out.size)
  have hgx : w.heap.size < w2.heap.size := HX2.out.lt
  have HN2 := Lib.hid hn2
  have HAL := Lib.hid hal
  clear hb2 hown hn2 hal HX1 HI HB1 HR
  have HX4 := Lib.hid (HX2.out.same (Below.heap_alloc w2 (.cells #[.int .u8 (k2 : Int), .int .u64 (hi2 : Int), .int .u64 (lo2 : Int), .int .u64 (id2 : Int), .int .u64 (par2 : Int), .string name2, .int .i64 start2, .int .i64 stop2, .bool bad2, .slice A2 n2 c2, .int .u64 (rv2 : Int), .string key2, .int .u64 (weight2 : Int), .int .i64 at2, .string body2] 38) _ hgx))
  have HY4 := Lib.hid (blk_new w2 #[.int .u8 (k2 : Int), .int .u64 (hi2 : Int), .int .u64 (lo2 : Int), .int .u64 (id2 : Int), .int .u64 (par2 : Int), .string name2, .int .i64 start2, .int .i64 stop2, .bool bad2, .slice A2 n2 c2, .int .u64 (rv2 : Int), .string key2, .int .u64 (weight2 : Int), .int .i64 at2, .string body2] 38)
  have HB4 := Lib.hid (HB2.out.alloc HB2.out.size (.cells #[.int .u8 (k2 : Int), .int .u64 (hi2 : Int), .int .u64 (lo2 : Int), .int .u64 (id2 : Int), .int .u64 (par2 : Int), .string name2, .int .i64 start2, .int .i64 stop2, .bool bad2, .slice A2 n2 c2, .int .u64 (rv2 : Int), .string key2, .int .u64 (weight2 : Int), .int .i64 at2, .string body2] 38))
  have HA4 := Lib.hid (holdsA_own (HO2.out.alloc (.cells #[.int .u8 (k2 : Int), .int .u64 (hi2 : Int), .int .u64 (lo2 : Int), .int .u64 (id2 : Int), .int .u64 (par2 : Int), .string name2, .int .i64 start2, .int .i64 stop2, .bool bad2, .slice A2 n2 c2, .int .u64 (rv2 : Int), .string key2, .int .u64 (weight2 : Int), .int .i64 at2, .string body2] 38)) HN2.out HAL.out)
  clear HX2 HB2 HO2
  have x0 := HX4.out.cell 0 rfl
  have xf0 := HX4.out.free 0
  have x1 := HX4.out.cell 1 rfl
  have xf1 := HX4.out.free 1
  have x2 := HX4.out.cell 2 rfl
  have xf2 := HX4.out.free 2
  have x3 := HX4.out.cell 3 rfl
  have xf3 := HX4.out.free 3
  have x4 := HX4.out.cell 4 rfl
  have xf4 := HX4.out.free 4
  have x5 := HX4.out.cell 5 rfl
  have xf5 := HX4.out.free 5
  have x6 := HX4.out.cell 6 rfl
  have xf6 := HX4.out.free 6
  have x7 := HX4.out.cell 7 rfl
  have xf7 := HX4.out.free 7
  have x8 := HX4.out.cell 8 rfl
  have xf8 := HX4.out.free 8
  have x9 := HX4.out.cell 9 rfl
  have xf9 := HX4.out.free 9
  have x10 := HX4.out.cell 10 rfl
  have xf10 := HX4.out.free 10
  have x11 := HX4.out.cell 11 rfl
  have xf11 := HX4.out.free 11
  have x12 := HX4.out.cell 12 rfl
  have xf12 := HX4.out.free 12
  have x13 := HX4.out.cell 13 rfl
  have xf13 := HX4.out.free 13
  have x14 := HX4.out.cell 14 rfl
  have xf14 := HX4.out.free 14
  go_wp2_with fail
  refine (tells_any k hi lo id par rv name start stop bad B l ln lc key body weight at_ _ hk b1 b2 b3 b4 HN.out (by omega) hname hkey hbody (HBb.out.later HB4.out)).mono ?_
  rintro e w5 ⟨rfl, hb5⟩
  have HY5 := Lib.hid (HY4.out.same (hb5.block _ HY4.out.lt))
  have HA5 := Lib.hid (HA4.out.later hb5)
  have HB5 := Lib.hid (HB4.out.trans (hb5.mono HB4.out.size))
  clear hb5
  have y0 := HY5.out.cell 0 rfl
  have yf0 := HY5.out.free 0
  have y1 := HY5.out.cell 1 rfl
  have yf1 := HY5.out.free 1
  have y2 := HY5.out.cell 2 rfl
  have yf2 := HY5.out.free 2
  have y3 := HY5.out.cell 3 rfl
  have yf3 := HY5.out.free 3
  have y4 := HY5.out.cell 4 rfl
  have yf4 := HY5.out.free 4
  have y5 := HY5.out.cell 5 rfl
  have yf5 := HY5.out.free 5
  have y6 := HY5.out.cell 6 rfl
  have yf6 := HY5.out.free 6
  have y7 := HY5.out.cell 7 rfl
  have yf7 := HY5.out.free 7
  have y8 := HY5.out.cell 8 rfl
  have yf8 := HY5.out.free 8
  have y9 := HY5.out.cell 9 rfl
  have yf9 := HY5.out.free 9
  have y10 := HY5.out.cell 10 rfl
  have yf10 := HY5.out.free 10
  have y11 := HY5.out.cell 11 rfl
  have yf11 := HY5.out.free 11
  have y12 := HY5.out.cell 12 rfl
  have yf12 := HY5.out.free 12
  have y13 := HY5.out.cell 13 rfl
  have yf13 := HY5.out.free 13
  have y14 := HY5.out.cell 14 rfl
  have yf14 := HY5.out.free 14
  go_wp2_with fail
  refine (tells_any k2 hi2 lo2 id2 par2 rv2 name2 start2 stop2 bad2 A2 l2 n2 c2 key2 body2 weight2 at2 _ g1 g2 g3 g4 g5 HN2.out.symm (by omega) hq2 hq3 hq4 HA5.out).mono ?_
  rintro e w6 ⟨rfl, hb6⟩
  have HB6 := Lib.hid (HB5.out.trans (hb6.mono HB5.out.size))
  clear hb6
  go_wp2_with fail
  go_ret
  exact ⟨rfl, HB6.out⟩

set_option linter.unusedSimpArgs false in
set_option linter.unusedVariables false in
set_option maxRecDepth 100000 in
set_option maxHeartbeats 4000000 in
theorem encodes_walk (k hi lo id par rv weight : Nat) (name key body : ByteArray) (start stop at_ : Int) (bad : Bool) (B : Option Addr) (l : List Attr) (ln lc : Nat) (A : Option Addr) (cs : List UInt8) (len cap how : Nat) (nn : Int) (s : ByteArray) (w : World)
    (hk : k < 256) (b1 : hi < 18446744073709551616) (b2 : lo < 18446744073709551616) (b3 : id < 18446744073709551616) (b4 : par < 18446744073709551616) (hn : l.length = ln) (hnm : ln ≤ lc) (hlc : lc ≤ 9223372036854775807) (hname : name.size ≤ 9223372036854775807) (hkey : key.size ≤ 9223372036854775807) (hbody : body.size ≤ 9223372036854775807) (hB : HoldsA w.heap.size w B l)
    (hlen : cs.length = len) (hl : len ≤ cap) (hcap : cap ≤ 9223372036854775807) (hr : Holds8 w.heap.size w A cs) (hhow : how < 256) (hnn : -9223372036854775808 ≤ nn ∧ nn ≤ 9223372036854775807) (hs : s.size ≤ 9223372036854775807) :
    Calls Try.prog 5 #[.agg #[.int .u8 (k : Int), .int .u64 (hi : Int), .int .u64 (lo : Int), .int .u64 (id : Int), .int .u64 (par : Int), .string name, .int .i64 start, .int .i64 stop, .bool bad, .slice B ln lc, .int .u64 (rv : Int), .string key, .int .u64 (weight : Int), .int .i64 at_, .string body], .slice A len cap, .int .u8 (how : Int), .int .i64 nn, .string s] w fun e w' => e = .returned (.bool true) ∧ Below w.heap.size w w' := by
  by_cases h1 : 12 < ln
  · have d1 : decide ((12 : Int) < (ln : Int)) = true := by simp; omega
    clear hr hB
    go_enter Try.func5, Try.ntmps5
    go_wp2_with fail
    refine (known_any _).mono ?_
    rintro e w1 ⟨rfl, hb1⟩
    go_wp2_with fail
    go_ret
    exact ⟨rfl, ((Below.refl _ _).alloc (Nat.le_refl _) _).trans (hb1.mono (by simp))⟩
  have d1 : decide ((12 : Int) < (ln : Int)) = false := by simp; omega
  by_cases h2 : 100 < s.size
  · have d2 : decide ((100 : Int) < (s.size : Int)) = true := by simp; omega
    clear hr hB
    go_enter Try.func5, Try.ntmps5
    go_wp2_with fail
    refine (known_any _).mono ?_
    rintro e w1 ⟨rfl, hb1⟩
    go_wp2_with fail
    go_ret
    exact ⟨rfl, ((Below.refl _ _).alloc (Nat.le_refl _) _).trans (hb1.mono (by simp))⟩
  have d2 : decide ((100 : Int) < (s.size : Int)) = false := by simp; omega
  have hc : how % 8 = 0 ∨ how % 8 = 1 ∨ how % 8 = 2 ∨ how % 8 = 3 ∨ how % 8 = 4 ∨ how % 8 = 5 ∨ how % 8 = 6 ∨ how % 8 = 7 := by omega
  clear d1 d2
  rcases hc with hm | hm | hm | hm | hm | hm | hm | hm
  · exact bend_0 k hi lo id par rv weight name key body start stop at_ bad B l ln lc A cs len cap how nn s w hk b1 b2 b3 b4 hn hnm hlc hname hkey hbody hB hlen hl hcap hr hhow hnn hs h1 h2 hm
  · exact bend_1 k hi lo id par rv weight name key body start stop at_ bad B l ln lc A cs len cap how nn s w hk b1 b2 b3 b4 hn hnm hlc hname hkey hbody hB hlen hl hcap hr hhow hnn hs h1 h2 hm
  · exact bend_2 k hi lo id par rv weight name key body start stop at_ bad B l ln lc A cs len cap how nn s w hk b1 b2 b3 b4 hn hnm hlc hname hkey hbody hB hlen hl hcap hr hhow hnn hs h1 h2 hm
  · exact bend_3 k hi lo id par rv weight name key body start stop at_ bad B l ln lc A cs len cap how nn s w hk b1 b2 b3 b4 hn hnm hlc hname hkey hbody hB hlen hl hcap hr hhow hnn hs h1 h2 hm
  · exact bend_4 k hi lo id par rv weight name key body start stop at_ bad B l ln lc A cs len cap how nn s w hk b1 b2 b3 b4 hn hnm hlc hname hkey hbody hB hlen hl hcap hr hhow hnn hs h1 h2 hm
  · exact bend_5 k hi lo id par rv weight name key body start stop at_ bad B l ln lc A cs len cap how nn s w hk b1 b2 b3 b4 hn hnm hlc hname hkey hbody hB hlen hl hcap hr hhow hnn hs h1 h2 hm
  · exact bend_6 k hi lo id par rv weight name key body start stop at_ bad B l ln lc A cs len cap how nn s w hk b1 b2 b3 b4 hn hnm hlc hname hkey hbody hB hlen hl hcap hr hhow hnn hs h1 h2 hm
  · exact bend_7 k hi lo id par rv weight name key body start stop at_ bad B l ln lc A cs len cap how nn s w hk b1 b2 b3 b4 hn hnm hlc hname hkey hbody hB hlen hl hcap hr hhow hnn hs h1 h2 hm

namespace ItemEncodes
set_option linter.unusedSimpArgs false in
set_option maxRecDepth 100000 in
theorem lifted (os : Os) (started : os.Started) (H : Type) (enc : TypeId × Value → H) :
    ReturnsInHanded {} Try.checked os 5 .any (Rows.itemEncodesSpec.pre6 enc Try.prog Try.f5 Rows.itemEncodesRow.domain false) (Rows.itemEncodesSpec.post enc Try.prog Try.f5 false true false false) := by
  refine returnsInHanded_of_change (C := Try.checked) own started (by kernel_rfl) Try.func5
    (ChangeSpec.witness6 (enc := enc) (C := Try.checked) false ⟨#[], #[.agg #[.int .u8 0, .int .u64 0, .int .u64 0, .int .u64 0, .int .u64 0, .string ⟨#[]⟩, .int .i64 0, .int .i64 0, .bool false, .slice none 0 0, .int .u64 0, .string ⟨#[]⟩, .int .u64 0, .int .i64 0, .string ⟨#[]⟩], .slice none 0 0, .int .u8 0, .int .i64 0, .string ⟨#[]⟩], []⟩ 8 (by kernel_rfl) (by kernel_rfl) (by kernel_rfl) (by kernel_rfl)) ?_
  intro W base args ds gs before hval0 hW _ _
  have hval : ∀ (j : Nat) t v, Try.f5.params[j]? = some t → args[j]? = some v → Value.okWide Try.prog W .any base t v := hval0
  have hW' := hW
  obtain ⟨p, q, hA0, hV, rfl, _, _⟩ := hW
  have hA : DataW.TrodAll enc Try.prog W 0 (fun _ => true) true Try.f5.params.toList args.toList ds p := hA0
  rw [Try.params5] at hA hval
  obtain ⟨v0, vs0, d0, ds0, p0, q0, hargs, rfl, rfl, h0, r0⟩ := trodAll_cons hA
  obtain ⟨v1, vs1, d1, ds1, p1, q1, rfl, rfl, rfl, h1, r1⟩ := trodAll_cons r0
  obtain ⟨v2, vs2, d2, ds2, p2, q2, rfl, rfl, rfl, h2, r2⟩ := trodAll_cons r1
  obtain ⟨v3, vs3, d3, ds3, p3, q3, rfl, rfl, rfl, h3, r3⟩ := trodAll_cons r2
  obtain ⟨v4, vs4, d4, ds4, p4, q4, rfl, rfl, rfl, h4, r4⟩ := trodAll_cons r3
  obtain ⟨rfl, rfl, rfl⟩ := trodAll_nil r4
  obtain rfl : args = #[v0, v1, v2, v3, v4] := by cases args; simp_all
  obtain ⟨rfl, rfl⟩ := trodVars_none hV
  obtain ⟨k0, hi0, lo0, id0, par0, rv0, weight0, name0, key0, body0, start0, stop0, at0, bad0, B0, al0, ac0, rfl, i0a, i0b, i0c, i0d, i0e, _, _, i0h, i0i, i0j, _, _, _, i0k, i0l, i0m⟩ := arg_item (hval 0 38 v0 rfl rfl) h0
  obtain ⟨A1, cs1, cap1, rfl, l1, m1, b1, again1⟩ := arg_bytes (hval 1 22 v1 rfl rfl) h1
  have x1 := arg_extra h1
  obtain ⟨a2, rfl, rfl, rfl, w2⟩ := open_int Try.underlying5 (hval 2 5 v2 rfl rfl) h2
  have k2 := wf_u8 w2
  obtain ⟨n2, rfl⟩ : ∃ u : UInt8, a2 = (u.toNat : Int) := ⟨UInt8.ofNat a2.toNat, by simp; omega⟩
  obtain ⟨a3, rfl, rfl, rfl, w3⟩ := open_int Try.underlying3 (hval 3 3 v3 rfl rfl) h3
  have k3 := wf_i64 w3
  obtain ⟨s4, rfl, rfl, rfl, w4⟩ := ChangeMaps.open_string Try.underlying9 (hval 4 9 v4 rfl rfl) h4
  clear hA0 hval0
  simp only [List.append_nil] at hW'
  refine (encodes_walk k0 hi0 lo0 id0 par0 rv0 weight0 name0 key0 body0 start0 stop0 at0 bad0 B0 al0 _ ac0 A1 cs1 _ cap1 n2.toNat a3 s4 W i0a i0b i0c i0d i0e rfl i0k i0l i0h i0i i0j i0m rfl l1 m1 b1 (by have := n2.toNat_lt; omega) k3 w4).mono fun e W' ⟨he, hg⟩ => ?_
  subst he
  exact ⟨_, rfl, true_last hW' rfl (by kernel_rfl) Try.underlying4 rfl rfl rfl (of_decide_eq_true (by kernel_rfl)) hg⟩

/-- **ItemEncodes, at every input.** -/
theorem proved : Rows.ItemEncodesSaid :=
  OpenClaim.holds_of_wide 5 Try.f5 rfl rfl rfl rfl rfl rfl rfl ⟨rfl, rfl, rfl, rfl, rfl⟩ rfl rfl rfl rfl rfl (by kernel_rfl) Try.func5 (by kernel_rfl)
    (of_decide_eq_true (by kernel_rfl)) (by unfold Func.isWrapper; first | (rw [if_pos (by decide +kernel)]; kernel_rfl) | (rw [if_neg (by decide +kernel)]; exact ⟨rfl, rfl⟩))
    (fun os started H enc _ => lifted os started H enc)
end ItemEncodes

end Go.Proofs.Ytfmdjopcpbcajaa
