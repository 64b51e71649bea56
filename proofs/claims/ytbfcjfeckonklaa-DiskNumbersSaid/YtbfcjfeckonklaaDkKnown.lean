/-
  The chapter's example.
-/
import Derived.Test.YtbfcjfeckonklaaDkOb
namespace Go.Proofs.Ytbfcjfeckonklaa
open Go.RowKit Go.Maps Go.Proofs.DiskMath

def kn1 : List Fi := [⟨0, [1, 2], 0⟩]
def kn2 : List Fi := [⟨0, [1, 2], 2⟩]
def kn3 : List Fi := [⟨0, [1, 2, 3, 4, 5], 2⟩]
def kn4 : List Fi := [⟨0, [1, 2, 3, 4], 4⟩]
set_option linter.unusedSimpArgs false in
set_option maxRecDepth 100000 in
set_option maxHeartbeats 2000000 in
theorem known_any (w : World) : Calls Try.prog 10 #[] w fun e w' => e = .returned (.bool true) ∧ Hid (Below w.heap.size w w') := by
  have HN := Lib.hid (Db.new (Below.refl w.heap.size w))
  go_enter Try.func10, Try.ntmps10
  go_wp2_with fail
  refine HN.out.mono ?_
  rintro e w1 ⟨S, bs1, rfl, HD1, _⟩
  have HA1 := Lib.hid (HD1.out.later (box_below (.cells #[.int .u8 1, .int .u8 2] 5)))
  have HS1 := Lib.hid (src_new (W := w1) (bs := bs1) (C := #[.int .u8 1, .int .u8 2]) (ys := [1, 2]) HD1.out.1.lt rfl)
  have HC1 := Lib.hid (HA1.out.write 0 _ 2 2 [1, 2] HS1.out rfl (by omega) 0 (Bd.nil 0) (by omega) kn1 rfl)
  clear HN HS1 HA1
  go_wp2_with fail
  refine HC1.out.mono ?_
  rintro e w2 ⟨rfl, bs2, HD2, _⟩
  clear HC1 HD1
  have HC2 := Lib.hid (HD2.out.sync 0 (by omega) (by omega) kn2 rfl 0 rfl)
  go_wp2_with fail
  refine HC2.out.mono ?_
  rintro e w3 ⟨rfl, bs3, HD3, _⟩
  have HA3 := Lib.hid (HD3.out.later (box_below (.cells #[.int .u8 3, .int .u8 4, .int .u8 5] 5)))
  have HS3 := Lib.hid (src_new (W := w3) (bs := bs3) (C := #[.int .u8 3, .int .u8 4, .int .u8 5]) (ys := [3, 4, 5]) HD3.out.1.lt rfl)
  have HC3 := Lib.hid (HA3.out.write 0 _ 3 3 [3, 4, 5] HS3.out rfl (by omega) 2 (by simp [Bd, kn2]) (by omega) kn3 rfl)
  clear HC2 HD2 HS3 HA3
  go_wp2_with fail
  refine HC3.out.mono ?_
  rintro e w4 ⟨rfl, bs4, HD4, _⟩
  have HC4 := Lib.hid (HD4.out.crash 6 (by omega) 5 (by simp [Bd, kn3]) (by omega) kn4 rfl)
  clear HC3 HD3
  go_wp2_with fail
  refine HC4.out.mono ?_
  rintro e w5 ⟨rfl, bs5, HD5, _⟩
  have HC5 := Lib.hid (HD5.out.read 0 (by omega) (by omega) ⟨0, [1, 2, 3, 4], 4⟩ rfl 4 rfl (by omega) [1, 2, 3, 4] rfl)
  clear HC4 HD4
  go_wp2_with fail
  refine HC5.out.mono ?_
  rintro e w6 ⟨g, rfl, HG6, _, HD6⟩
  have ht := HG6.out.text w6 (Below.refl _ _)
  have HC6 := Lib.hid (HD6.out.sure 0 (by omega) (by omega) 4 rfl)
  have HC7 := Lib.hid (HD6.out.sync 7 (by omega) (by omega) kn4 rfl 71 rfl)
  clear HC5 HD5
  go_wp2_with fail
  refine HC6.out.mono ?_
  rintro e w' ⟨rfl, rfl⟩
  go_wp2_with fail
  refine HC7.out.mono ?_
  rintro e w7 ⟨rfl, bs7, HD7, _⟩
  have HC8 := Lib.hid (write_no (S := S) (-1) (.slice none 0 0) w7 (.inl (by omega)))
  clear HC6 HC7 HD6 ht
  go_wp2_with fail
  refine HC8.out.mono ?_
  rintro e w' ⟨rfl, rfl⟩
  have HB := Lib.hid HD7.out.2.1
  clear HC8 HD7
  go_wp2_with fail
  go_ret
  exact ⟨rfl, HB⟩
end Go.Proofs.Ytbfcjfeckonklaa
