/-
  Proved: ItemBack returns true for all bytes: an item that may be is told back; one byte more, and it is none. No condition.
-/
import Derived.Test.YtkkojjebggmcfaaAgain
import Derived.Test.YtkkojjebggmcfaaItemMore
import Derived.Test.YtkkojjebggmcfaaItemDecOk
import Derived.Test.YtkkojjebggmcfaaItemSame
import Derived.Test.YtkkojjebggmcfaaItemItem
import Derived.Test.YtkkojjebggmcfaaItemKnown
namespace Go.Proofs.Ytkkojjebggmcfaa
open Go.ChangeShapes Go.WideShapes Go.ChangeAt Go.RowKit Go.Proofs.NumMath Go.Proofs.ItemMath
theorem own_lower {base base' : Nat} {w : World} {e : TypeId} {v : Value} {n : Nat} {xs : List Value} (h : base' ≤ base) (ho : w.ownsRow base e 1 v n xs) : w.ownsRow base' e 1 v n xs :=
  ⟨ho.1, ho.2.imp id fun ⟨g, cap, cur, e, hg, r⟩ => ⟨g, cap, cur, e, Nat.le_trans h hg, r⟩⟩

set_option linter.unusedSimpArgs false in
set_option linter.unusedVariables false in
set_option maxRecDepth 100000 in
set_option maxHeartbeats 4000000 in
theorem back_log (A : Option Addr) (cs : List UInt8) (lc cc : Nat) (x : UInt8) (w : World) (hlc : cs.length = lc) (hl : lc ≤ cc) (hcc : cc ≤ 9223372036854775807) (hA : Holds8 w.heap.size w A cs) (hk : isLog cs = true) :
    Calls Try.prog 7 #[.slice A lc cc, .int .u8 (x.toNat : Int)] w fun e w' => e = .returned (.bool true) ∧ Below w.heap.size w w' := by
  have hI := item_log A cs lc cc w hlc hl hcc hA hk
  have hright := logOf_right (cs.drop 1)
  have hp := rightLog_parts hright
  obtain ⟨l, hlq⟩ : ∃ l, logOf (cs.drop 1) = l := ⟨_, rfl⟩
  rw [hlq] at hI hright hp
  have hread := readLog_enc 2 l hp.1 (by omega) ⟨hp.2.2.2.1, hp.2.2.2.2.1⟩ hp.2.2.2.2.2
  have hreadx := readLog_more 2 l [x] (.inr ⟨x, rfl⟩) hp.1 (by omega) ⟨hp.2.2.2.1, hp.2.2.2.2.1⟩ hp.2.2.2.2.2
  have hlen : (encLog l).length ≤ 1000 := by
    have q1 := fieldT_len (k := 1) (s := l.key.data.toList) (by omega) (by simp; omega)
    have q2 := fieldN_len (k := 2) (n := l.weight) (by omega) (by omega)
    have q3 := fieldN_len (k := 3) (n := l.at_.toNat) (by omega) (by omega)
    have q4 := fieldT_len (k := 4) (s := l.body.data.toList) (by omega) (by simp; omega)
    rw [size_list] at q1 q4
    simp only [encLog, List.length_append]
    omega
  obtain ⟨z, hz⟩ : ∃ z, (2 : UInt8) :: encLog l = z := ⟨_, rfl⟩
  have hzx : (2 : UInt8) :: (encLog l ++ [x]) = z ++ [x] := by rw [← hz]; rfl
  rw [hz] at hread
  rw [hzx] at hreadx
  have hz0 : z.getD 0 0 = 2 := by rw [← hz]; rfl
  obtain ⟨m, hm⟩ : ∃ m, z.length = m := ⟨_, rfl⟩
  have hmb : m ≤ 1001 := by rw [← hm, ← hz]; simp; omega
  have hm0 : 0 < m := by rw [← hm, ← hz]; simp
  have hzx0 : (z ++ [x]).getD 0 0 = 2 := by rw [← hz]; rfl
  have hne : ¬ (2 : UInt8) :: encLog l = z ++ [x] := fun h => by
    have := congrArg List.length h
    rw [hz] at this
    simp at this
  have hmx : (z ++ [x]).length = m + 1 := by simp [hm]
  obtain ⟨key, weight, a, body⟩ := l
  dsimp only at hI
  have hD := fun (A' : Option Addr) (c : Nat) (W : World) (h1 : m ≤ c) (h2 : c ≤ 9223372036854775807) (h3 : Holds8 W.heap.size W A' z) => decode_log A' z m c W hm hm0 h1 h2 h3 hz0 (by rw [hread]; exact hright) (by rw [hread]; exact hz)
  rw [hread] at hD
  dsimp only at hD
  have hDX := fun (A' : Option Addr) (c : Nat) (W : World) (h1 : m + 1 ≤ c) (h2 : c ≤ 9223372036854775807) (h3 : Holds8 W.heap.size W A' (z ++ [x])) => decode_log_other A' (z ++ [x]) (m + 1) c W hmx (by omega) h1 h2 h3 hzx0 (by rw [hreadx]; exact hright) (by rw [hreadx]; exact hne)
  have HI := Lib.hid hI
  have HD := Lib.hid hD
  have HDX := Lib.hid hDX
  have HRI := Lib.hid hright
  have HZ := Lib.hid hz
  have HM := Lib.hid hm
  have HMX := Lib.hid hmx
  clear hI hD hDX hright hz hm hmx hzx hread hreadx hz0 hzx0 hne hlen hlq hA hlc hk
  go_enter Try.func7, Try.ntmps7
  go_wp2_with fail
  refine (HI.out).mono ?_
  rintro e w1 ⟨rfl, hb⟩
  have HB1 := Lib.hid ((Below.refl w.heap.size w).trans (hb.mono ((Below.refl w.heap.size w)).size))
  clear hb
  go_wp2_with fail
  generalize hX : w1.alloc (.cells #[.int .u8 2, .int .u64 0, .int .u64 0, .int .u64 0, .int .u64 0, .string ⟨#[]⟩, .int .i64 0, .int .i64 0, .bool false, .slice none 0 0, .int .u64 0, .string key, .int .u64 (weight : Int), .int .i64 a, .string body] 38) = X1
  have hx : Below w1.heap.size w1 X1 := by rw [← hX]; exact (Below.refl _ _).alloc (Nat.le_refl _) _
  have G1 : Hid (Blk X1 w1.heap.size #[.int .u8 2, .int .u64 0, .int .u64 0, .int .u64 0, .int .u64 0, .string ⟨#[]⟩, .int .i64 0, .int .i64 0, .bool false, .slice none 0 0, .int .u64 0, .string key, .int .u64 (weight : Int), .int .i64 a, .string body] 38) := Lib.hid (by rw [← hX]; exact blk_new _ _ _)
  have HX1 := Lib.hid (HB1.out.trans (hx.mono (HB1.out).size))
  clear hX hx
  have z0 : X1.cell? ⟨w1.heap.size, 0, none⟩ = some (.int .u8 2) := G1.out.cell 0 rfl
  have z1 : X1.cell? ⟨w1.heap.size, 1, none⟩ = some (.int .u64 0) := G1.out.cell 1 rfl
  have z2 : X1.cell? ⟨w1.heap.size, 2, none⟩ = some (.int .u64 0) := G1.out.cell 2 rfl
  have z3 : X1.cell? ⟨w1.heap.size, 3, none⟩ = some (.int .u64 0) := G1.out.cell 3 rfl
  have z4 : X1.cell? ⟨w1.heap.size, 4, none⟩ = some (.int .u64 0) := G1.out.cell 4 rfl
  have z5 : X1.cell? ⟨w1.heap.size, 5, none⟩ = some (.string ⟨#[]⟩) := G1.out.cell 5 rfl
  have z6 : X1.cell? ⟨w1.heap.size, 6, none⟩ = some (.int .i64 0) := G1.out.cell 6 rfl
  have z7 : X1.cell? ⟨w1.heap.size, 7, none⟩ = some (.int .i64 0) := G1.out.cell 7 rfl
  have z8 : X1.cell? ⟨w1.heap.size, 8, none⟩ = some (.bool false) := G1.out.cell 8 rfl
  have z9 : X1.cell? ⟨w1.heap.size, 9, none⟩ = some (.slice none 0 0) := G1.out.cell 9 rfl
  have z10 : X1.cell? ⟨w1.heap.size, 10, none⟩ = some (.int .u64 0) := G1.out.cell 10 rfl
  have z11 : X1.cell? ⟨w1.heap.size, 11, none⟩ = some (.string key) := G1.out.cell 11 rfl
  have z12 : X1.cell? ⟨w1.heap.size, 12, none⟩ = some (.int .u64 (weight : Int)) := G1.out.cell 12 rfl
  have z13 : X1.cell? ⟨w1.heap.size, 13, none⟩ = some (.int .i64 a) := G1.out.cell 13 rfl
  have z14 : X1.cell? ⟨w1.heap.size, 14, none⟩ = some (.string body) := G1.out.cell 14 rfl
  go_wp2_with fail
  refine (encode_log key body weight a X1 HRI.out z m HZ.out HM.out).mono ?_
  rintro e w2 ⟨A2, c2, rfl, hown, hb⟩
  have G1_2 := Lib.hid (G1.out.same (hb.block _ G1.out.lt))
  clear G1
  have HB2 := Lib.hid (HX1.out.trans (hb.mono (HX1.out).size))
  have hown := own_lower HX1.out.size hown
  obtain ⟨hc1, hc2, hc3⟩ := own_facts hown
  rw [HM.out] at hc1
  have HO := Lib.hid hown
  have hcA : A2 = none → c2 = 0 := fun h => by
    rcases hown.2 with ⟨e, _⟩ | ⟨g, _, _, e, _⟩
    · injection e
    · rw [h] at e; injection e with e; cases e
  have HCA := Lib.hid hcA
  clear hb hown hc3 hcA
  clear z0 z1 z2 z3 z4 z5 z6 z7 z8 z9 z10 z11 z12 z13 z14
  go_wp2_with fail
  refine (HD.out A2 c2 w2 hc1 hc2 (own_facts HO.out).2.2).mono ?_
  rintro e w3 ⟨rfl, hb⟩
  have G1_3 := Lib.hid (G1_2.out.same (hb.block _ G1_2.out.lt))
  clear G1_2
  have HO_3 := Lib.hid (own_later HO.out hb)
  clear HO
  have HB3 := Lib.hid (HB2.out.trans (hb.mono (HB2.out).size))
  clear hb
  have hx : Below w3.heap.size w3 (w3.alloc (.cells #[.int .u8 2, .int .u64 0, .int .u64 0, .int .u64 0, .int .u64 0, .string ⟨#[]⟩, .int .i64 0, .int .i64 0, .bool false, .slice none 0 0, .int .u64 0, .string key, .int .u64 (weight : Int), .int .i64 a, .string body] 38)) := (Below.refl _ _).alloc (Nat.le_refl _) _
  have G1_x3 := Lib.hid (G1_3.out.same (hx.block _ G1_3.out.lt))
  clear G1_3
  have HO_x3 := Lib.hid (own_later HO_3.out hx)
  clear HO_3
  have z0 : (w3.alloc (.cells #[.int .u8 2, .int .u64 0, .int .u64 0, .int .u64 0, .int .u64 0, .string ⟨#[]⟩, .int .i64 0, .int .i64 0, .bool false, .slice none 0 0, .int .u64 0, .string key, .int .u64 (weight : Int), .int .i64 a, .string body] 38)).cell? ⟨w1.heap.size, 0, none⟩ = some (.int .u8 2) := G1_x3.out.cell 0 rfl
  have z1 : (w3.alloc (.cells #[.int .u8 2, .int .u64 0, .int .u64 0, .int .u64 0, .int .u64 0, .string ⟨#[]⟩, .int .i64 0, .int .i64 0, .bool false, .slice none 0 0, .int .u64 0, .string key, .int .u64 (weight : Int), .int .i64 a, .string body] 38)).cell? ⟨w1.heap.size, 1, none⟩ = some (.int .u64 0) := G1_x3.out.cell 1 rfl
  have z2 : (w3.alloc (.cells #[.int .u8 2, .int .u64 0, .int .u64 0, .int .u64 0, .int .u64 0, .string ⟨#[]⟩, .int .i64 0, .int .i64 0, .bool false, .slice none 0 0, .int .u64 0, .string key, .int .u64 (weight : Int), .int .i64 a, .string body] 38)).cell? ⟨w1.heap.size, 2, none⟩ = some (.int .u64 0) := G1_x3.out.cell 2 rfl
  have z3 : (w3.alloc (.cells #[.int .u8 2, .int .u64 0, .int .u64 0, .int .u64 0, .int .u64 0, .string ⟨#[]⟩, .int .i64 0, .int .i64 0, .bool false, .slice none 0 0, .int .u64 0, .string key, .int .u64 (weight : Int), .int .i64 a, .string body] 38)).cell? ⟨w1.heap.size, 3, none⟩ = some (.int .u64 0) := G1_x3.out.cell 3 rfl
  have z4 : (w3.alloc (.cells #[.int .u8 2, .int .u64 0, .int .u64 0, .int .u64 0, .int .u64 0, .string ⟨#[]⟩, .int .i64 0, .int .i64 0, .bool false, .slice none 0 0, .int .u64 0, .string key, .int .u64 (weight : Int), .int .i64 a, .string body] 38)).cell? ⟨w1.heap.size, 4, none⟩ = some (.int .u64 0) := G1_x3.out.cell 4 rfl
  have z5 : (w3.alloc (.cells #[.int .u8 2, .int .u64 0, .int .u64 0, .int .u64 0, .int .u64 0, .string ⟨#[]⟩, .int .i64 0, .int .i64 0, .bool false, .slice none 0 0, .int .u64 0, .string key, .int .u64 (weight : Int), .int .i64 a, .string body] 38)).cell? ⟨w1.heap.size, 5, none⟩ = some (.string ⟨#[]⟩) := G1_x3.out.cell 5 rfl
  have z6 : (w3.alloc (.cells #[.int .u8 2, .int .u64 0, .int .u64 0, .int .u64 0, .int .u64 0, .string ⟨#[]⟩, .int .i64 0, .int .i64 0, .bool false, .slice none 0 0, .int .u64 0, .string key, .int .u64 (weight : Int), .int .i64 a, .string body] 38)).cell? ⟨w1.heap.size, 6, none⟩ = some (.int .i64 0) := G1_x3.out.cell 6 rfl
  have z7 : (w3.alloc (.cells #[.int .u8 2, .int .u64 0, .int .u64 0, .int .u64 0, .int .u64 0, .string ⟨#[]⟩, .int .i64 0, .int .i64 0, .bool false, .slice none 0 0, .int .u64 0, .string key, .int .u64 (weight : Int), .int .i64 a, .string body] 38)).cell? ⟨w1.heap.size, 7, none⟩ = some (.int .i64 0) := G1_x3.out.cell 7 rfl
  have z8 : (w3.alloc (.cells #[.int .u8 2, .int .u64 0, .int .u64 0, .int .u64 0, .int .u64 0, .string ⟨#[]⟩, .int .i64 0, .int .i64 0, .bool false, .slice none 0 0, .int .u64 0, .string key, .int .u64 (weight : Int), .int .i64 a, .string body] 38)).cell? ⟨w1.heap.size, 8, none⟩ = some (.bool false) := G1_x3.out.cell 8 rfl
  have z9 : (w3.alloc (.cells #[.int .u8 2, .int .u64 0, .int .u64 0, .int .u64 0, .int .u64 0, .string ⟨#[]⟩, .int .i64 0, .int .i64 0, .bool false, .slice none 0 0, .int .u64 0, .string key, .int .u64 (weight : Int), .int .i64 a, .string body] 38)).cell? ⟨w1.heap.size, 9, none⟩ = some (.slice none 0 0) := G1_x3.out.cell 9 rfl
  have z10 : (w3.alloc (.cells #[.int .u8 2, .int .u64 0, .int .u64 0, .int .u64 0, .int .u64 0, .string ⟨#[]⟩, .int .i64 0, .int .i64 0, .bool false, .slice none 0 0, .int .u64 0, .string key, .int .u64 (weight : Int), .int .i64 a, .string body] 38)).cell? ⟨w1.heap.size, 10, none⟩ = some (.int .u64 0) := G1_x3.out.cell 10 rfl
  have z11 : (w3.alloc (.cells #[.int .u8 2, .int .u64 0, .int .u64 0, .int .u64 0, .int .u64 0, .string ⟨#[]⟩, .int .i64 0, .int .i64 0, .bool false, .slice none 0 0, .int .u64 0, .string key, .int .u64 (weight : Int), .int .i64 a, .string body] 38)).cell? ⟨w1.heap.size, 11, none⟩ = some (.string key) := G1_x3.out.cell 11 rfl
  have z12 : (w3.alloc (.cells #[.int .u8 2, .int .u64 0, .int .u64 0, .int .u64 0, .int .u64 0, .string ⟨#[]⟩, .int .i64 0, .int .i64 0, .bool false, .slice none 0 0, .int .u64 0, .string key, .int .u64 (weight : Int), .int .i64 a, .string body] 38)).cell? ⟨w1.heap.size, 12, none⟩ = some (.int .u64 (weight : Int)) := G1_x3.out.cell 12 rfl
  have z13 : (w3.alloc (.cells #[.int .u8 2, .int .u64 0, .int .u64 0, .int .u64 0, .int .u64 0, .string ⟨#[]⟩, .int .i64 0, .int .i64 0, .bool false, .slice none 0 0, .int .u64 0, .string key, .int .u64 (weight : Int), .int .i64 a, .string body] 38)).cell? ⟨w1.heap.size, 13, none⟩ = some (.int .i64 a) := G1_x3.out.cell 13 rfl
  have z14 : (w3.alloc (.cells #[.int .u8 2, .int .u64 0, .int .u64 0, .int .u64 0, .int .u64 0, .string ⟨#[]⟩, .int .i64 0, .int .i64 0, .bool false, .slice none 0 0, .int .u64 0, .string key, .int .u64 (weight : Int), .int .i64 a, .string body] 38)).cell? ⟨w1.heap.size, 14, none⟩ = some (.string body) := G1_x3.out.cell 14 rfl
  have HX3 := Lib.hid (HB3.out.trans (hx.mono (HB3.out).size))
  clear hx
  go_wp2_with fail
  clear z0 z1 z2 z3 z4 z5 z6 z7 z8 z9 z10 z11 z12 z13 z14
  generalize (w3.alloc (.cells #[.int .u8 2, .int .u64 0, .int .u64 0, .int .u64 0, .int .u64 0, .string ⟨#[]⟩, .int .i64 0, .int .i64 0, .bool false, .slice none 0 0, .int .u64 0, .string key, .int .u64 (weight : Int), .int .i64 a, .string body] 38)) = X3 at *
  clear G1_x3
  refine (same_any 2 0 0 0 0 0 0 0 0 weight ⟨#[]⟩ key body 0 0 a false none none [] X3 rfl (by omega) (fun h => absurd h (by simp)) (fun h => absurd h (by simp))).mono ?_
  rintro e w4 ⟨rfl, hb⟩
  have HO_4 := Lib.hid (own_later HO_x3.out hb)
  clear HO_x3
  have HB4 := Lib.hid (HX3.out.trans (hb.mono (HX3.out).size))
  clear hb
  have hbY : Below w4.heap.size w4 (w4.alloc (.cells #[.int .u8 (x.toNat : Int)] 5)) := (Below.refl _ _).alloc (Nat.le_refl _) _
  have HOY := Lib.hid (own_later HO_4.out hbY)
  have HBY := Lib.hid (HB4.out.trans (hbY.mono (HB4.out).size))
  have hHx : Holds8 (w4.alloc (.cells #[.int .u8 (x.toNat : Int)] 5)).heap.size (w4.alloc (.cells #[.int .u8 (x.toNat : Int)] 5)) (some ⟨w4.heap.size, 0, none⟩) [x] := holds_new [x] rfl
  have HHX := Lib.hid hHx
  have hszY : w.heap.size ≤ (w4.alloc (.cells #[.int .u8 (x.toNat : Int)] 5)).heap.size := HBY.out.size
  clear hbY hHx
  clear HO_4
  go_wp2_with (at_builtin; refine app_bytes rfl (.tmp 28) (.tmp 30) rfl w.heap.size (w4.alloc (.cells #[.int .u8 (x.toNat : Int)] 5)).heap.size (.slice A2 m c2) z [x] (z ++ [x]) (m + 1) rfl HMX.out rfl HOY.out (some ⟨w4.heap.size, 0, none⟩) 1 1 rfl rfl HHX.out (fun h => by cases h) (by omega) hszY ?_; intro A5 c5 w9 hown9 hgr9; have hB9 := below_grown HBY.out hszY HOY.out hgr9; have HO9 := Lib.hid hown9; have HB9 := Lib.hid hB9; clear hown9 hgr9 hB9)
  obtain ⟨hd1, hd2, _⟩ := own_facts HO9.out
  rw [HMX.out] at hd1
  refine (HDX.out A5 c5 w9 hd1 hd2 (own_facts HO9.out).2.2).mono ?_
  rintro e wa ⟨rfl, hb⟩
  have HBA := Lib.hid (HB9.out.trans (hb.mono HB9.out.size))
  clear hb
  go_wp2_with fail
  generalize hX : wa.alloc (.cells #[.int .u8 0, .int .u64 0, .int .u64 0, .int .u64 0, .int .u64 0, .string ⟨#[]⟩, .int .i64 0, .int .i64 0, .bool false, .slice none 0 0, .int .u64 0, .string ⟨#[]⟩, .int .u64 0, .int .i64 0, .string ⟨#[]⟩] 38) = X5
  have hx : Below wa.heap.size wa X5 := by rw [← hX]; exact (Below.refl _ _).alloc (Nat.le_refl _) _
  have HBX := Lib.hid (HBA.out.trans (hx.mono HBA.out.size))
  clear hX hx
  refine (known_any X5).mono ?_
  rintro e wb ⟨rfl, hb⟩
  have HBB := Lib.hid (HBX.out.trans (hb.mono HBX.out.size))
  clear hb
  go_wp2_with fail
  go_ret
  exact ⟨rfl, HBB.out⟩

set_option linter.unusedSimpArgs false in
set_option linter.unusedVariables false in
set_option maxRecDepth 100000 in
set_option maxHeartbeats 4000000 in
theorem back_span (A : Option Addr) (cs : List UInt8) (lc cc : Nat) (x : UInt8) (w : World) (hlc : cs.length = lc) (hl : lc ≤ cc) (hcc : cc ≤ 9223372036854775807) (hA : Holds8 w.heap.size w A cs) (hk : isLog cs = false) :
    Calls Try.prog 7 #[.slice A lc cc, .int .u8 (x.toNat : Int)] w fun e w' => e = .returned (.bool true) ∧ Below w.heap.size w w' := by
  have hI := item_span A cs lc cc w hlc hl hcc hA hk
  have hright := spanOf_right cs
  have hp := right_parts hright
  obtain ⟨b1, b2, b3, b4, _⟩ := spanOf_fits cs
  obtain ⟨l, hlq⟩ : ∃ l, spanOf cs = l := ⟨_, rfl⟩
  rw [hlq] at hI hright hp b1 b2 b3 b4
  obtain ⟨p1, p2, p3, p4, p5, p6, p7, p8⟩ := hp
  have hread := readSpan_enc 1 l b1 b2 b3 b4 p1 ⟨p2, p3⟩ ⟨p4, p5⟩ (by omega) p6 p8
  have hreadx := readSpan_more 1 l [x] (.inr ⟨x, rfl⟩) b1 b2 b3 b4 p1 ⟨p2, p3⟩ ⟨p4, p5⟩ (by omega) p6 p8
  have hlen : (encSpan l).length ≤ 5000 := by
    have q1 := fieldN_len (k := 1) (by omega) b1
    have q2 := fieldN_len (k := 2) (by omega) b2
    have q3 := fieldN_len (k := 3) (by omega) b3
    have q4 := fieldN_len (k := 4) (by omega) b4
    have q5 := fieldT_len (k := 5) (s := l.name.data.toList) (by omega) (by simp; omega)
    rw [size_list] at q5
    have q6 := fieldN_len (k := 6) (n := l.start.toNat) (by omega) (by omega)
    have q7 := fieldN_len (k := 7) (n := l.stop.toNat) (by omega) (by omega)
    have q8 := fieldN_len (k := 8) (n := badN l.bad) (by omega) (by unfold badN; split <;> omega)
    have q9 := fieldN_len (k := 9) (n := l.rv) (by omega) (by omega)
    have q10 := attrFields_len l.attrs (fun a ha => (p8 a ha).2)
    simp only [encSpan, List.length_append]
    omega
  obtain ⟨z, hz⟩ : ∃ z, (1 : UInt8) :: encSpan l = z := ⟨_, rfl⟩
  have hzx : (1 : UInt8) :: (encSpan l ++ [x]) = z ++ [x] := by rw [← hz]; rfl
  rw [hz] at hread
  rw [hzx] at hreadx
  have hz0 : z.getD 0 0 = 1 := by rw [← hz]; rfl
  obtain ⟨m, hm⟩ : ∃ m, z.length = m := ⟨_, rfl⟩
  have hmb : m ≤ 5001 := by rw [← hm, ← hz]; simp; omega
  have hm0 : 0 < m := by rw [← hm, ← hz]; simp
  have hzx0 : (z ++ [x]).getD 0 0 = 1 := by rw [← hz]; rfl
  have hne : ¬ (1 : UInt8) :: encSpan l = z ++ [x] := fun h => by
    have := congrArg List.length h
    rw [hz] at this
    simp at this
  have hmx : (z ++ [x]).length = m + 1 := by simp [hm]
  obtain ⟨hi, lo, id, par, name, start, stop, bad, al, rv⟩ := l
  dsimp only at hI b1 b2 b3 b4 p6
  have hD := fun (A' : Option Addr) (c : Nat) (W : World) (h1 : m ≤ c) (h2 : c ≤ 9223372036854775807) (h3 : Holds8 W.heap.size W A' z) => decode_span A' z m c W hm hm0 h1 h2 h3 hz0 (by rw [hread]; exact hright) (by rw [hread]; exact hz)
  rw [hread] at hD
  dsimp only at hD
  have hDX := fun (A' : Option Addr) (c : Nat) (W : World) (h1 : m + 1 ≤ c) (h2 : c ≤ 9223372036854775807) (h3 : Holds8 W.heap.size W A' (z ++ [x])) => decode_span_other A' (z ++ [x]) (m + 1) c W hmx (by omega) h1 h2 h3 hzx0 (by rw [hreadx]; exact hright) (by rw [hreadx]; exact hne)
  have HI := Lib.hid hI
  have HD := Lib.hid hD
  have HDX := Lib.hid hDX
  have HRI := Lib.hid hright
  have HZ := Lib.hid hz
  have HM := Lib.hid hm
  have HMX := Lib.hid hmx
  clear hI hD hDX hright hz hm hmx hzx hread hreadx hz0 hzx0 hne hlen hlq hA hlc hk
  go_enter Try.func7, Try.ntmps7
  go_wp2_with fail
  refine (HI.out).mono ?_
  rintro e w1 ⟨A1, n1, c1, rfl, hn1, hA1, hb⟩
  have HB1 := Lib.hid ((Below.refl w.heap.size w).trans (hb.mono ((Below.refl w.heap.size w)).size))
  have HN1 := Lib.hid hn1.symm
  have hl1 : n1 ≤ 8 := by omega
  have HA1 := Lib.hid hA1
  clear hb hn1 hA1
  go_wp2_with fail
  generalize hX : w1.alloc (.cells #[.int .u8 1, .int .u64 (hi : Int), .int .u64 (lo : Int), .int .u64 (id : Int), .int .u64 (par : Int), .string name, .int .i64 start, .int .i64 stop, .bool bad, .slice A1 n1 c1, .int .u64 (rv : Int), .string ⟨#[]⟩, .int .u64 0, .int .i64 0, .string ⟨#[]⟩] 38) = X1
  have hx : Below w1.heap.size w1 X1 := by rw [← hX]; exact (Below.refl _ _).alloc (Nat.le_refl _) _
  have HA1_x1 := Lib.hid (HA1.out.later hx)
  clear HA1
  have G1 : Hid (Blk X1 w1.heap.size #[.int .u8 1, .int .u64 (hi : Int), .int .u64 (lo : Int), .int .u64 (id : Int), .int .u64 (par : Int), .string name, .int .i64 start, .int .i64 stop, .bool bad, .slice A1 n1 c1, .int .u64 (rv : Int), .string ⟨#[]⟩, .int .u64 0, .int .i64 0, .string ⟨#[]⟩] 38) := Lib.hid (by rw [← hX]; exact blk_new _ _ _)
  have HX1 := Lib.hid (HB1.out.trans (hx.mono (HB1.out).size))
  clear hX hx
  have z0 : X1.cell? ⟨w1.heap.size, 0, none⟩ = some (.int .u8 1) := G1.out.cell 0 rfl
  have z1 : X1.cell? ⟨w1.heap.size, 1, none⟩ = some (.int .u64 (hi : Int)) := G1.out.cell 1 rfl
  have z2 : X1.cell? ⟨w1.heap.size, 2, none⟩ = some (.int .u64 (lo : Int)) := G1.out.cell 2 rfl
  have z3 : X1.cell? ⟨w1.heap.size, 3, none⟩ = some (.int .u64 (id : Int)) := G1.out.cell 3 rfl
  have z4 : X1.cell? ⟨w1.heap.size, 4, none⟩ = some (.int .u64 (par : Int)) := G1.out.cell 4 rfl
  have z5 : X1.cell? ⟨w1.heap.size, 5, none⟩ = some (.string name) := G1.out.cell 5 rfl
  have z6 : X1.cell? ⟨w1.heap.size, 6, none⟩ = some (.int .i64 start) := G1.out.cell 6 rfl
  have z7 : X1.cell? ⟨w1.heap.size, 7, none⟩ = some (.int .i64 stop) := G1.out.cell 7 rfl
  have z8 : X1.cell? ⟨w1.heap.size, 8, none⟩ = some (.bool bad) := G1.out.cell 8 rfl
  have z9 : X1.cell? ⟨w1.heap.size, 9, none⟩ = some (.slice A1 n1 c1) := G1.out.cell 9 rfl
  have z10 : X1.cell? ⟨w1.heap.size, 10, none⟩ = some (.int .u64 (rv : Int)) := G1.out.cell 10 rfl
  have z11 : X1.cell? ⟨w1.heap.size, 11, none⟩ = some (.string ⟨#[]⟩) := G1.out.cell 11 rfl
  have z12 : X1.cell? ⟨w1.heap.size, 12, none⟩ = some (.int .u64 0) := G1.out.cell 12 rfl
  have z13 : X1.cell? ⟨w1.heap.size, 13, none⟩ = some (.int .i64 0) := G1.out.cell 13 rfl
  have z14 : X1.cell? ⟨w1.heap.size, 14, none⟩ = some (.string ⟨#[]⟩) := G1.out.cell 14 rfl
  go_wp2_with fail
  refine (encode_span hi lo id par rv name start stop bad A1 al n1 c1 X1 b1 b2 b3 b4 HN1.out HA1_x1.out HRI.out z m HZ.out HM.out).mono ?_
  rintro e w2 ⟨A2, c2, rfl, hown, hb⟩
  have HA1_2 := Lib.hid (HA1_x1.out.later hb)
  clear HA1_x1
  have G1_2 := Lib.hid (G1.out.same (hb.block _ G1.out.lt))
  clear G1
  have HB2 := Lib.hid (HX1.out.trans (hb.mono (HX1.out).size))
  have hown := own_lower HX1.out.size hown
  obtain ⟨hc1, hc2, hc3⟩ := own_facts hown
  rw [HM.out] at hc1
  have HO := Lib.hid hown
  have hcA : A2 = none → c2 = 0 := fun h => by
    rcases hown.2 with ⟨e, _⟩ | ⟨g, _, _, e, _⟩
    · injection e
    · rw [h] at e; injection e with e; cases e
  have HCA := Lib.hid hcA
  clear hb hown hc3 hcA
  clear z0 z1 z2 z3 z4 z5 z6 z7 z8 z9 z10 z11 z12 z13 z14
  go_wp2_with fail
  refine (HD.out A2 c2 w2 hc1 hc2 (own_facts HO.out).2.2).mono ?_
  rintro e w3 ⟨A3, n3, c3, rfl, hn3, hA3, hb⟩
  have HA1_3 := Lib.hid (HA1_2.out.later hb)
  clear HA1_2
  have G1_3 := Lib.hid (G1_2.out.same (hb.block _ G1_2.out.lt))
  clear G1_2
  have HO_3 := Lib.hid (own_later HO.out hb)
  clear HO
  have HB3 := Lib.hid (HB2.out.trans (hb.mono (HB2.out).size))
  have hn31 : n3 = n1 := by rw [hn3]; exact HN1.out
  subst hn31
  have HA3 := Lib.hid hA3
  clear hb hn3 hA3
  have hx : Below w3.heap.size w3 (w3.alloc (.cells #[.int .u8 1, .int .u64 (hi : Int), .int .u64 (lo : Int), .int .u64 (id : Int), .int .u64 (par : Int), .string name, .int .i64 start, .int .i64 stop, .bool bad, .slice A3 n3 c3, .int .u64 (rv : Int), .string ⟨#[]⟩, .int .u64 0, .int .i64 0, .string ⟨#[]⟩] 38)) := (Below.refl _ _).alloc (Nat.le_refl _) _
  have HA1_x3 := Lib.hid (HA1_3.out.later hx)
  clear HA1_3
  have G1_x3 := Lib.hid (G1_3.out.same (hx.block _ G1_3.out.lt))
  clear G1_3
  have HO_x3 := Lib.hid (own_later HO_3.out hx)
  clear HO_3
  have HA3_x3 := Lib.hid (HA3.out.later hx)
  clear HA3
  have z0 : (w3.alloc (.cells #[.int .u8 1, .int .u64 (hi : Int), .int .u64 (lo : Int), .int .u64 (id : Int), .int .u64 (par : Int), .string name, .int .i64 start, .int .i64 stop, .bool bad, .slice A3 n3 c3, .int .u64 (rv : Int), .string ⟨#[]⟩, .int .u64 0, .int .i64 0, .string ⟨#[]⟩] 38)).cell? ⟨w1.heap.size, 0, none⟩ = some (.int .u8 1) := G1_x3.out.cell 0 rfl
  have z1 : (w3.alloc (.cells #[.int .u8 1, .int .u64 (hi : Int), .int .u64 (lo : Int), .int .u64 (id : Int), .int .u64 (par : Int), .string name, .int .i64 start, .int .i64 stop, .bool bad, .slice A3 n3 c3, .int .u64 (rv : Int), .string ⟨#[]⟩, .int .u64 0, .int .i64 0, .string ⟨#[]⟩] 38)).cell? ⟨w1.heap.size, 1, none⟩ = some (.int .u64 (hi : Int)) := G1_x3.out.cell 1 rfl
  have z2 : (w3.alloc (.cells #[.int .u8 1, .int .u64 (hi : Int), .int .u64 (lo : Int), .int .u64 (id : Int), .int .u64 (par : Int), .string name, .int .i64 start, .int .i64 stop, .bool bad, .slice A3 n3 c3, .int .u64 (rv : Int), .string ⟨#[]⟩, .int .u64 0, .int .i64 0, .string ⟨#[]⟩] 38)).cell? ⟨w1.heap.size, 2, none⟩ = some (.int .u64 (lo : Int)) := G1_x3.out.cell 2 rfl
  have z3 : (w3.alloc (.cells #[.int .u8 1, .int .u64 (hi : Int), .int .u64 (lo : Int), .int .u64 (id : Int), .int .u64 (par : Int), .string name, .int .i64 start, .int .i64 stop, .bool bad, .slice A3 n3 c3, .int .u64 (rv : Int), .string ⟨#[]⟩, .int .u64 0, .int .i64 0, .string ⟨#[]⟩] 38)).cell? ⟨w1.heap.size, 3, none⟩ = some (.int .u64 (id : Int)) := G1_x3.out.cell 3 rfl
  have z4 : (w3.alloc (.cells #[.int .u8 1, .int .u64 (hi : Int), .int .u64 (lo : Int), .int .u64 (id : Int), .int .u64 (par : Int), .string name, .int .i64 start, .int .i64 stop, .bool bad, .slice A3 n3 c3, .int .u64 (rv : Int), .string ⟨#[]⟩, .int .u64 0, .int .i64 0, .string ⟨#[]⟩] 38)).cell? ⟨w1.heap.size, 4, none⟩ = some (.int .u64 (par : Int)) := G1_x3.out.cell 4 rfl
  have z5 : (w3.alloc (.cells #[.int .u8 1, .int .u64 (hi : Int), .int .u64 (lo : Int), .int .u64 (id : Int), .int .u64 (par : Int), .string name, .int .i64 start, .int .i64 stop, .bool bad, .slice A3 n3 c3, .int .u64 (rv : Int), .string ⟨#[]⟩, .int .u64 0, .int .i64 0, .string ⟨#[]⟩] 38)).cell? ⟨w1.heap.size, 5, none⟩ = some (.string name) := G1_x3.out.cell 5 rfl
  have z6 : (w3.alloc (.cells #[.int .u8 1, .int .u64 (hi : Int), .int .u64 (lo : Int), .int .u64 (id : Int), .int .u64 (par : Int), .string name, .int .i64 start, .int .i64 stop, .bool bad, .slice A3 n3 c3, .int .u64 (rv : Int), .string ⟨#[]⟩, .int .u64 0, .int .i64 0, .string ⟨#[]⟩] 38)).cell? ⟨w1.heap.size, 6, none⟩ = some (.int .i64 start) := G1_x3.out.cell 6 rfl
  have z7 : (w3.alloc (.cells #[.int .u8 1, .int .u64 (hi : Int), .int .u64 (lo : Int), .int .u64 (id : Int), .int .u64 (par : Int), .string name, .int .i64 start, .int .i64 stop, .bool bad, .slice A3 n3 c3, .int .u64 (rv : Int), .string ⟨#[]⟩, .int .u64 0, .int .i64 0, .string ⟨#[]⟩] 38)).cell? ⟨w1.heap.size, 7, none⟩ = some (.int .i64 stop) := G1_x3.out.cell 7 rfl
  have z8 : (w3.alloc (.cells #[.int .u8 1, .int .u64 (hi : Int), .int .u64 (lo : Int), .int .u64 (id : Int), .int .u64 (par : Int), .string name, .int .i64 start, .int .i64 stop, .bool bad, .slice A3 n3 c3, .int .u64 (rv : Int), .string ⟨#[]⟩, .int .u64 0, .int .i64 0, .string ⟨#[]⟩] 38)).cell? ⟨w1.heap.size, 8, none⟩ = some (.bool bad) := G1_x3.out.cell 8 rfl
  have z9 : (w3.alloc (.cells #[.int .u8 1, .int .u64 (hi : Int), .int .u64 (lo : Int), .int .u64 (id : Int), .int .u64 (par : Int), .string name, .int .i64 start, .int .i64 stop, .bool bad, .slice A3 n3 c3, .int .u64 (rv : Int), .string ⟨#[]⟩, .int .u64 0, .int .i64 0, .string ⟨#[]⟩] 38)).cell? ⟨w1.heap.size, 9, none⟩ = some (.slice A1 n3 c1) := G1_x3.out.cell 9 rfl
  have z10 : (w3.alloc (.cells #[.int .u8 1, .int .u64 (hi : Int), .int .u64 (lo : Int), .int .u64 (id : Int), .int .u64 (par : Int), .string name, .int .i64 start, .int .i64 stop, .bool bad, .slice A3 n3 c3, .int .u64 (rv : Int), .string ⟨#[]⟩, .int .u64 0, .int .i64 0, .string ⟨#[]⟩] 38)).cell? ⟨w1.heap.size, 10, none⟩ = some (.int .u64 (rv : Int)) := G1_x3.out.cell 10 rfl
  have z11 : (w3.alloc (.cells #[.int .u8 1, .int .u64 (hi : Int), .int .u64 (lo : Int), .int .u64 (id : Int), .int .u64 (par : Int), .string name, .int .i64 start, .int .i64 stop, .bool bad, .slice A3 n3 c3, .int .u64 (rv : Int), .string ⟨#[]⟩, .int .u64 0, .int .i64 0, .string ⟨#[]⟩] 38)).cell? ⟨w1.heap.size, 11, none⟩ = some (.string ⟨#[]⟩) := G1_x3.out.cell 11 rfl
  have z12 : (w3.alloc (.cells #[.int .u8 1, .int .u64 (hi : Int), .int .u64 (lo : Int), .int .u64 (id : Int), .int .u64 (par : Int), .string name, .int .i64 start, .int .i64 stop, .bool bad, .slice A3 n3 c3, .int .u64 (rv : Int), .string ⟨#[]⟩, .int .u64 0, .int .i64 0, .string ⟨#[]⟩] 38)).cell? ⟨w1.heap.size, 12, none⟩ = some (.int .u64 0) := G1_x3.out.cell 12 rfl
  have z13 : (w3.alloc (.cells #[.int .u8 1, .int .u64 (hi : Int), .int .u64 (lo : Int), .int .u64 (id : Int), .int .u64 (par : Int), .string name, .int .i64 start, .int .i64 stop, .bool bad, .slice A3 n3 c3, .int .u64 (rv : Int), .string ⟨#[]⟩, .int .u64 0, .int .i64 0, .string ⟨#[]⟩] 38)).cell? ⟨w1.heap.size, 13, none⟩ = some (.int .i64 0) := G1_x3.out.cell 13 rfl
  have z14 : (w3.alloc (.cells #[.int .u8 1, .int .u64 (hi : Int), .int .u64 (lo : Int), .int .u64 (id : Int), .int .u64 (par : Int), .string name, .int .i64 start, .int .i64 stop, .bool bad, .slice A3 n3 c3, .int .u64 (rv : Int), .string ⟨#[]⟩, .int .u64 0, .int .i64 0, .string ⟨#[]⟩] 38)).cell? ⟨w1.heap.size, 14, none⟩ = some (.string ⟨#[]⟩) := G1_x3.out.cell 14 rfl
  have HX3 := Lib.hid (HB3.out.trans (hx.mono (HB3.out).size))
  clear hx
  go_wp2_with fail
  clear z0 z1 z2 z3 z4 z5 z6 z7 z8 z9 z10 z11 z12 z13 z14
  generalize (w3.alloc (.cells #[.int .u8 1, .int .u64 (hi : Int), .int .u64 (lo : Int), .int .u64 (id : Int), .int .u64 (par : Int), .string name, .int .i64 start, .int .i64 stop, .bool bad, .slice A3 n3 c3, .int .u64 (rv : Int), .string ⟨#[]⟩, .int .u64 0, .int .i64 0, .string ⟨#[]⟩] 38)) = X3 at *
  clear G1_x3
  refine (same_any 1 hi lo id par rv n3 c1 c3 0 name ⟨#[]⟩ ⟨#[]⟩ start stop 0 bad A1 A3 al X3 HN1.out (by omega) HA1_x3.out HA3_x3.out).mono ?_
  rintro e w4 ⟨rfl, hb⟩
  have HA1_4 := Lib.hid (HA1_x3.out.later hb)
  clear HA1_x3
  have HO_4 := Lib.hid (own_later HO_x3.out hb)
  clear HO_x3
  have HA3_4 := Lib.hid (HA3_x3.out.later hb)
  clear HA3_x3
  have HB4 := Lib.hid (HX3.out.trans (hb.mono (HX3.out).size))
  clear hb
  have hbY : Below w4.heap.size w4 (w4.alloc (.cells #[.int .u8 (x.toNat : Int)] 5)) := (Below.refl _ _).alloc (Nat.le_refl _) _
  have HOY := Lib.hid (own_later HO_4.out hbY)
  have HBY := Lib.hid (HB4.out.trans (hbY.mono (HB4.out).size))
  have hHx : Holds8 (w4.alloc (.cells #[.int .u8 (x.toNat : Int)] 5)).heap.size (w4.alloc (.cells #[.int .u8 (x.toNat : Int)] 5)) (some ⟨w4.heap.size, 0, none⟩) [x] := holds_new [x] rfl
  have HHX := Lib.hid hHx
  have hszY : w.heap.size ≤ (w4.alloc (.cells #[.int .u8 (x.toNat : Int)] 5)).heap.size := HBY.out.size
  clear hbY hHx
  clear HA1_4
  clear HO_4
  clear HA3_4
  go_wp2_with (at_builtin; refine app_bytes rfl (.tmp 28) (.tmp 30) rfl w.heap.size (w4.alloc (.cells #[.int .u8 (x.toNat : Int)] 5)).heap.size (.slice A2 m c2) z [x] (z ++ [x]) (m + 1) rfl HMX.out rfl HOY.out (some ⟨w4.heap.size, 0, none⟩) 1 1 rfl rfl HHX.out (fun h => by cases h) (by omega) hszY ?_; intro A5 c5 w9 hown9 hgr9; have hB9 := below_grown HBY.out hszY HOY.out hgr9; have HO9 := Lib.hid hown9; have HB9 := Lib.hid hB9; clear hown9 hgr9 hB9)
  obtain ⟨hd1, hd2, _⟩ := own_facts HO9.out
  rw [HMX.out] at hd1
  refine (HDX.out A5 c5 w9 hd1 hd2 (own_facts HO9.out).2.2).mono ?_
  rintro e wa ⟨rfl, hb⟩
  have HBA := Lib.hid (HB9.out.trans (hb.mono HB9.out.size))
  clear hb
  go_wp2_with fail
  generalize hX : wa.alloc (.cells #[.int .u8 0, .int .u64 0, .int .u64 0, .int .u64 0, .int .u64 0, .string ⟨#[]⟩, .int .i64 0, .int .i64 0, .bool false, .slice none 0 0, .int .u64 0, .string ⟨#[]⟩, .int .u64 0, .int .i64 0, .string ⟨#[]⟩] 38) = X5
  have hx : Below wa.heap.size wa X5 := by rw [← hX]; exact (Below.refl _ _).alloc (Nat.le_refl _) _
  have HBX := Lib.hid (HBA.out.trans (hx.mono HBA.out.size))
  clear hX hx
  refine (known_any X5).mono ?_
  rintro e wb ⟨rfl, hb⟩
  have HBB := Lib.hid (HBX.out.trans (hb.mono HBX.out.size))
  clear hb
  go_wp2_with fail
  go_ret
  exact ⟨rfl, HBB.out⟩

theorem back_walk (A : Option Addr) (cs : List UInt8) (lc cc : Nat) (x : UInt8) (w : World) (hlc : cs.length = lc) (hl : lc ≤ cc) (hcc : cc ≤ 9223372036854775807) (hA : Holds8 w.heap.size w A cs) :
    Calls Try.prog 7 #[.slice A lc cc, .int .u8 (x.toNat : Int)] w fun e w' => e = .returned (.bool true) ∧ Below w.heap.size w w' := by
  cases hk : isLog cs with
  | true => exact back_log A cs lc cc x w hlc hl hcc hA hk
  | false => exact back_span A cs lc cc x w hlc hl hcc hA hk

namespace ItemBack
set_option linter.unusedSimpArgs false in
set_option maxRecDepth 100000 in
theorem lifted (os : Os) (started : os.Started) (H : Type) (enc : TypeId × Value → H) :
    ReturnsInHanded {} Try.checked os 7 .any (Rows.itemBackSpec.pre6 enc Try.prog Try.f7 Rows.itemBackRow.domain false) (Rows.itemBackSpec.post enc Try.prog Try.f7 false true false false) := by
  refine returnsInHanded_of_change (C := Try.checked) own started (by kernel_rfl) Try.func7
    (ChangeSpec.witness6 (enc := enc) (C := Try.checked) false ⟨#[], #[.slice none 0 0, .int .u8 0], []⟩ 8 (by kernel_rfl) (by kernel_rfl) (by kernel_rfl) (by kernel_rfl)) ?_
  intro W base args ds gs before hval0 hW _ _
  have hval : ∀ (j : Nat) t v, Try.f7.params[j]? = some t → args[j]? = some v → Value.okWide Try.prog W .any base t v := hval0
  have hW' := hW
  obtain ⟨p, q, hA0, hV, rfl, _, _⟩ := hW
  have hA : DataW.TrodAll enc Try.prog W 0 (fun _ => true) true Try.f7.params.toList args.toList ds p := hA0
  rw [Try.params7] at hA hval
  obtain ⟨v0, vs0, d0, ds0, p0, q0, hargs, rfl, rfl, h0, r0⟩ := trodAll_cons hA
  obtain ⟨v1, vs1, d1, ds1, p1, q1, rfl, rfl, rfl, h1, r1⟩ := trodAll_cons r0
  obtain ⟨rfl, rfl, rfl⟩ := trodAll_nil r1
  obtain rfl : args = #[v0, v1] := by cases args; simp_all
  obtain ⟨rfl, rfl⟩ := trodVars_none hV
  obtain ⟨A0, cs0, cap0, rfl, l0, m0, b0, again0⟩ := arg_bytes (hval 0 22 v0 rfl rfl) h0
  have x0 := arg_extra h0
  obtain ⟨a1, rfl, rfl, rfl, w1⟩ := open_int Try.underlying5 (hval 1 5 v1 rfl rfl) h1
  have k1 := wf_u8 w1
  obtain ⟨n1, rfl⟩ : ∃ u : UInt8, a1 = (u.toNat : Int) := ⟨UInt8.ofNat a1.toNat, by simp; omega⟩
  clear hA0 hval0
  simp only [List.append_nil] at hW'
  refine (back_walk A0 cs0 _ cap0 n1 W rfl l0 m0 b0).mono fun e W' ⟨he, hg⟩ => ?_
  subst he
  exact ⟨_, rfl, true_last hW' rfl (by kernel_rfl) Try.underlying4 rfl rfl rfl (of_decide_eq_true (by kernel_rfl)) hg⟩

/-- **ItemBack, at every input.** -/
theorem proved : Rows.ItemBackSaid :=
  OpenClaim.holds_of_wide 7 Try.f7 rfl rfl rfl rfl rfl rfl rfl ⟨rfl, rfl, rfl, rfl, rfl⟩ rfl rfl rfl rfl rfl (by kernel_rfl) Try.func7 (by kernel_rfl)
    (of_decide_eq_true (by kernel_rfl)) (by unfold Func.isWrapper; first | (rw [if_pos (by decide +kernel)]; kernel_rfl) | (rw [if_neg (by decide +kernel)]; exact ⟨rfl, rfl⟩))
    (fun os started H enc _ => lifted os started H enc)
end ItemBack

end Go.Proofs.Ytkkojjebggmcfaa
