/-
  Proved: SketchNever returns true for every seed, shape, keys and numbers: no key is counted too low, none higher than all together, and all that is counted is told. No condition but the card's own: hash's table of steps, tied to the program's text, holds at the start what that text lays.
-/
import Derived.Test.YtmacehpfhhlnpaaDoorSkOn
namespace Go.Proofs.YtmacehpfhhlnpaaDoor
open Go.ChangeShapes Go.WideShapes Go.ChangeAt Go.RowKit Go.Proofs.HashMath Go.Proofs.SkMath

/-- Twelve numbers. -/
def ar (g : Nat → Nat) : Array Value := #[n64 (g 0), n64 (g 1), n64 (g 2), n64 (g 3), n64 (g 4), n64 (g 5), n64 (g 6), n64 (g 7), n64 (g 8), n64 (g 9), n64 (g 10), n64 (g 11)]
theorem ar_at {g : Nat → Nat} {i : Nat} (h : i < 12) : (ar g)[i]? = some (n64 (g i)) := by
  match i, h with
  | 0, _ => rfl
  | 1, _ => rfl
  | 2, _ => rfl
  | 3, _ => rfl
  | 4, _ => rfl
  | 5, _ => rfl
  | 6, _ => rfl
  | 7, _ => rfl
  | 8, _ => rfl
  | 9, _ => rfl
  | 10, _ => rfl
  | 11, _ => rfl
theorem ar_set {g h : Nat → Nat} {d : Nat} (hd : d < 12) {v : Value} (hv : v = n64 (h d)) (ho : ∀ j, j ≠ d → h j = g j) : (ar g).setIfInBounds d v = ar h := by
  subst hv
  unfold ar
  match d, hd with
  | 0, _ => simp [ho]
  | 1, _ => simp [ho]
  | 2, _ => simp [ho]
  | 3, _ => simp [ho]
  | 4, _ => simp [ho]
  | 5, _ => simp [ho]
  | 6, _ => simp [ho]
  | 7, _ => simp [ho]
  | 8, _ => simp [ho]
  | 9, _ => simp [ho]
  | 10, _ => simp [ho]
  | 11, _ => simp [ho]
/-- What the law knows: what was told of each key, what the sketch holds. -/
def Knows (r m seed : Nat) (f : Nat → Nat → Nat) (g : Nat → Nat) (all : Nat) : Prop := (∀ d, d < 12 → ∀ i, i < r → g d ≤ f i (placeOf seed (keyT d).data.toList m i)) ∧ (∀ i j, f i j ≤ all) ∧ ∀ d, g d ≤ all
theorem Knows.add {r m seed all d n : Nat} {f : Nat → Nat → Nat} {g h : Nat → Nat} (hk : Knows r m seed f g all) (hall : all + n < 18446744073709551616) (hd : h d = g d + n) (ho : ∀ j, j ≠ d → h j = g j) : Knows r m seed (add r (placeOf seed (keyT d).data.toList m) n f) h (all + n) := by
  obtain ⟨h1, h2, h3⟩ := hk
  refine ⟨fun e he i hi => ?_, add_all h2, fun e => ?_⟩
  · by_cases hed : e = d
    · subst hed
      rw [hd]
      exact add_has (by have := h3 e; omega) (h1 e he) hi
    · rw [ho e hed]
      exact Nat.le_trans (h1 e he i hi) (add_up _ _)
  · by_cases hed : e = d
    · subst hed
      rw [hd]
      have := h3 e
      omega
    · rw [ho e hed]
      have := h3 e
      omega
theorem bump (g : Nat → Nat) (d n : Nat) : ∃ h : Nat → Nat, h d = g d + n ∧ ∀ j, j ≠ d → h j = g j := ⟨fun j => if j = d then g d + n else g j, if_pos rfl, fun _ hj => if_neg hj⟩

set_option maxRecDepth 100000 in
set_option maxHeartbeats 4000000 in
theorem sketchNever_walk (seed : Nat) (a b : Nat) (A0 : Option Addr) (cs : List UInt8) (cap : Nat) (A1 : Option Addr) (ds : List UInt8) (cap1 : Nat) (hx : seed < 18446744073709551616) (ha : a ≤ 255) (hb : b ≤ 255) (hcap : cs.length ≤ cap) (w : World) (hH : Holds8 w.heap.size w A0 cs) (hH1 : Holds8 w.heap.size w A1 ds) (hS : Steps w) :
    Calls Tryd.prog 5 #[.int .u64 (seed : Int), .int .u8 (a : Int), .int .u8 (b : Int), .slice A0 cs.length cap, .slice A1 ds.length cap1] w fun e w' => e = .returned (.bool true) ∧ Below w.heap.size w w' := by
  obtain ⟨N, hN⟩ : ∃ N, cs.length = N := ⟨_, rfl⟩
  obtain ⟨M, hM⟩ : ∃ M, ds.length = M := ⟨_, rfl⟩
  rw [hN] at hcap ⊢
  rw [hM]
  obtain ⟨r, hr, hr1, hr8⟩ : ∃ r : Nat, (1 : Int) + (a : Int) % 5 = (r : Int) ∧ 1 ≤ r ∧ r ≤ 8 := ⟨1 + a % 5, by omega, by omega, by omega⟩
  obtain ⟨m, hm, hm1, hm2⟩ : ∃ m : Nat, (1 : Int) + (b : Int) % 30 = (m : Int) ∧ 1 ≤ m ∧ m ≤ 1024 := ⟨1 + b % 30, by omega, by omega, by omega⟩
  have hlt := hS.lt
  obtain ⟨n0, hn0⟩ : ∃ n0, w.heap.size = n0 := ⟨_, rfl⟩
  rw [hn0] at hH hH1 hlt ⊢
  have hNew := on_new (w := w) (W := w) r m seed hS hlt (by omega) (Below.refl _ _) hr1 hr8 hm1 hm2 hx
  have HNEW := Lib.hid hNew
  have HN := Lib.hid hN
  have HM := Lib.hid hM
  have HH := Lib.hid hH
  have HH1 := Lib.hid hH1
  clear hNew hN hM hn0 hH hH1 hS
  by_cases hbig : 60 < N
  · have d1 : decide ((60 : Int) < (N : Int)) = true := by simp; omega
    go_enter Tryd.func5, Tryd.ntmps5
    go_wp2_with fail
    refine HNEW.out.mono ?_
    rintro e w1 ⟨S, A, G, rfl, g, _, _, _, hO⟩
    have HO := Lib.hid hO
    clear hO
    go_wp2_with fail
    refine (known_any _ HO.out.steps).mono ?_
    rintro e w3 ⟨rfl, g3⟩
    have hB := Lib.hid (HO.out.later g3).b
    clear g g3
    go_wp2_with fail
    go_ret
    exact ⟨rfl, hB.out⟩
  have d1 : decide ((60 : Int) < (N : Int)) = false := by simp; omega
  go_enter Tryd.func5, Tryd.ntmps5
  go_wp2_with fail
  refine HNEW.out.mono ?_
  rintro e w1 ⟨S, A, G, rfl, _, _, _, _, hO⟩
  have HO := Lib.hid hO
  clear hO
  go_wp2_with fail
  refine (known_any _ HO.out.steps).mono ?_
  rintro e w3 ⟨rfl, g3⟩
  obtain ⟨nb, hnb⟩ : ∃ nb, w3.heap.size = nb := ⟨_, rfl⟩
  have hO3 := HO.out.later g3
  have hd : Hid (nb ∉ [S, G] ∧ S ≠ nb ∧ A ≠ nb ∧ G ≠ nb ∧ n0 ≤ nb) := Lib.hid (by
    have h1 := hO3.k.own.lt
    have h2 := hO3.k.ltA
    have h3 := hO3.k.ltG
    have h4 := hO3.le
    simp
    omega)
  have HA := Lib.hid (hO3.later (box_below (.cells (ar fun _ => 0) 44)))
  have HBL : Hid (Blk (w3.alloc (.cells (ar fun _ => 0) 44)) nb (ar fun _ => 0) 44) := Lib.hid (hnb ▸ blk_new w3 _ _)
  clear g3 hO3
  go_wp2_with fail
  go_loopw [13, 14] (fun av kv wr => ∃ k all : Nat, k ≤ N ∧ kv = .int .i64 (k : Int) ∧ av = .int .u64 (all : Int) ∧ all ≤ 255 * k ∧ Hid (∃ f g, On n0 w wr S A G r m seed f all ∧ Blk wr nb (ar g) 44 ∧ Knows r m seed f g all)) (fun _ kv _ => N - (intOf kv).toNat)
  case atStart => exact ⟨0, 0, by omega, rfl, rfl, by omega, Lib.hid ⟨_, _, HA.out, HBL.out, fun _ _ _ _ => Nat.le_refl _, fun _ _ => Nat.le_refl _, fun _ => Nat.le_refl _⟩⟩
  case round =>
    obtain ⟨k, all, hk, rfl, rfl, hal, HF⟩ := hrel
    by_cases hlt : k < N
    · have dl : decide ((k : Int) < (N : Int)) = true := by simp; omega
      obtain ⟨f, g, hO, hbl, hkn⟩ := HF.out
      obtain ⟨bb, off, rfl, hbb, hc⟩ := HH.out (by rw [HN.out]; omega)
      have hcl := hc k (by rw [HN.out]; exact hlt)
      obtain ⟨c, hcv⟩ : ∃ c, cs.getD k 0 = c := ⟨_, rfl⟩
      rw [hcv] at hcl
      unfold b8 at hcl
      have hcu := c.toNat_lt
      obtain ⟨y, hy⟩ : ∃ y : Nat, (c.toNat : Int) = (y : Int) := ⟨_, rfl⟩
      have hyl : y ≤ 255 := by omega
      rw [hy] at hcl
      obtain ⟨d, hd0, hdd, hdl⟩ : ∃ d : Nat, y % 12 = d ∧ (y : Int) % 12 = (d : Int) ∧ d < 12 := ⟨y % 12, rfl, by omega, by omega⟩
      have HD0 := Lib.hid hd0
      have HCL := Lib.hid hcl
      have hcl1 : wr.cell? ⟨bb, off + k, none⟩ = some (.int .u8 (y : Int)) := (hO.b.cell (p := ⟨bb, off + k, none⟩) hbb).trans hcl
      have hisd : wr.cell? ⟨nb, d, none⟩ = some (.int .u64 (g d : Int)) := hbl.cell d (ar_at hdl)
      have hisf := hbl.free d
      have hgd := hkn.2.2 d
      obtain ⟨q, hq⟩ : ∃ q, g d = q := ⟨_, rfl⟩
      rw [hq] at hisd hgd
      have HQ := Lib.hid hq
      have hky := fun W => key_any y W hyl
      rw [hd0] at hky
      have HKY := Lib.hid hky
      have HO := Lib.hid hO
      have HB := Lib.hid hbl
      have HKN := Lib.hid hkn
      clear hO hbl hkn hc hcv hy HF hcl hd0 hq hky
      by_cases hlt2 : k < M
      · have dl2 : decide ((k : Int) < (M : Int)) = true := by simp; omega
        obtain ⟨b2, off2, rfl, hbb2, hc2⟩ := HH1.out (by rw [HM.out]; omega)
        have hcl2 := hc2 k (by rw [HM.out]; exact hlt2)
        obtain ⟨c2, hcv2⟩ : ∃ c2, ds.getD k 0 = c2 := ⟨_, rfl⟩
        rw [hcv2] at hcl2
        unfold b8 at hcl2
        have hcu2 := c2.toNat_lt
        obtain ⟨z, hz⟩ : ∃ z : Nat, (c2.toNat : Int) = (z : Int) := ⟨_, rfl⟩
        have hzl : z ≤ 255 := by omega
        rw [hz] at hcl2
        have hcl3 : wr.cell? ⟨b2, off2 + k, none⟩ = some (.int .u8 (z : Int)) := (HO.out.b.cell (p := ⟨b2, off2 + k, none⟩) hbb2).trans hcl2
        clear hc2 hcv2 hcl2 hz
        obtain ⟨q2, hq2, hq2'⟩ : ∃ q2 : Nat, (q : Int) + (z : Int) = (q2 : Int) ∧ q2 = q + z := ⟨q + z, by omega, rfl⟩
        obtain ⟨t2, ht2, ht2'⟩ : ∃ t2 : Nat, (all : Int) + (z : Int) = (t2 : Int) ∧ t2 = all + z := ⟨all + z, by omega, rfl⟩
        have htl : t2 ≤ 255 * (k + 1) := by omega
        obtain ⟨h, hh1, hh2⟩ := bump g d z
        have hOs : On n0 w (wr.setCell ⟨nb, d, none⟩ (.int .u64 (q2 : Int))) S A G r m seed f all := HO.out.mut (bs := [nb]) ((Mut.refl _ _).setCell (by simp) _) (by have := hd.out.2.2.2.2; simpa using this) (by simpa using hd.out.2.1) (by simpa using hd.out.2.2.1) (by simpa using hd.out.2.2.2.1)
        have hBs : Blk (wr.setCell ⟨nb, d, none⟩ (.int .u64 (q2 : Int))) nb (ar h) 44 := by
          have := HB.out.set d (.int .u64 (q2 : Int))
          rwa [ar_set hdl (show Value.int .u64 (q2 : Int) = n64 (h d) by rw [hh1, HQ.out, ← hq2']; rfl) hh2] at this
        have hcls : (wr.setCell ⟨nb, d, none⟩ (.int .u64 (q2 : Int))).cell? ⟨bb, off + k, none⟩ = some (.int .u8 (y : Int)) := (hOs.b.cell (p := ⟨bb, off + k, none⟩) hbb).trans HCL.out
        have HOS := Lib.hid hOs
        have HBS := Lib.hid hBs
        have HH12 := Lib.hid (And.intro hh1 hh2)
        have HT2 := Lib.hid ht2'
        clear hOs hBs hh1 hh2 hq2' ht2'
        go_wp2_with fail
        refine (HKY.out _).mono ?_
        rintro e w4 ⟨rfl, g4⟩
        have HO4 := Lib.hid (HOS.out.later g4)
        have HB4 := Lib.hid (HBS.out.later g4)
        clear g4
        go_wp2_with fail
        refine (HO4.out.add (keyT d) (keyT_size _) z (by omega)).mono ?_
        rintro e w5 ⟨rfl, g5, hO5⟩
        have HB5 := Lib.hid (HB4.out.same (g5.block nb HB4.out.lt hd.out.1))
        have HO5 := Lib.hid (hO5.to rfl (show plus all z = t2 by rw [HT2.out]; exact plus_small (by omega)))
        have HK5 := Lib.hid (HT2.out ▸ HKN.out.add (h := h) (d := d) (n := z) (by omega) HH12.out.1 HH12.out.2)
        clear g5 hO5
        go_wp2_with fail
        go_roundw
        case rel => exact ⟨k + 1, t2, by omega, by go_num, rfl, by omega, Lib.hid ⟨_, _, HO5.out, HB5.out, HK5.out⟩⟩
        case measure => simp [intOf]; omega
      · have dl2 : decide ((k : Int) < (M : Int)) = false := by simp; omega
        obtain ⟨q2, hq2, hq2'⟩ : ∃ q2 : Nat, (q : Int) + 1 = (q2 : Int) ∧ q2 = q + 1 := ⟨q + 1, by omega, rfl⟩
        obtain ⟨t2, ht2, ht2'⟩ : ∃ t2 : Nat, (all : Int) + 1 = (t2 : Int) ∧ t2 = all + 1 := ⟨all + 1, by omega, rfl⟩
        have htl : t2 ≤ 255 * (k + 1) := by omega
        obtain ⟨h, hh1, hh2⟩ := bump g d 1
        have hOs : On n0 w (wr.setCell ⟨nb, d, none⟩ (.int .u64 (q2 : Int))) S A G r m seed f all := HO.out.mut (bs := [nb]) ((Mut.refl _ _).setCell (by simp) _) (by have := hd.out.2.2.2.2; simpa using this) (by simpa using hd.out.2.1) (by simpa using hd.out.2.2.1) (by simpa using hd.out.2.2.2.1)
        have hBs : Blk (wr.setCell ⟨nb, d, none⟩ (.int .u64 (q2 : Int))) nb (ar h) 44 := by
          have := HB.out.set d (.int .u64 (q2 : Int))
          rwa [ar_set hdl (show Value.int .u64 (q2 : Int) = n64 (h d) by rw [hh1, HQ.out, ← hq2']; rfl) hh2] at this
        have hcls : (wr.setCell ⟨nb, d, none⟩ (.int .u64 (q2 : Int))).cell? ⟨bb, off + k, none⟩ = some (.int .u8 (y : Int)) := (hOs.b.cell (p := ⟨bb, off + k, none⟩) hbb).trans HCL.out
        have HOS := Lib.hid hOs
        have HBS := Lib.hid hBs
        have HH12 := Lib.hid (And.intro hh1 hh2)
        have HT2 := Lib.hid ht2'
        clear hOs hBs hh1 hh2 hq2' ht2'
        go_wp2_with fail
        refine (HKY.out _).mono ?_
        rintro e w4 ⟨rfl, g4⟩
        have HO4 := Lib.hid (HOS.out.later g4)
        have HB4 := Lib.hid (HBS.out.later g4)
        clear g4
        go_wp2_with fail
        refine (HO4.out.add (keyT d) (keyT_size _) 1 (by omega)).mono ?_
        rintro e w5 ⟨rfl, g5, hO5⟩
        have HB5 := Lib.hid (HB4.out.same (g5.block nb HB4.out.lt hd.out.1))
        have HO5 := Lib.hid (hO5.to rfl (show plus all 1 = t2 by rw [HT2.out]; exact plus_small (by omega)))
        have HK5 := Lib.hid (HT2.out ▸ HKN.out.add (h := h) (d := d) (n := 1) (by omega) HH12.out.1 HH12.out.2)
        clear g5 hO5
        go_wp2_with fail
        go_roundw
        case rel => exact ⟨k + 1, t2, by omega, by go_num, rfl, by omega, Lib.hid ⟨_, _, HO5.out, HB5.out, HK5.out⟩⟩
        case measure => simp [intOf]; omega
    · obtain rfl : k = N := by omega
      have dl : decide ((k : Int) < (k : Int)) = false := by simp
      obtain ⟨f, g, hO, hbl, hkn⟩ := HF.out
      have HO := Lib.hid hO
      have HB := Lib.hid hbl
      have HKN := Lib.hid hkn
      clear hO hbl hkn HF
      go_wp2_with fail
      go_loopw [16] (fun kv wx => ∃ i : Nat, i ≤ 12 ∧ kv = .int .i64 (i : Int) ∧ Hid (On n0 w wx S A G r m seed f all ∧ Blk wx nb (ar g) 44)) (fun kv _ => 12 - (intOf kv).toNat)
      case atStart => exact ⟨0, by omega, rfl, Lib.hid ⟨HO.out, HB.out⟩⟩
      case round =>
        obtain ⟨i, hi, rfl, HR⟩ := hrel
        by_cases hlt : i < 12
        · have dl : decide ((i : Int) < 12) = true := by simp; omega
          have hky := fun W => key_any i W (by omega)
          rw [Nat.mod_eq_of_lt hlt] at hky
          have HKY := Lib.hid hky
          obtain ⟨x, hx⟩ : ∃ x, least (placeOf seed (keyT i).data.toList m) f r = x := ⟨_, rfl⟩
          obtain ⟨z, hz⟩ : ∃ z, g i = z := ⟨_, rfl⟩
          have hzx : z ≤ x := hx ▸ hz ▸ le_least (by have := HKN.out.2.2 i; omega) (HKN.out.1 i hlt)
          have hxa : x ≤ all := hx ▸ least_all hr1 HKN.out.2.1
          have e1 : decide (x < z) = false := by simp; omega
          have e2 : decide (all < x) = false := by simp; omega
          have HX := Lib.hid hx
          have HZ := Lib.hid hz
          clear hx hz hzx hxa hky
          go_wp2_with fail
          refine (HKY.out _).mono ?_
          rintro e w4 ⟨rfl, g4⟩
          have HR4 := Lib.hid (And.intro (HR.out.1.later g4) (HR.out.2.later g4))
          clear g4
          go_wp2_with fail
          refine (HR4.out.1.count (keyT i) (keyT_size _) HX.out).mono ?_
          rintro e w5 ⟨rfl, g5⟩
          have HR5 := Lib.hid (And.intro (HR4.out.1.later g5) (HR4.out.2.later g5))
          have hisd : w5.cell? ⟨nb, i, none⟩ = some (.int .u64 (z : Int)) := HZ.out ▸ HR5.out.2.cell i (ar_at hlt)
          clear g5
          go_wp2_with fail
          go_roundw
          case rel => exact ⟨i + 1, by omega, by go_num, HR5⟩
          case measure => simp [intOf]; omega
        · obtain rfl : i = 12 := by omega
          have HB1 := Lib.hid HR.out.1.b
          go_wp2_with fail
          refine HR.out.1.total.mono ?_
          rintro e w4 ⟨rfl, rfl⟩
          go_wp2_with fail
          go_ret
          exact ⟨rfl, HB1.out⟩
namespace SketchNever
set_option linter.unusedSimpArgs false in
set_option maxRecDepth 100000 in
theorem lifted (os : Os) (started : os.Started) (H : Type) (enc : TypeId × Value → H) :
    ReturnsInHanded {} Tryd.checked os 5 .any (fun w args => (Rows.sketchNeverSpec.pre enc Tryd.prog Tryd.f5 [] false w args ∧ laidMetH Tryd.prog laidL w) ∧ sizedMet enc Tryd.prog Tryd.f5 (OpenSpec.ofChange Rows.sketchNeverSpec) false w args)
      (Rows.sketchNeverSpec.post enc Tryd.prog Tryd.f5 false true false false) := by
  refine returnsInHanded_of_change_and (C := Tryd.checked) (X := fun w _ => laidMetH Tryd.prog laidL w) (fun _ _ _ hh h => h.of_heap hh) own started (by kernel_rfl) Tryd.func5
    (ChangeSpec.witness_shaped (enc := enc) (C := Tryd.checked) (os := os) (X := fun w _ => laidMetH Tryd.prog laidL w) false (World.doorLaid Tryd.prog 400 os) #[.int .u64 0, .int .u8 0, .int .u8 0, .slice none 0 0, .slice none 0 0] 8 rfl (World.shaped_of_RefB (by kernel_rfl) (by kernel_rfl)) (by kernel_rfl) (by kernel_rfl) (by kernel_rfl) (door_met os _)) ?_
  intro W base args ds gs before hval0 hW _ _ hL _
  have hS := of_laid hL
  have hval : ∀ (j : Nat) t v, Tryd.f5.params[j]? = some t → args[j]? = some v → Value.okWide Tryd.prog W .any base t v := hval0
  have hW' := hW
  obtain ⟨p, q, hA0, hV, rfl, _, _⟩ := hW
  have hA : DataW.TrodAll enc Tryd.prog W 0 (fun _ => true) true Tryd.f5.params.toList args.toList ds p := hA0
  rw [Tryd.params5] at hA hval
  obtain ⟨v0, vs0, d0, ds0, p0, q0, hargs, rfl, rfl, h0, r0⟩ := trodAll_cons hA
  obtain ⟨v1, vs1, d1, ds1, p1, q1, rfl, rfl, rfl, h1, r1⟩ := trodAll_cons r0
  obtain ⟨v2, vs2, d2, ds2, p2, q2, rfl, rfl, rfl, h2, r2⟩ := trodAll_cons r1
  obtain ⟨v3, vs3, d3, ds3, p3, q3, rfl, rfl, rfl, h3, r3⟩ := trodAll_cons r2
  obtain ⟨v4, vs4, d4, ds4, p4, q4, rfl, rfl, rfl, h4, r4⟩ := trodAll_cons r3
  obtain ⟨rfl, rfl, rfl⟩ := trodAll_nil r4
  obtain rfl : args = #[v0, v1, v2, v3, v4] := by cases args; simp_all
  obtain ⟨rfl, rfl⟩ := trodVars_none hV
  obtain ⟨a0, rfl, rfl, rfl, w0⟩ := open_int Tryd.underlying22 (hval 0 22 v0 rfl rfl) h0
  have k0 := wf_u64 w0
  obtain ⟨n0, rfl⟩ : ∃ n : Nat, a0 = n := ⟨a0.toNat, by omega⟩
  obtain ⟨a1, rfl, rfl, rfl, w1⟩ := open_int Tryd.underlying5 (hval 1 5 v1 rfl rfl) h1
  have k1 := wf_u8 w1
  obtain ⟨n1, rfl⟩ : ∃ u : UInt8, a1 = (u.toNat : Int) := ⟨UInt8.ofNat a1.toNat, by simp; omega⟩
  obtain ⟨a2, rfl, rfl, rfl, w2⟩ := open_int Tryd.underlying5 (hval 2 5 v2 rfl rfl) h2
  have k2 := wf_u8 w2
  obtain ⟨n2, rfl⟩ : ∃ u : UInt8, a2 = (u.toNat : Int) := ⟨UInt8.ofNat a2.toNat, by simp; omega⟩
  obtain ⟨A3, cs3, cap3, rfl, l3, m3, b3, again3⟩ := arg_bytes (hval 3 23 v3 rfl rfl) h3
  have x3 := arg_extra h3
  obtain ⟨A4, cs4, cap4, rfl, l4, m4, b4, again4⟩ := arg_bytes (hval 4 23 v4 rfl rfl) h4
  have x4 := arg_extra h4
  clear hA0 hval0
  simp only [List.append_nil] at hW'
  refine (sketchNever_walk n0 n1.toNat n2.toNat A3 cs3 cap3 A4 cs4 cap4 (by omega) (by have := n1.toNat_lt; omega) (by have := n2.toNat_lt; omega) l3 W b3 b4 hS).mono fun e W' ⟨he, hg⟩ => ?_
  subst he
  exact ⟨_, rfl, true_last hW' rfl (by kernel_rfl) Tryd.underlying4 rfl rfl rfl (of_decide_eq_true (by kernel_rfl)) hg⟩

/-- The row. -/
theorem said : Rows.SketchNeverSaid :=
  OpenClaim.holds_of_wide 5 Tryd.f5 rfl rfl rfl rfl rfl rfl rfl ⟨rfl, rfl, rfl, rfl, rfl⟩ rfl rfl rfl rfl rfl (by kernel_rfl) Tryd.func5 (by kernel_rfl)
    (of_decide_eq_true (by kernel_rfl)) (by unfold Func.isWrapper; first | (rw [if_pos (by decide +kernel)]; kernel_rfl) | (rw [if_neg (by decide +kernel)]; exact ⟨rfl, rfl⟩))
    (fun os started H enc _ => lifted os started H enc)
/-- **SketchNever, at every input: the card, its listed variables tied to the program's text.** -/
theorem proved : Rows.SketchNeverCardSaid :=
  Claim7.holds_tied_plain_at .later [] [.wider] true Rows.sketchNeverCard.stood.harness false
    said (fun _ h => by cases h) (by kernel_rfl) (fun _ h => by cases h) sketchNever_row_tie rfl ⟨rfl, rfl⟩ (by kernel_rfl) rfl
    (fun f fn hf hfn => by
      obtain rfl : f = 5 := Option.some.inj ((show Tryd.prog.funcNamed "telemeter/telemeterlaw07.SketchNever" = some 5 by kernel_rfl).symm.trans hf) |>.symm
      obtain rfl : fn = Tryd.f5 := (Option.some.inj (Tryd.func5.symm.trans hfn)).symm
      exact ⟨by kernel_rfl, fun j t ht => by
        rw [Tryd.params5] at ht
        have hm : t ∈ [22, 5, 5, 23, 23] := by simpa using Array.mem_of_getElem? ht
        have hall : ([22, 5, 5, 23, 23].all fun u => !Tryd.prog.wantsStandIn u) = true := by kernel_rfl
        exact (show Tryd.prog.wantsStandIn t = false by simpa using List.all_eq_true.1 hall t hm)⟩)
    (by kernel_rfl)
end SketchNever

end Go.Proofs.YtmacehpfhhlnpaaDoor
