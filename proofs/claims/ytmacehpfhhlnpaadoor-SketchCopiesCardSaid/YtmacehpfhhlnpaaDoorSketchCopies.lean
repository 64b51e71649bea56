/-
  Proved: SketchCopies returns true for every seed and keys: a copy counts on by itself, and the sketch that it was made of knows nothing of it. No condition but the card's own: hash's table of steps, tied to the program's text, holds at the start what that text lays.
-/
import Derived.Test.YtmacehpfhhlnpaaDoorSkOn
import Derived.Test.YtmacehpfhhlnpaaDoorSkCopy
namespace Go.Proofs.YtmacehpfhhlnpaaDoor
open Go.ChangeShapes Go.WideShapes Go.ChangeAt Go.RowKit Go.Proofs.HashMath Go.Proofs.SkMath

theorem On.copy {n₀ : Nat} {w W : World} {S A G r m seed tot : Nat} {f : Nat → Nat → Nat} (h : On n₀ w W S A G r m seed f tot) :
    Calls Tryd.prog 20 #[.pointer (some ⟨S, 0, none⟩)] W fun e w' => ∃ S2 A2 G2, e = .returned (.pointer (some ⟨S2, 0, none⟩)) ∧ Below W.heap.size W w' ∧ W.heap.size ≤ S2 ∧ W.heap.size ≤ A2 ∧ W.heap.size ≤ G2 ∧ On n₀ w w' S2 A2 G2 r m seed (part f r) tot :=
  (copy_any W h.k).mono fun _ _ ⟨S2, A2, G2, he, hb, hS, hA, hG, hk⟩ => ⟨S2, A2, G2, he, hb, hS, hA, hG, { st := h.st, lt := h.lt, sn := Nat.le_trans h.le hS, an := Nat.le_trans h.le hA, gn := Nat.le_trans h.le hG, le := Nat.le_trans h.le hb.size, b := h.b.trans (hb.mono h.le), k := hk }⟩
theorem On.size {n₀ : Nat} {w W : World} {S A G r m seed tot : Nat} {f : Nat → Nat → Nat} (h : On n₀ w W S A G r m seed f tot) : S < W.heap.size ∧ A < W.heap.size ∧ G < W.heap.size := ⟨h.k.own.lt, h.k.ltA, h.k.ltG⟩
theorem least_mono {p : Nat → Nat} {f g : Nat → Nat → Nat} {r : Nat} (h : ∀ i, i < r → f i (p i) ≤ g i (p i)) : least p f r ≤ least p g r :=
  le_least (least_lt _ _ _) fun i hi => Nat.le_trans (least_le hi) (h i hi)

set_option maxRecDepth 100000 in
set_option maxHeartbeats 4000000 in
theorem sketchCopies_walk (seed : Nat) (A0 : Option Addr) (cs : List UInt8) (cap : Nat) (A1 : Option Addr) (ds : List UInt8) (cap1 : Nat) (hx : seed < 18446744073709551616) (hz0 : cs.length ≤ 140737488351232) (hz1 : ds.length ≤ 140737488351232) (w : World) (hH : Holds8 w.heap.size w A0 cs) (hH1 : Holds8 w.heap.size w A1 ds) (hS : Steps w) :
    Calls Tryd.prog 8 #[.int .u64 (seed : Int), .slice A0 cs.length cap, .slice A1 ds.length cap1] w fun e w' => e = .returned (.bool true) ∧ Below w.heap.size w w' := by
  obtain ⟨N, hN⟩ : ∃ N, cs.length = N := ⟨_, rfl⟩
  obtain ⟨M, hM⟩ : ∃ M, ds.length = M := ⟨_, rfl⟩
  rw [hN] at hz0 ⊢
  rw [hM] at hz1 ⊢
  have hlt := hS.lt
  obtain ⟨n0, hn0⟩ : ∃ n0, w.heap.size = n0 := ⟨_, rfl⟩
  rw [hn0] at hH hH1 hlt ⊢
  have hNew := fun W (h1 : n0 ≤ W.heap.size) (h2 : Below n0 w W) => on_new (w := w) (W := W) 3 7 seed hS hlt h1 h2 (by omega) (by omega) (by omega) (by omega) hx
  obtain ⟨Q, hQ, hQ'⟩ : ∃ Q : Nat, (N : Int) + (M : Int) = (Q : Int) ∧ Q = N + M := ⟨N + M, by omega, rfl⟩
  have HNEW := Lib.hid hNew
  have HN := Lib.hid hN
  have HM := Lib.hid hM
  have HN0 := Lib.hid hn0
  have HH := Lib.hid hH
  have HH1 := Lib.hid hH1
  clear hNew hN hM hn0 hH hH1 hS
  by_cases hbig : 100 < Q
  · have d1 : decide ((100 : Int) < (Q : Int)) = true := by simp; omega
    clear hQ'
    go_enter Tryd.func8, Tryd.ntmps8
    go_wp2_with fail
    refine (HNEW.out _ (by rw [HN0.out]; omega) (Below.refl _ _)).mono ?_
    rintro e w1 ⟨S, A, G, rfl, g, _, _, _, hO⟩
    have HO := Lib.hid hO
    clear hO g
    go_wp2_with fail
    refine (HNEW.out _ HO.out.le HO.out.b).mono ?_
    rintro e w2 ⟨S2, A2, G2, rfl, g2, _, _, _, hO2⟩
    have HO2 := Lib.hid hO2
    clear hO2 g2
    go_wp2_with fail
    refine (known_any _ HO2.out.steps).mono ?_
    rintro e w3 ⟨rfl, g3⟩
    have hB := Lib.hid (HO2.out.later g3).b
    clear g3
    go_wp2_with fail
    go_ret
    exact ⟨rfl, hB.out⟩
  have d1 : decide ((100 : Int) < (Q : Int)) = false := by simp; omega
  have hN1 : N ≤ 100 := by omega
  have hM1 : M ≤ 100 := by omega
  clear hQ'
  go_enter Tryd.func8, Tryd.ntmps8
  go_wp2_with fail
  refine (HNEW.out _ (by rw [HN0.out]; omega) (Below.refl _ _)).mono ?_
  rintro e w1 ⟨S, A, G, rfl, _, _, _, _, hO⟩
  have HO := Lib.hid hO
  clear hO
  go_wp2_with fail
  refine (HNEW.out _ HO.out.le HO.out.b).mono ?_
  rintro e w2 ⟨S2, A2, G2, rfl, g2, hs2, ha2, hg2, hO2⟩
  have hd : Hid ((S2 ∉ [S, G] ∧ A2 ∉ [S, G] ∧ G2 ∉ [S, G]) ∧ (S ∉ [S2, G2] ∧ A ∉ [S2, G2] ∧ G ∉ [S2, G2])) := Lib.hid (by
    have h1 := HO.out.size
    simp
    omega)
  have HA := Lib.hid (HO.out.later g2)
  have HB := Lib.hid hO2
  clear hO2 g2 hs2 ha2 hg2 HO
  go_wp2_with fail
  go_loopw [9] (fun kv wr => ∃ k : Nat, k ≤ N ∧ kv = .int .i64 (k : Int) ∧ Hid (∃ f, On n0 w wr S A G 3 7 seed f k ∧ On n0 w wr S2 A2 G2 3 7 seed f k)) (fun kv _ => N - (intOf kv).toNat)
  case atStart => exact ⟨0, by omega, rfl, Lib.hid ⟨_, HA.out, HB.out⟩⟩
  case round =>
    obtain ⟨k, hk, rfl, HF⟩ := hrel
    by_cases hlt : k < N
    · have dl : decide ((k : Int) < (N : Int)) = true := by simp; omega
      obtain ⟨f, hO, hP⟩ := HF.out
      obtain ⟨bb, off, rfl, hbl, hc⟩ := HH.out (by rw [HN.out]; omega)
      have hcl := hc k (by rw [HN.out]; exact hlt)
      obtain ⟨c, hcv⟩ : ∃ c, cs.getD k 0 = c := ⟨_, rfl⟩
      rw [hcv] at hcl
      unfold b8 at hcl
      have hcu := c.toNat_lt
      obtain ⟨y, hy⟩ : ∃ y : Nat, (c.toNat : Int) = (y : Int) := ⟨_, rfl⟩
      have hyl : y ≤ 255 := by omega
      rw [hy] at hcl
      have HCL := Lib.hid hcl
      have hcl1 : wr.cell? ⟨bb, off + k, none⟩ = some (.int .u8 (y : Int)) := (hO.b.cell (p := ⟨bb, off + k, none⟩) hbl).trans hcl
      have HO := Lib.hid hO
      have HP := Lib.hid hP
      clear hO hP hc hcv hy HF hcl
      go_wp2_with fail
      refine (key_any y _ hyl).mono ?_
      rintro e w4 ⟨rfl, g4⟩
      have HO4 := Lib.hid (HO.out.later g4)
      have HP4 := Lib.hid (HP.out.later g4)
      clear g4
      go_wp2_with fail
      refine (HO4.out.add (keyT (y % 12)) (keyT_size _) 1 (by omega)).mono ?_
      rintro e w5 ⟨rfl, g5, hO5⟩
      have HP5 := Lib.hid (HP4.out.mut g5 (by have := hO5.sn; have := hO5.gn; simp; omega) hd.out.1.1 hd.out.1.2.1 hd.out.1.2.2)
      have HO5 := Lib.hid hO5
      have hcl5 : w5.cell? ⟨bb, off + k, none⟩ = some (.int .u8 (y : Int)) := (hO5.b.cell (p := ⟨bb, off + k, none⟩) hbl).trans HCL.out
      clear g5 hO5
      go_wp2_with fail
      refine (key_any y _ hyl).mono ?_
      rintro e w6 ⟨rfl, g6⟩
      have HO6 := Lib.hid (HO5.out.later g6)
      have HP6 := Lib.hid (HP5.out.later g6)
      clear g6
      go_wp2_with fail
      refine (HP6.out.add (keyT (y % 12)) (keyT_size _) 1 (by omega)).mono ?_
      rintro e w7 ⟨rfl, g7, hP7⟩
      have HO7 := Lib.hid ((HO6.out.mut g7 (by have := hP7.sn; have := hP7.gn; simp; omega) hd.out.2.1 hd.out.2.2.1 hd.out.2.2.2).to rfl (plus_small (b := 1) (by omega)))
      have HP7 := Lib.hid (hP7.to rfl (plus_small (b := 1) (by omega)))
      clear g7 hP7
      go_wp2_with fail
      go_roundw
      case rel => exact ⟨k + 1, by omega, by go_num, Lib.hid ⟨_, HO7.out, HP7.out⟩⟩
      case measure => simp [intOf]; omega
    · obtain rfl : k = N := by omega
      have dl : decide ((k : Int) < (k : Int)) = false := by simp
      obtain ⟨f, hO, hP⟩ := HF.out
      have HO := Lib.hid hO
      have HP := Lib.hid hP
      clear hO hP HF
      go_wp2_with fail
      refine HO.out.copy.mono ?_
      rintro e w4 ⟨S3, A3, G3, rfl, g4, hs3, ha3, hg3, hO3⟩
      have hd2 : Hid ((S ∉ [S3, G3] ∧ A ∉ [S3, G3] ∧ G ∉ [S3, G3]) ∧ (S2 ∉ [S3, G3] ∧ A2 ∉ [S3, G3] ∧ G2 ∉ [S3, G3])) := Lib.hid (by
        have h1 := HO.out.size
        have h2 := HP.out.size
        simp
        omega)
      have HO4 := Lib.hid (HO.out.later g4)
      have HP4 := Lib.hid (HP.out.later g4)
      have HT4 := Lib.hid hO3
      clear g4 hs3 ha3 hg3 hO3
      go_wp2_with fail
      go_loopw [11] (fun kv wr => ∃ j : Nat, j ≤ M ∧ kv = .int .i64 (j : Int) ∧ Hid (∃ h, On n0 w wr S A G 3 7 seed f k ∧ On n0 w wr S2 A2 G2 3 7 seed f k ∧ On n0 w wr S3 A3 G3 3 7 seed h (k + 5 * j) ∧ ∀ i q, i < 3 → f i q ≤ h i q)) (fun kv _ => M - (intOf kv).toNat)
      case atStart => exact ⟨0, by omega, rfl, Lib.hid ⟨_, HO4.out, HP4.out, HT4.out, fun i q hi => by unfold part; rw [if_pos hi]; exact Nat.le_refl _⟩⟩
      case round =>
        obtain ⟨j, hj, rfl, HR⟩ := hrel
        by_cases hlt : j < M
        · have dl : decide ((j : Int) < (M : Int)) = true := by simp; omega
          obtain ⟨h, hO, hP, hT, hfh⟩ := HR.out
          obtain ⟨bb, off, rfl, hbl, hc⟩ := HH1.out (by rw [HM.out]; omega)
          have hcl := hc j (by rw [HM.out]; exact hlt)
          obtain ⟨c, hcv⟩ : ∃ c, ds.getD j 0 = c := ⟨_, rfl⟩
          rw [hcv] at hcl
          unfold b8 at hcl
          have hcu := c.toNat_lt
          obtain ⟨y, hy⟩ : ∃ y : Nat, (c.toNat : Int) = (y : Int) := ⟨_, rfl⟩
          have hyl : y ≤ 255 := by omega
          rw [hy] at hcl
          have hcl1 : wr.cell? ⟨bb, off + j, none⟩ = some (.int .u8 (y : Int)) := (hO.b.cell (p := ⟨bb, off + j, none⟩) hbl).trans hcl
          have HO := Lib.hid hO
          have HP := Lib.hid hP
          have HT := Lib.hid hT
          have HFH := Lib.hid hfh
          clear hO hP hT hfh hc hcv hy HR hcl
          go_wp2_with fail
          refine (key_any y _ hyl).mono ?_
          rintro e w5 ⟨rfl, g5⟩
          have HO5 := Lib.hid (HO.out.later g5)
          have HP5 := Lib.hid (HP.out.later g5)
          have HT5 := Lib.hid (HT.out.later g5)
          clear g5
          go_wp2_with fail
          refine (HT5.out.add (keyT (y % 12)) (keyT_size _) 5 (by omega)).mono ?_
          rintro e w6 ⟨rfl, g6, hT6⟩
          have HO6 := Lib.hid (HO5.out.mut g6 (by have := hT6.sn; have := hT6.gn; simp; omega) hd2.out.1.1 hd2.out.1.2.1 hd2.out.1.2.2)
          have HP6 := Lib.hid (HP5.out.mut g6 (by have := hT6.sn; have := hT6.gn; simp; omega) hd2.out.2.1 hd2.out.2.2.1 hd2.out.2.2.2)
          have HT6 := Lib.hid (hT6.to rfl (show plus (k + 5 * j) 5 = k + 5 * (j + 1) from (plus_small (by omega)).trans (by omega)))
          have HR6 := Lib.hid (fun i q (hi : i < 3) => Nat.le_trans (HFH.out i q hi) (add_up (r := 3) (p := placeOf seed (keyT (y % 12)).data.toList 7) (n := 5) i q))
          clear g6 hT6
          go_wp2_with fail
          go_roundw
          case rel => exact ⟨j + 1, by omega, by go_num, Lib.hid ⟨_, HO6.out, HP6.out, HT6.out, HR6.out⟩⟩
          case measure => simp [intOf]; omega
        · obtain rfl : j = M := by omega
          have dl : decide ((j : Int) < (j : Int)) = false := by simp
          obtain ⟨h, hO, hP, hT, hfh⟩ := HR.out
          have HR0 := Lib.hid (show On n0 w wr S A G 3 7 seed f k ∧ On n0 w wr S2 A2 G2 3 7 seed f k ∧ On n0 w wr S3 A3 G3 3 7 seed h (k + 5 * j) from ⟨hO, hP, hT⟩)
          have HFH := Lib.hid hfh
          clear hO hP hT hfh HR
          go_wp2_with fail
          go_loopw [12] (fun kv wr => ∃ i : Nat, i ≤ 12 ∧ kv = .int .i64 (i : Int) ∧ Hid (On n0 w wr S A G 3 7 seed f k ∧ On n0 w wr S2 A2 G2 3 7 seed f k ∧ On n0 w wr S3 A3 G3 3 7 seed h (k + 5 * j))) (fun kv _ => 12 - (intOf kv).toNat)
          case atStart => exact ⟨0, by omega, rfl, HR0⟩
          case round =>
            obtain ⟨i, hi, rfl, HR⟩ := hrel
            by_cases hlt : i < 12
            · have dl : decide ((i : Int) < 12) = true := by simp; omega
              have hky := fun W => key_any i W (by omega)
              rw [Nat.mod_eq_of_lt hlt] at hky
              have HKY := Lib.hid hky
              obtain ⟨x, hx⟩ : ∃ x, least (placeOf seed (keyT i).data.toList 7) f 3 = x := ⟨_, rfl⟩
              obtain ⟨z, hz⟩ : ∃ z, least (placeOf seed (keyT i).data.toList 7) h 3 = z := ⟨_, rfl⟩
              have hxz : x ≤ z := hx ▸ hz ▸ least_mono fun i hi => HFH.out i _ hi
              have e1 : decide (z < x) = false := by simp; omega
              have HX := Lib.hid hx
              have HZ := Lib.hid hz
              clear hx hz hxz hky
              go_wp2_with fail
              refine (HKY.out _).mono ?_
              rintro e w5 ⟨rfl, g⟩
              have HR5 := Lib.hid (And.intro (HR.out.1.later g) (And.intro (HR.out.2.1.later g) (HR.out.2.2.later g)))
              clear g
              go_wp2_with fail
              refine (HR5.out.1.count (keyT i) (keyT_size _) HX.out).mono ?_
              rintro e w6 ⟨rfl, g⟩
              have HR6 := Lib.hid (And.intro (HR5.out.1.later g) (And.intro (HR5.out.2.1.later g) (HR5.out.2.2.later g)))
              clear g
              go_wp2_with fail
              refine (HKY.out _).mono ?_
              rintro e w7 ⟨rfl, g⟩
              have HR7 := Lib.hid (And.intro (HR6.out.1.later g) (And.intro (HR6.out.2.1.later g) (HR6.out.2.2.later g)))
              clear g
              go_wp2_with fail
              refine (HR7.out.2.1.count (keyT i) (keyT_size _) HX.out).mono ?_
              rintro e w8 ⟨rfl, g⟩
              have HR8 := Lib.hid (And.intro (HR7.out.1.later g) (And.intro (HR7.out.2.1.later g) (HR7.out.2.2.later g)))
              clear g
              go_wp2_with fail
              refine (HKY.out _).mono ?_
              rintro e w9 ⟨rfl, g⟩
              have HR9 := Lib.hid (And.intro (HR8.out.1.later g) (And.intro (HR8.out.2.1.later g) (HR8.out.2.2.later g)))
              clear g
              go_wp2_with fail
              refine (HR9.out.2.2.count (keyT i) (keyT_size _) HZ.out).mono ?_
              rintro e w10 ⟨rfl, g⟩
              have HR10 := Lib.hid (And.intro (HR9.out.1.later g) (And.intro (HR9.out.2.1.later g) (HR9.out.2.2.later g)))
              clear g
              go_wp2_with fail
              refine (HKY.out _).mono ?_
              rintro e w11 ⟨rfl, g⟩
              have HR11 := Lib.hid (And.intro (HR10.out.1.later g) (And.intro (HR10.out.2.1.later g) (HR10.out.2.2.later g)))
              clear g
              go_wp2_with fail
              refine (HR11.out.1.count (keyT i) (keyT_size _) HX.out).mono ?_
              rintro e w12 ⟨rfl, g⟩
              have HR12 := Lib.hid (And.intro (HR11.out.1.later g) (And.intro (HR11.out.2.1.later g) (HR11.out.2.2.later g)))
              clear g
              go_wp2_with fail
              go_roundw
              case rel => exact ⟨i + 1, by omega, by go_num, HR12⟩
              case measure => simp [intOf]; omega
            · obtain rfl : i = 12 := by omega
              obtain ⟨tt, htt, htt'⟩ : ∃ tt : Nat, k + 5 * j = tt ∧ (k : Int) + 5 * (j : Int) = (tt : Int) := ⟨_, rfl, by omega⟩
              have HTT := Lib.hid htt
              clear htt
              go_wp2_with fail
              refine (known_any _ HR.out.1.steps).mono ?_
              rintro e w5 ⟨rfl, g⟩
              have HR5 := Lib.hid (And.intro (HR.out.1.later g) (And.intro (HR.out.2.1.later g) ((HR.out.2.2.later g).to rfl HTT.out)))
              clear g
              go_wp2_with fail
              refine HR5.out.1.total.mono ?_
              rintro e w6 ⟨rfl, rfl⟩
              go_wp2_with fail
              refine HR5.out.2.1.total.mono ?_
              rintro e w6 ⟨rfl, rfl⟩
              go_wp2_with fail
              refine HR5.out.2.2.total.mono ?_
              rintro e w6 ⟨rfl, rfl⟩
              go_wp2_with fail
              refine HR5.out.1.total.mono ?_
              rintro e w6 ⟨rfl, rfl⟩
              go_wp2_with fail
              go_ret
              exact ⟨rfl, HR5.out.1.b⟩
namespace SketchCopies
set_option linter.unusedSimpArgs false in
set_option maxRecDepth 100000 in
theorem lifted (os : Os) (started : os.Started) (H : Type) (enc : TypeId × Value → H) :
    ReturnsInHanded {} Tryd.checked os 8 .any (fun w args => (Rows.sketchCopiesSpec.pre enc Tryd.prog Tryd.f8 [] false w args ∧ laidMetH Tryd.prog laidL w) ∧ sizedMet enc Tryd.prog Tryd.f8 (OpenSpec.ofChange Rows.sketchCopiesSpec) false w args)
      (Rows.sketchCopiesSpec.post enc Tryd.prog Tryd.f8 false true false false) := by
  refine returnsInHanded_of_change_and (C := Tryd.checked) (X := fun w _ => laidMetH Tryd.prog laidL w) (fun _ _ _ hh h => h.of_heap hh) own started (by kernel_rfl) Tryd.func8
    (ChangeSpec.witness_shaped (enc := enc) (C := Tryd.checked) (os := os) (X := fun w _ => laidMetH Tryd.prog laidL w) false (World.doorLaid Tryd.prog 400 os) #[.int .u64 0, .slice none 0 0, .slice none 0 0] 8 rfl (World.shaped_of_RefB (by kernel_rfl) (by kernel_rfl)) (by kernel_rfl) (by kernel_rfl) (by kernel_rfl) (door_met os _)) ?_
  intro W base args ds gs before hval0 hW _ hsz hL _
  have hS := of_laid hL
  have hval : ∀ (j : Nat) t v, Tryd.f8.params[j]? = some t → args[j]? = some v → Value.okWide Tryd.prog W .any base t v := hval0
  have hW' := hW
  obtain ⟨p, q, hA0, hV, rfl, _, _⟩ := hW
  have hA : DataW.TrodAll enc Tryd.prog W 0 (fun _ => true) true Tryd.f8.params.toList args.toList ds p := hA0
  rw [Tryd.params8] at hA hval
  obtain ⟨v0, vs0, d0, ds0, p0, q0, hargs, rfl, rfl, h0, r0⟩ := trodAll_cons hA
  obtain ⟨v1, vs1, d1, ds1, p1, q1, rfl, rfl, rfl, h1, r1⟩ := trodAll_cons r0
  obtain ⟨v2, vs2, d2, ds2, p2, q2, rfl, rfl, rfl, h2, r2⟩ := trodAll_cons r1
  obtain ⟨rfl, rfl, rfl⟩ := trodAll_nil r2
  obtain rfl : args = #[v0, v1, v2] := by cases args; simp_all
  obtain ⟨rfl, rfl⟩ := trodVars_none hV
  obtain ⟨a0, rfl, rfl, rfl, w0⟩ := open_int Tryd.underlying22 (hval 0 22 v0 rfl rfl) h0
  have k0 := wf_u64 w0
  obtain ⟨n0, rfl⟩ : ∃ n : Nat, a0 = n := ⟨a0.toNat, by omega⟩
  obtain ⟨A1, cs1, cap1, rfl, l1, m1, b1, again1⟩ := arg_bytes (hval 1 23 v1 rfl rfl) h1
  have x1 := arg_extra h1
  have z1 := arg_reach hsz x1.2 (j := 1) rfl rfl
  obtain ⟨A2, cs2, cap2, rfl, l2, m2, b2, again2⟩ := arg_bytes (hval 2 23 v2 rfl rfl) h2
  have x2 := arg_extra h2
  have z2 := arg_reach hsz x2.2 (j := 2) rfl rfl
  clear hA0 hval0
  simp only [List.append_nil] at hW'
  refine (sketchCopies_walk n0 A1 cs1 cap1 A2 cs2 cap2 (by omega) z1 z2 W b1 b2 hS).mono fun e W' ⟨he, hg⟩ => ?_
  subst he
  exact ⟨_, rfl, true_last hW' rfl (by kernel_rfl) Tryd.underlying4 rfl rfl rfl (of_decide_eq_true (by kernel_rfl)) hg⟩

/-- The row. -/
theorem said : Rows.SketchCopiesSaid :=
  OpenClaim.holds_of_wide 8 Tryd.f8 rfl rfl rfl rfl rfl rfl rfl ⟨rfl, rfl, rfl, rfl, rfl⟩ rfl rfl rfl rfl rfl (by kernel_rfl) Tryd.func8 (by kernel_rfl)
    (of_decide_eq_true (by kernel_rfl)) (by unfold Func.isWrapper; first | (rw [if_pos (by decide +kernel)]; kernel_rfl) | (rw [if_neg (by decide +kernel)]; exact ⟨rfl, rfl⟩))
    (fun os started H enc _ => lifted os started H enc)
/-- **SketchCopies, at every input: the card, its listed variables tied to the program's text.** -/
theorem proved : Rows.SketchCopiesCardSaid :=
  Claim7.holds_tied_plain_at .later [] [.wider] true Rows.sketchCopiesCard.stood.harness false
    said (fun _ h => by cases h) (by kernel_rfl) (fun _ h => by cases h) sketchCopies_row_tie rfl ⟨rfl, rfl⟩ (by kernel_rfl) rfl
    (fun f fn hf hfn => by
      obtain rfl : f = 8 := Option.some.inj ((show Tryd.prog.funcNamed "telemeter/telemeterlaw07.SketchCopies" = some 8 by kernel_rfl).symm.trans hf) |>.symm
      obtain rfl : fn = Tryd.f8 := (Option.some.inj (Tryd.func8.symm.trans hfn)).symm
      exact ⟨by kernel_rfl, fun j t ht => by
        rw [Tryd.params8] at ht
        have hm : t ∈ [22, 23, 23] := by simpa using Array.mem_of_getElem? ht
        have hall : ([22, 23, 23].all fun u => !Tryd.prog.wantsStandIn u) = true := by kernel_rfl
        exact (show Tryd.prog.wantsStandIn t = false by simpa using List.all_eq_true.1 hall t hm)⟩)
    (by kernel_rfl)
end SketchCopies

end Go.Proofs.YtmacehpfhhlnpaaDoor
