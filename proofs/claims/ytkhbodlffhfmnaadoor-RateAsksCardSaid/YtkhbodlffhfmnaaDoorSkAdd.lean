/-
  What sketch's Count and Add do: the least of a key's cells; each of the key's cells is no lower then, no other one turns.
-/
import Derived.RegionTactic
import Derived.BigRegion
import Derived.Test.YtkhbodlffhfmnaaDoorSkFind
namespace Go.Proofs.YtkhbodlffhfmnaaDoor
open Go.RowKit Go.Proofs.HashMath Go.Proofs.SkMath

set_option maxRecDepth 100000 in
set_option maxHeartbeats 1000000 in
theorem count_any {S A G r m seed tot : Nat} {f : Nat → Nat → Nat} (s : ByteArray) (w : World) (hS : Steps w) (hk : Sk w S A G r m seed f tot) (hs : s.size ≤ 9223372036854775807) :
    Calls Tryd.prog 39 #[.pointer (some ⟨S, 0, none⟩), .string s] w fun e w' => e = .returned (.int .u64 (least (placeOf seed s.data.toList m) f r : Int)) ∧ Below w.heap.size w w' := by
  have hF := find_any s w hS hk hs
  obtain ⟨p, hp⟩ : ∃ p, placeOf seed s.data.toList m = p := ⟨_, rfl⟩
  have hpm : ∀ i, p i < m := fun i => hp ▸ place_lt seed _ hk.m1 i
  rw [hp] at hF ⊢
  have hL := fun W hh => least_any p W (hk.later hh) hpm
  obtain ⟨x, hx⟩ : ∃ x, least p f r = x := ⟨_, rfl⟩
  rw [hx] at hL ⊢
  have HF := Lib.hid hF
  have HL := Lib.hid hL
  clear hp hx hF hL hpm hk hS
  go_enter Tryd.func39, Tryd.ntmps39
  go_wp2_with fail
  refine HF.out.mono ?_
  rintro e w1 ⟨rfl, hb⟩
  go_wp2_with fail
  refine (HL.out _ hb).mono ?_
  rintro e w2 ⟨rfl, hb2⟩
  go_wp2_with fail
  go_ret
  exact ⟨rfl, hb.trans (hb2.mono hb.size)⟩

theorem Mut.drew {bs : List Nat} {a w : World} (h : Mut bs a w) : Mut bs a w.drew := ⟨h.os, h.tape, h.output, h.size, h.block⟩
theorem Sk.drew {W : World} {S A G r m seed tot : Nat} {f : Nat → Nat → Nat} (h : Sk W S A G r m seed f tot) : Sk W.drew S A G r m seed f tot := h.mut (bs := []) ((Mut.refl _ _).drew) (by simp) (by simp) (by simp)
theorem max_val (q y : Nat) : Value.int .u64 (if q < y then (y : Int) else (q : Int)) = n64 (max q y) := by
  unfold n64
  by_cases h : q < y
  · rw [if_pos h, Nat.max_eq_right (by omega)]
  · rw [if_neg h, Nat.max_eq_left (by omega)]

set_option maxRecDepth 100000 in
set_option maxHeartbeats 1000000 in
theorem add_any {S A G r m seed tot : Nat} {f : Nat → Nat → Nat} (s : ByteArray) (n : Nat) (w : World) (hS : Steps w) (hk : Sk w S A G r m seed f tot) (hs : s.size ≤ 9223372036854775807) (hn : n < 18446744073709551616) :
    Calls Tryd.prog 40 #[.pointer (some ⟨S, 0, none⟩), .string s, .int .u64 (n : Int)] w fun e w' => e = .returned (.tuple #[]) ∧ Mut [S, G] w w' ∧ Sk w' S A G r m seed (add r (placeOf seed s.data.toList m) n f) (plus tot n) := by
  have hF := find_any s w hS hk hs
  obtain ⟨p, hp⟩ : ∃ p, placeOf seed s.data.toList m = p := ⟨_, rfl⟩
  have hpm : ∀ i, p i < m := fun i => hp ▸ place_lt seed _ hk.m1 i
  rw [hp] at hF ⊢
  have hL := fun W hh => least_any p W (hk.later hh) hpm
  obtain ⟨x, hx, hxl⟩ : ∃ x, least p f r = x ∧ x < 18446744073709551616 := ⟨_, rfl, least_lt _ _ _⟩
  rw [hx] at hL
  obtain ⟨y, hy, hyl⟩ : ∃ y, plus x n = y ∧ y < 18446744073709551616 := ⟨_, rfl, plus_lt _ _⟩
  have hP := fun W => sum_any x n W hxl hn
  rw [hy] at hP
  obtain ⟨z, hz, hzl⟩ : ∃ z, plus tot n = z ∧ z < 18446744073709551616 := ⟨_, rfl, plus_lt _ _⟩
  have hT := fun W => sum_any tot n W hk.totLt hn
  rw [hz] at hT ⊢
  have hadd : add r p n f = upd p y f r := by rw [← hy, ← hx]; rfl
  rw [hadd]
  obtain ⟨x0, x1, x2, x3, x4, x5, x6, x7, ex⟩ := pArr_ints p r
  have EX := Lib.hid ex
  rw [ex] at hF hL
  have HF := Lib.hid hF
  have HL := Lib.hid hL
  have HP := Lib.hid hP
  have HT := Lib.hid hT
  have HK := Lib.hid hk
  have HPM := Lib.hid hpm
  have h8 := hk.r8
  clear hp hx hy hz hF hL hpm hk hS hP hT hadd ex
  go_enter Tryd.func40, Tryd.ntmps40
  go_wp2_with fail
  refine HF.out.mono ?_
  rintro e w1 ⟨rfl, hb⟩
  obtain ⟨n1, hn1⟩ : ∃ n1, w1.heap.size = n1 := ⟨_, rfl⟩
  have hb1 := hb.trans ((box_below (W := w1) (.cells #[.int .i64 x0, .int .i64 x1, .int .i64 x2, .int .i64 x3, .int .i64 x4, .int .i64 x5, .int .i64 x6, .int .i64 x7] 94)).mono hb.size)
  have hbl1 := blk_new w1 #[.int .i64 x0, .int .i64 x1, .int .i64 x2, .int .i64 x3, .int .i64 x4, .int .i64 x5, .int .i64 x6, .int .i64 x7] 94
  rw [hn1] at hbl1
  have hgn : G < n1 := by have := HK.out.ltG; have := hb.size; omega
  have hsn : S < n1 := by have := HK.out.own.lt; have := hb.size; omega
  have HB1 := Lib.hid hb1
  have HBL1 := Lib.hid hbl1
  clear hb hb1 hbl1
  go_wp2_with fail
  refine (HL.out _ HB1.out).mono ?_
  rintro e w2 ⟨rfl, hb2⟩
  have HB2 := Lib.hid (HB1.out.trans (hb2.mono HB1.out.size))
  have HBL2 := Lib.hid (HBL1.out.later hb2)
  have hk2 := HK.out.later HB2.out
  have s1 : w2.cell? ⟨S, 1, none⟩ = some (.slice (some ⟨A, 0, none⟩) r r) := hk2.own.cell 1 rfl
  have HK2 := Lib.hid hk2
  clear hb2 hk2
  go_wp2_with fail
  refine (HP.out _).mono ?_
  rintro e w3 ⟨rfl, rfl⟩
  go_wp2_with fail
  go_loopw [23] (fun kv wr => ∃ k : Nat, k ≤ r ∧ kv = .int .i64 (k : Int) ∧ Mut [S, G] w2 wr ∧ Sk wr S A G r m seed (upd p y f k) tot ∧ Blk wr n1 #[.int .i64 x0, .int .i64 x1, .int .i64 x2, .int .i64 x3, .int .i64 x4, .int .i64 x5, .int .i64 x6, .int .i64 x7] 94) (fun kv _ => r - (intOf kv).toNat)
  case atStart => exact ⟨0, by omega, rfl, Mut.refl _ _, by rw [upd_0]; exact HK2.out, HBL2.out⟩
  case round =>
    obtain ⟨k, hkr, rfl, hmu, hkw, hbl⟩ := hrel
    by_cases hlt : k < r
    · have dl : decide ((k : Int) < (r : Int)) = true := by simp; omega
      have hrow := hkw.row k hlt
      have hpm := HPM.out k
      obtain ⟨hc, hfr⟩ := hkw.cell k (p k) hlt hpm
      have hpl : wr.cell? ⟨n1, k, none⟩ = some (.int .i64 (p k : Int)) := hbl.cell k (by rw [← EX.out]; exact pArr_at hlt (by omega))
      obtain ⟨c, hcv⟩ : ∃ c, upd p y f k k (p k) = c := ⟨_, rfl⟩
      rw [hcv] at hc
      unfold n64 at hc
      have hmax : upd p y f (k + 1) k (p k) = max c y := by rw [upd_next, ← hcv, upd_here]
      have HM := Lib.hid hmax
      obtain ⟨q, hq⟩ : ∃ q, p k = q := ⟨_, rfl⟩
      have hnew : ∀ v, Value.int .u64 (if c < y then (y : Int) else (c : Int)) = v → Sk (wr.setCell ⟨G, k * m + q, none⟩ v) S A G r m seed (upd p y f (k + 1)) tot := fun v hv => by
        rw [← hv, max_val]
        refine hkw.store hlt (hq ▸ hpm) (by rw [← hq]; exact hmax) (fun i j hh => upd_other (by rw [hq]; exact hh)) ?_
        have := hkw.fLt k (p k)
        omega
      have hdr : Sk (wr.setCell ⟨G, k * m + q, none⟩ (.int .u64 (if c < y then (y : Int) else (c : Int)))).drew S A G r m seed (upd p y f (k + 1)) tot := (hnew _ rfl).drew
      have hmd : Mut [S, G] w2 (wr.setCell ⟨G, k * m + q, none⟩ (.int .u64 (if c < y then (y : Int) else (c : Int)))).drew := (hmu.setCell (by simp) _).drew
      have hbd : Blk (wr.setCell ⟨G, k * m + q, none⟩ (.int .u64 (if c < y then (y : Int) else (c : Int)))).drew n1 #[.int .i64 x0, .int .i64 x1, .int .i64 x2, .int .i64 x3, .int .i64 x4, .int .i64 x5, .int .i64 x6, .int .i64 x7] 94 := hbl.same (Below.heap_setCell _ _ _ _ (by simp; omega))
      rw [hq] at hc hpm hpl hfr
      obtain ⟨o, ho⟩ : ∃ o, k * m = o := ⟨_, rfl⟩
      rw [ho] at hc hrow hfr hdr hmd hbd
      have HD := Lib.hid hdr
      have HMD := Lib.hid hmd
      have HBD := Lib.hid hbd
      clear hmax hq hcv hnew ho hmu hkw hbl hbd hmd hdr HM
      go_wp2
      go_region
      go_wp2
      go_roundw
      case rel => exact ⟨k + 1, by omega, by go_num, HMD.out, HD.out, HBD.out⟩
      case measure => simp [intOf]; omega
    · obtain rfl : k = r := by omega
      have dl : decide ((k : Int) < (k : Int)) = false := by simp
      have s2 : wr.cell? ⟨S, 2, none⟩ = some (.int .u64 (tot : Int)) := hkw.own.cell 2 rfl
      have f2 := hkw.own.free 2
      have hend := hkw.total hzl
      have hme : Mut [S, G] w (wr.setCell ⟨S, 2, none⟩ (.int .u64 (z : Int))) := ((Mut.of_below HB2.out).trans hmu).setCell (by simp) _
      have HE := Lib.hid hend
      have HME := Lib.hid hme
      clear hkw hmu hbl hend hme
      go_wp2_with fail
      refine (HT.out _).mono ?_
      rintro e w4 ⟨rfl, rfl⟩
      go_wp2_with fail
      go_end0
      exact ⟨rfl, HME.out, HE.out⟩
end Go.Proofs.YtkhbodlffhfmnaaDoor
