/-
  What the document's own Get (telemeterref01) and GetText do, at every slice of bytes and every place: just what the chapter's functions do (layer 3).
-/
import Derived.Deep.RegionHeld3
import Derived.Test.YtklgggolkclebaaBytesLift
import Derived.Test.YtklgggolkclebaaNumTexts
import Derived.Test.YtklgggolkclebaaRefPut
namespace Go.Proofs.Ytklgggolkclebaa
open Go.ChangeShapes Go.WideShapes Go.ChangeAt Go.RowKit Go.Proofs.NumMath Go.Proofs.ItemMath

/-- The first k bytes from i on. -/
def pre (cs : List UInt8) (i k : Nat) : List UInt8 := (cs.drop i).take k
theorem pre_len {cs : List UInt8} {i k : Nat} (h : i + k ≤ cs.length) : (pre cs i k).length = k := by simp [pre]; omega
theorem pre_succ {cs : List UInt8} {i k : Nat} (h : i + k < cs.length) : pre cs i (k + 1) = pre cs i k ++ [cs.getD (i + k) 0] := by
  unfold pre
  rw [List.take_succ_eq_append_getElem (by simp; omega)]
  simp [h]
theorem pre_rest (cs : List UInt8) (i k : Nat) : cs.drop i = pre cs i k ++ (cs.drop i).drop k := (List.take_append_drop k _).symm

theorem get_short {cs : List UInt8} {i k : Nat} (h : i + k = cs.length) (hk : k < 10) (ha : ∀ c ∈ pre cs i k, 128 ≤ c.toNat) : getAt cs (i : Int) = (0, 0, 10) := by
  have hr := pre_rest cs i k
  have hn : (cs.drop i).drop k = [] := by simp; omega
  rw [hn] at hr
  rw [getAt_of (by omega), hr, scan_pre _ [] 0 0 ha (by rw [pre_len (by omega)]; omega)]
  rfl
theorem get_ten {cs : List UInt8} {i : Nat} (h : i + 10 ≤ cs.length) (ha : ∀ c ∈ pre cs i 10, 128 ≤ c.toNat) : getAt cs (i : Int) = (0, 0, 31) := by
  have hs := pre_succ (cs := cs) (i := i) (k := 9) (by omega)
  have hr := pre_rest cs i 10
  rw [hs] at hr
  have h9 : ∀ c ∈ pre cs i 9, 128 ≤ c.toNat := fun c hc => ha c (by rw [hs]; simp [hc])
  have hl : 128 ≤ (cs.getD (i + 9) 0).toNat := ha _ (by rw [hs]; simp)
  have hsc : scan 0 0 (cs.drop i) = (0, 0, 31) := by
    rw [hr, List.append_assoc, scan_pre _ _ 0 0 h9 (by rw [pre_len (by omega)]; omega), pre_len (by omega)]
    simp only [List.cons_append, List.nil_append, scan]
    rw [if_neg (by omega), if_pos trivial]
  rw [getAt_of (by omega), hsc]
  rfl
/-- The byte that ends a number. -/
theorem get_last {cs : List UInt8} {i k : Nat} (h : i + k < cs.length) (hk : k < 10) (ha : ∀ c ∈ pre cs i k, 128 ≤ c.toNat) (hc : (cs.getD (i + k) 0).toNat < 128) :
    (put (val (pre cs i (k + 1)) % 18446744073709551616) = pre cs i (k + 1) ∧ getAt cs (i : Int) = (val (pre cs i (k + 1)) % 18446744073709551616, i + k + 1, 0)) ∨
    (put (val (pre cs i (k + 1)) % 18446744073709551616) ≠ pre cs i (k + 1) ∧ getAt cs (i : Int) = (0, 0, 31)) := by
  have hs := pre_succ h
  generalize cs.getD (i + k) 0 = c at hs hc
  have hl := pre_len (cs := cs) (i := i) (k := k) (by omega)
  have hr := pre_rest cs i (k + 1)
  rw [hs] at hr
  have hgen : ∀ r, scan 0 0 (pre cs i k ++ [c] ++ r) = if k = 0 ∨ (c).toNat = 1 ∨ (1 < (c).toNat ∧ k + 1 < 10) then (val (pre cs i k) + (c).toNat * 128 ^ k, k + 1, 0) else (0, 0, 31) := fun r => by
    rw [List.append_assoc, scan_pre _ _ 0 0 ha (by omega), hl]
    simp only [List.cons_append, List.nil_append, scan, Nat.zero_add, Nat.pow_zero, Nat.mul_one]
    rw [if_pos hc]
  have hv : val (pre cs i (k + 1)) = val (pre cs i k) + (c).toNat * 128 ^ k := by rw [hs, val_snoc, hl, Nat.mod_eq_of_lt hc]
  have hg := getAt_of (cs := cs) (i := i) (by omega)
  rw [hr, hgen] at hg
  by_cases he : k = 0 ∨ (c).toNat = 1 ∨ (1 < (c).toNat ∧ k + 1 < 10)
  · left
    have h0 := hgen []
    rw [if_pos he, List.append_nil, ← hs] at h0
    obtain ⟨m, _, e1, e2, e3, _, _, e6⟩ := scan_inv _ 0 0 _ _ (by omega) h0
    rw [Nat.zero_add, Nat.pow_zero, Nat.mul_one] at e1
    rw [Nat.zero_add] at e2
    rw [Nat.pow_zero, Nat.mul_one] at e6
    have hm : val (pre cs i (k + 1)) % 18446744073709551616 = m := by rw [hv, e1]; exact Nat.mod_eq_of_lt e6
    have hlen : (pre cs i (k + 1)).length = k + 1 := pre_len (by omega)
    rw [List.take_of_length_le (by omega)] at e3
    rw [if_pos he] at hg
    refine ⟨by rw [hm, e3], ?_⟩
    rw [hg, hm, e1]
    simp; omega
  · right
    rw [if_neg he] at hg
    refine ⟨fun hp => ?_, by rw [hg]; rfl⟩
    have h0 := hgen []
    rw [if_neg he, List.append_nil, ← hs, ← hp] at h0
    have hlt : val (pre cs i (k + 1)) % 18446744073709551616 < 18446744073709551616 := Nat.mod_lt _ (by omega)
    have h1 := scan_put (val (pre cs i (k + 1)) % 18446744073709551616) 0 0 [] (.inl rfl) (by omega) (by have := put_len10 hlt; omega)
    rw [List.append_nil, h0] at h1
    simp at h1

/-- One round's arithmetic, each value under a name of its own (the byte is a uint64 here). -/
theorem arith2 (p : List UInt8) (x : UInt8) (k : Nat) (hk : p.length = k) (h9 : k ≤ 9) : ∃ a r s o : Nat, ((val p % 18446744073709551616 : Nat) : Int) = (a : Int) ∧ ((x.toNat : Int)) % 128 = (r : Int) ∧
    IntKind.u64.wrap ((r : Int) * 2 ^ (7 * k)) = (s : Int) ∧ bits .or .u64 (a : Int) (s : Int) = (o : Int) ∧ o = val (p ++ [x]) % 18446744073709551616 := by
  obtain ⟨a, r, s, o, h1, h2, h3, h4, h5, h6⟩ := arith p x k hk h9
  exact ⟨a, r, s, o, h1, by rw [← h2, Int.tmod_eq_emod_of_nonneg (by omega)], h4, h5, h6⟩

theorem refGet_out (A : Option Addr) (len cap : Nat) (i : Int) (w : World) (_hl : len ≤ 9223372036854775807) (h : i < 0 ∨ (len : Int) < i) :
    Calls Try.prog 55 #[.slice A len cap, .int .i64 i] w fun e w' => e = .returned (.tuple #[.int .u64 0, .int .i64 0, .int .i64 1]) ∧ w = w' := by
  by_cases h0 : i < 0
  · go_enter Try.func55, Try.ntmps55
    go_wp2
    go_ret3
    exact ⟨rfl, rfl⟩
  · have h1 : (len : Int) < i := by omega
    go_enter Try.func55, Try.ntmps55
    go_wp2
    go_ret3
    exact ⟨rfl, rfl⟩

set_option linter.unusedSimpArgs false in
set_option maxRecDepth 100000 in
set_option maxHeartbeats 4000000 in
theorem refGet_in (A : Option Addr) (cs : List UInt8) (cap i0 : Nat) (w : World) (hl : cs.length ≤ cap) (hcap : cap ≤ 9223372036854775807) (hi : i0 ≤ cs.length) (hr : Holds8 w.heap.size w A cs) :
    Calls Try.prog 55 #[.slice A cs.length cap, .int .i64 (i0 : Int)] w fun e w' => e = .returned (.tuple #[.int .u64 ((getAt cs i0).1 : Int), .int .i64 ((getAt cs i0).2.1 : Int), .int .i64 ((getAt cs i0).2.2 : Int)]) ∧ Below w.heap.size w w' := by
  generalize hg : getAt cs i0 = g
  have HG := Lib.hid hg
  have HR := Lib.hid hr
  clear hg hr
  obtain ⟨len, hlen⟩ : ∃ len, cs.length = len := ⟨_, rfl⟩
  rw [hlen] at hl hi ⊢
  have HL := Lib.hid hlen
  clear hlen
  have d1 : decide ((i0 : Int) < 0) = false := by simp
  have d2 : decide (len < i0) = false := by simp; omega
  go_enter Try.func55, Try.ntmps55
  go_wp2
  go_loopw [7, 8] (fun nv iv wr => ∃ k : Nat, k ≤ 10 ∧ i0 + k ≤ len ∧ iv = .int .i64 (k : Int) ∧ nv = fN (pre cs i0 k) ∧ Hid (∀ c ∈ pre cs i0 k, 128 ≤ c.toNat) ∧ Below w.heap.size w wr) (fun _ iv _ => 10 - (intOf iv).toNat)
  case atStart => exact ⟨0, by omega, by omega, rfl, by simp [fN, pre, val], by simp [Hid, pre], Below.refl _ _⟩
  case round =>
    obtain ⟨k, hk, hik, rfl, rfl, HA, hB⟩ := hrel
    by_cases hk10 : k < 10
    · by_cases hin : i0 + k < len
      · obtain ⟨b, off, rfl, hb, hcs⟩ := HR.out (by rw [HL.out]; omega)
        have hcx : wr.cell? ⟨b, off + (i0 + k), none⟩ = some (b8 (cs.getD (i0 + k) 0)) := (hB.cell (p := ⟨b, off + (i0 + k), none⟩) hb).trans (hcs (i0 + k) (by rw [HL.out]; omega))
        clear hcs
        obtain ⟨c, hc⟩ : ∃ c, cs.getD (i0 + k) 0 = c := ⟨_, rfl⟩
        rw [hc] at hcx
        have hsucc := pre_succ (cs := cs) (i := i0) (k := k) (by rw [HL.out]; exact hin)
        rw [hc] at hsucc
        have HSU := Lib.hid hsucc
        have HC := Lib.hid hc
        obtain ⟨a, r, s, o, ea, e2, es, eo, ho⟩ := arith2 (pre cs i0 k) c k (pre_len (by rw [HL.out]; omega)) (by omega)
        rw [← hsucc] at ho
        have HO := Lib.hid ho
        have hclt := c.toNat_lt
        unfold fN
        rw [ea]
        unfold b8 at hcx
        clear hc hsucc ho ea
        have t1 : (7 * (k : Int)).toNat = 7 * k := by omega
        by_cases hlo : c.toNat < 128
        · have hlast := get_last (cs := cs) (i := i0) (k := k) (by rw [HL.out]; exact hin) hk10 HA.out (by rw [HC.out]; exact hlo)
          rw [← HO.out, HG.out] at hlast
          have HLA := Lib.hid hlast
          clear hlast
          obtain ⟨A', hwin, hconv⟩ := window_all (some ⟨b, off, none⟩) cs cap i0 (k + 1) (by rw [HL.out]; omega) (by rw [HL.out]; exact hl)
          rw [HL.out] at hwin
          have hob : o < 18446744073709551616 := by rw [HO.out]; exact Nat.mod_lt _ (by omega)
          obtain ⟨xl, hxl⟩ : ∃ xl, (put o).length = xl := ⟨_, rfl⟩
          obtain ⟨sa, hsa⟩ : ∃ sa : ByteArray, (⟨(put o).toArray⟩ : ByteArray) = sa := ⟨_, rfl⟩
          obtain ⟨sb, hsb⟩ : ∃ sb : ByteArray, (⟨(pre cs i0 (k + 1)).toArray⟩ : ByteArray) = sb := ⟨_, rfl⟩
          obtain ⟨bt, hbt⟩ : ∃ bt, (sa.toList == sb.toList) = bt := ⟨_, rfl⟩
          have HFIN : Hid ((bt = true ∧ g = (o, i0 + k + 1, 0)) ∨ (bt = false ∧ g = (0, 0, 31))) := Lib.hid (by
            have e : (sa.toList == sb.toList) = decide (put o = pre cs i0 (k + 1)) := by
              rw [← hsa, ← hsb, ByteArray.toList_eq, ByteArray.toList_eq, Bool.eq_iff_iff]
              simp
            rcases HLA.out with ⟨h1, h2⟩ | ⟨h1, h2⟩
            · exact .inl ⟨by rw [← hbt, e]; simp [h1], h2⟩
            · exact .inr ⟨by rw [← hbt, e]; simp [h1], h2⟩)
          have HX := Lib.hid hxl
          have HSA : Hid (∀ (A3 : Option Addr) (c3 : Nat) (w3 : World), Holds8 w3.heap.size w3 A3 (put o) → (convert 22 9 (.slice A3 xl c3)).run Try.prog w3 = .ok (.string sa) w3) := Lib.hid (fun A3 c3 w3 h => by
            rw [← hsa]; exact text_run A3 _ xl c3 w3 _ HX.out h)
          have HCV : Hid (∀ W : World, Below w.heap.size w W → (convert 22 9 (.slice A' (k + 1) (cap - i0))).run Try.prog W = .ok (.string sb) W) := Lib.hid (fun W hb => by
            rw [← hsb]; exact hconv W _ (HR.out.below hb))
          have eidx : (i0 : Int) + ((k + 1 : Nat) : Int) = (i0 : Int) + (k : Int) + 1 := by omega
          rw [eidx] at hwin
          clear hxl hsa hsb hconv eidx
          have hBd : Below w.heap.size w wr.drew := ⟨hB.os, hB.tape, hB.output, hB.size, hB.block⟩
          go_wp2
          have ew1 : IntKind.i64.wrap ((i0 : Int) + (k : Int)) = (i0 : Int) + (k : Int) := IntWalk.i64_in _ (by omega)
          have ew2 : IntKind.i64.wrap ((i0 : Int) + (k : Int) + 1) = (i0 : Int) + (k : Int) + 1 := IntWalk.i64_in _ (by omega)
          refine wp_region_held_drew (S := fun W => Below w.heap.size w W ∧ (convert 22 9 (.slice A' (k + 1) (cap - i0))).run Try.prog W = .ok (.string sb) W) (by kernel_rfl) ?_ (fun hHeld => ?_)
          · exact ⟨hBd, HCV.out wr.drew hBd⟩
          refine wpAnyH_take (i := 0) (v := ?_) rfl (by kernel_rfl) (by kernel_rfl) (by kernel_rfl) (fun _ _ _ h => h) (Or.inl ⟨by rfl, ?_⟩) (by assumption) ?_
          rotate_left
          · intro wq hSw; (try dsimp only at hSw); go_simp; (try with_reducible rfl)
          simp only [Act.put, List.getElem_toArray, List.getElem_cons_succ, List.getElem_cons_zero, List.setIfInBounds_toArray, List.set_cons_zero, List.set_cons_succ]
          refine wpAnyH_take (i := 3) (v := ?_) rfl (by kernel_rfl) (by kernel_rfl) (by kernel_rfl) (fun _ _ _ h => h) (Or.inl ⟨by rfl, ?_⟩) (by assumption) ?_
          rotate_left
          · intro wq hSw; (try dsimp only at hSw); go_simp; (try with_reducible rfl)
          simp only [Act.put, List.getElem_toArray, List.getElem_cons_succ, List.getElem_cons_zero, List.setIfInBounds_toArray, List.set_cons_zero, List.set_cons_succ]
          refine wpAnyH_take (i := 4) (v := ?_) rfl (by kernel_rfl) (by kernel_rfl) (by kernel_rfl) (fun _ _ _ h => h) (Or.inl ⟨by rfl, ?_⟩) (by assumption) ?_
          rotate_left
          · intro wq hSw; (try dsimp only at hSw); go_simp; (try with_reducible rfl)
          simp only [Act.put, List.getElem_toArray, List.getElem_cons_succ, List.getElem_cons_zero, List.setIfInBounds_toArray, List.set_cons_zero, List.set_cons_succ]
          refine wpAnyH_take (i := 5) (v := ?_) rfl (by kernel_rfl) (by kernel_rfl) (by kernel_rfl) (fun _ _ _ h => h) (Or.inl ⟨by rfl, ?_⟩) (by assumption) ?_
          rotate_left
          · intro wq hSw; (try dsimp only at hSw); go_simp; (try with_reducible rfl)
          simp only [Act.put, List.getElem_toArray, List.getElem_cons_succ, List.getElem_cons_zero, List.setIfInBounds_toArray, List.set_cons_zero, List.set_cons_succ]
          refine wpAnyH_take (i := 6) (v := ?_) rfl (by kernel_rfl) (by kernel_rfl) (by kernel_rfl) (fun _ _ _ h => h) (Or.inl ⟨by rfl, ?_⟩) (by assumption) ?_
          rotate_left
          · intro wq hSw; (try dsimp only at hSw); go_simp; (try with_reducible rfl)
          simp only [Act.put, List.getElem_toArray, List.getElem_cons_succ, List.getElem_cons_zero, List.setIfInBounds_toArray, List.set_cons_zero, List.set_cons_succ]
          refine wpAnyH_take (i := 7) (v := ?_) rfl (by kernel_rfl) (by kernel_rfl) (by kernel_rfl) (fun _ _ _ h => h) (Or.inl ⟨by rfl, ?_⟩) (by assumption) ?_
          rotate_left
          · intro wq hSw; (try dsimp only at hSw); go_simp; (try with_reducible rfl)
          simp only [Act.put, List.getElem_toArray, List.getElem_cons_succ, List.getElem_cons_zero, List.setIfInBounds_toArray, List.set_cons_zero, List.set_cons_succ]
          refine wpAnyH_take (i := 8) (v := ?_) rfl (by kernel_rfl) (by kernel_rfl) (by kernel_rfl) (fun _ _ _ h => h) (Or.inl ⟨by rfl, ?_⟩) (by assumption) ?_
          rotate_left
          · intro wq hSw; (try dsimp only at hSw); go_simp; (try with_reducible rfl)
          simp only [Act.put, List.getElem_toArray, List.getElem_cons_succ, List.getElem_cons_zero, List.setIfInBounds_toArray, List.set_cons_zero, List.set_cons_succ]
          refine wpAnyH_take (i := 9) (v := ?_) rfl (by kernel_rfl) (by kernel_rfl) (by kernel_rfl) (fun _ _ _ h => h) (Or.inl ⟨by rfl, ?_⟩) (by assumption) ?_
          rotate_left
          · intro wq hSw; (try dsimp only at hSw); go_simp; (try with_reducible rfl)
          simp only [Act.put, List.getElem_toArray, List.getElem_cons_succ, List.getElem_cons_zero, List.setIfInBounds_toArray, List.set_cons_zero, List.set_cons_succ]
          refine wpAnyH_take (i := 10) (v := ?_) rfl (by kernel_rfl) (by kernel_rfl) (by kernel_rfl) (fun _ _ _ h => h) (Or.inl ⟨by rfl, ?_⟩) (by assumption) ?_
          rotate_left
          · intro wq hSw; (try dsimp only at hSw); go_simp; (try with_reducible rfl)
          simp only [Act.put, List.getElem_toArray, List.getElem_cons_succ, List.getElem_cons_zero, List.setIfInBounds_toArray, List.set_cons_zero, List.set_cons_succ]
          refine wpAnyH_ready (rs := [1]) (by kernel_rfl) (by simp) ?_
          refine AllReadyH.cons rfl (fun K hK => ?_) AllReadyH.nil
          go_simp
          refine (refPut_holds o (by omega) _).mono ?_
          rintro e w3 ⟨A3, c3, rfl, _, _, hr3, hb3⟩
          rw [HX.out]
          have cv3 := HSA.out A3 c3 w3 hr3
          have hB3 : Below w.heap.size w w3 := hB.trans ((undrewn hb3).mono hB.size)
          have cvb := HCV.out w3 hB3
          clear hr3 hHeld
          (try go_wp2_with fail)
          refine hK.out _ _ ?_ (fun hHeld => ?_)
          · exact ⟨hB3, cvb⟩
          clear hK K
          try simp only [Act.put, List.getElem_toArray, List.getElem_cons_succ, List.getElem_cons_zero, List.setIfInBounds_toArray, List.set_cons_zero, List.set_cons_succ]
          refine wpAnyH_ready (rs := [2]) (by kernel_rfl) (by simp) ?_
          refine AllReadyH.cons rfl (fun K hK => ?_) AllReadyH.nil
          go_simp
          clear hHeld
          (try go_wp2_with fail)
          refine hK.out _ _ ?_ (fun hHeld => ?_)
          · exact ⟨hB3, cvb⟩
          clear hK K
          try simp only [Act.put, List.getElem_toArray, List.getElem_cons_succ, List.getElem_cons_zero, List.setIfInBounds_toArray, List.set_cons_zero, List.set_cons_succ]
          refine wpAnyH_take (i := 11) (v := ?_) rfl (by kernel_rfl) (by kernel_rfl) (by kernel_rfl) (fun _ _ _ h => h) (Or.inl ⟨by rfl, ?_⟩) (by assumption) ?_
          rotate_left
          · intro wq hSw; (try dsimp only at hSw); go_simp; (try with_reducible rfl)
          simp only [Act.put, List.getElem_toArray, List.getElem_cons_succ, List.getElem_cons_zero, List.setIfInBounds_toArray, List.set_cons_zero, List.set_cons_succ]
          refine wpAnyH_done (by kernel_rfl) ?_ _
          clear hHeld
          clear ew1 ew2 cv3 cvb hwin hBd hb3
          rcases HFIN.out with ⟨hb, hg⟩ | ⟨hb, hg⟩
          · subst hb hg
            go_wp2
            go_ret3
            exact ⟨by simp, hB3⟩
          · subst hb hg
            go_wp2
            go_ret3
            exact ⟨rfl, hB3⟩
        · go_wp2
          go_roundw
          case rel => exact ⟨k + 1, by omega, by omega, by go_num, by rw [← HO.out], by
            rw [HSU.out]
            intro d hd
            rcases List.mem_append.1 hd with h | h
            · exact HA.out d h
            · rw [List.mem_singleton.1 h]; omega, hB⟩
          case measure => simp [intOf]; omega
      · have hg : g = (0, 0, 10) := by rw [← HG.out]; exact get_short (by rw [HL.out]; omega) hk10 HA.out
        subst hg
        go_wp2
        go_ret3
        exact ⟨rfl, hB⟩
    · obtain rfl : k = 10 := by omega
      have hg : g = (0, 0, 31) := by rw [← HG.out]; exact get_ten (by rw [HL.out]; omega) HA.out
      subst hg
      go_wp2
      go_ret3
      exact ⟨rfl, hB⟩

theorem refGet_any (A : Option Addr) (cs : List UInt8) (cap : Nat) (i : Int) (w : World) (hl : cs.length ≤ cap) (hcap : cap ≤ 9223372036854775807) (hr : Holds8 w.heap.size w A cs) :
    Calls Try.prog 55 #[.slice A cs.length cap, .int .i64 i] w fun e w' => e = .returned (.tuple #[.int .u64 ((getAt cs i).1 : Int), .int .i64 ((getAt cs i).2.1 : Int), .int .i64 ((getAt cs i).2.2 : Int)]) ∧ Below w.heap.size w w' := by
  by_cases h : i < 0 ∨ (cs.length : Int) < i
  · have hg : getAt cs i = (0, 0, 1) := by unfold getAt; rw [if_pos h]
    rw [hg]
    exact (refGet_out A cs.length cap i w (by omega) h).mono fun e w' ⟨he, hw⟩ => ⟨he, hw ▸ Below.refl _ _⟩
  · obtain ⟨j, rfl⟩ : ∃ j : Nat, i = j := ⟨i.toNat, by omega⟩
    exact refGet_in A cs cap j w hl hcap (by omega) hr

set_option maxRecDepth 100000 in
set_option maxHeartbeats 1000000 in
theorem refGetText_any (A : Option Addr) (cs : List UInt8) (cap : Nat) (i most : Int) (w : World) (hl : cs.length ≤ cap) (hcap : cap ≤ 9223372036854775807) (hm : most ≤ 9223372036854775807) (hr : Holds8 w.heap.size w A cs) :
    Calls Try.prog 56 #[.slice A cs.length cap, .int .i64 i, .int .i64 most] w fun e w' => e = .returned (.tuple #[.string ⟨(getText cs i most).1.toArray⟩, .int .i64 ((getText cs i most).2.1 : Int), .int .i64 ((getText cs i most).2.2 : Int)]) ∧ Below w.heap.size w w' := by
  have hget := refGet_any A cs cap i w hl hcap hr
  generalize hT : getText cs i most = T
  unfold getText at hT
  generalize hg : getAt cs i = g at hget hT
  obtain ⟨n, to, e0⟩ := g
  dsimp only at hT hget
  by_cases he : e0 = 0
  · subst he
    obtain ⟨hto, hn⟩ := getAt_le hg
    simp only [ne_eq, not_true_eq_false, if_false] at hT
    clear hg
    have HG := Lib.hid hget
    clear hget
    by_cases h1 : most < 0 ∨ most < (n : Int)
    · rw [if_pos h1] at hT
      subst hT
      by_cases h2 : most < 0
      · go_enter Try.func56, Try.ntmps56
        go_wp2_with (go_at_call 55; refine HG.out.mono ?_; rintro e w1 ⟨rfl, hb1⟩)
        go_ret3
        exact ⟨rfl, hb1⟩
      · have h3 : most < (n : Int) := by omega
        go_enter Try.func56, Try.ntmps56
        go_wp2_with (go_at_call 55; refine HG.out.mono ?_; rintro e w1 ⟨rfl, hb1⟩)
        go_ret3
        exact ⟨rfl, hb1⟩
    · have h2 : ¬ most < 0 := by omega
      have h3 : ¬ most < (n : Int) := by omega
      rw [if_neg h1] at hT
      clear h1
      obtain ⟨len, hlen⟩ : ∃ len, cs.length = len := ⟨_, rfl⟩
      by_cases h4 : cs.length - to < n
      · rw [if_pos h4] at hT
        subst hT
        rw [hlen] at HG h4 hto hl ⊢
        have h5 : (len : Int) - (to : Int) < (n : Int) := by omega
        clear hlen hr
        go_enter Try.func56, Try.ntmps56
        go_wp2_with (go_at_call 55; refine HG.out.mono ?_; rintro e w1 ⟨rfl, hb1⟩)
        go_ret3
        exact ⟨rfl, hb1⟩
      · rw [if_neg h4] at hT
        subst hT
        have HR := Lib.hid hr
        have HW := Lib.hid (fun (W : World) (hb : Below w.heap.size w W) => window_one A cs cap to n (by omega) hl W w.heap.size (hr.below hb))
        rw [hlen] at HG h4 hto hl HW ⊢
        have h5 : ¬ (len : Int) - (to : Int) < (n : Int) := by omega
        generalize (cs.drop to).take n = out at HW
        clear hlen hr HR
        go_enter Try.func56, Try.ntmps56
        go_wp2_with (go_at_call 55; refine HG.out.mono ?_; rintro e w1 ⟨rfl, hb1⟩; obtain ⟨A', hs1, hs2⟩ := HW.out w1 hb1)
        go_ret3
        exact ⟨rfl, hb1⟩
  · simp only [ne_eq, he, not_false_eq_true, if_true] at hT
    subst hT
    clear hg
    have he' : ((e0 : Int) != 0) = true := by simp; exact he
    have HG := Lib.hid hget
    clear hget hr
    go_enter Try.func56, Try.ntmps56
    go_wp2_with (go_at_call 55; refine HG.out.mono ?_; rintro e w1 ⟨rfl, hb1⟩)
    go_ret3
    exact ⟨rfl, hb1⟩

end Go.Proofs.Ytklgggolkclebaa
