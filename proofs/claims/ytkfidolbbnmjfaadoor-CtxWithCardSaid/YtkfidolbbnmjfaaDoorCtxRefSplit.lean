/-
  The document's own split of layer 4 (telemeterref04), whatever the text and the sign: a row of texts of the call's own.
-/
import Derived.Test.YtkfidolbbnmjfaaDoorCtxRefKey
import Derived.Test.YtkfidolbbnmjfaaDoorCtxStrs
namespace Go.Proofs.YtkfidolbbnmjfaaDoor
open Go.RowKit Go.Shelf Go.Proofs.CtxState Go.Proofs.SeqOwn

theorem ext_bs (s : ByteArray) (a i : Nat) : s.extract a i = bs ((s.data.toList.drop a).take (i - a)) := by
  rw [← bs_list (s.extract a i)]; congr 1; simp [ByteArray.data_extract]
def CutAt (c : UInt8) (l : List UInt8) (done : List (List UInt8)) (a i : Nat) : Prop := (i ≤ l.length → Cut c l done a i) ∧ (i = l.length + 1 → split c l = done) ∧ done.length ≤ i
theorem CutAt.start (c : UInt8) (l : List UInt8) : CutAt c l [] 0 0 := ⟨fun _ => Cut.start c l, fun h => by omega, by simp⟩
theorem CutAt.over {c : UInt8} {l : List UInt8} {done : List (List UInt8)} {a i : Nat} {x : UInt8} (h : CutAt c l done a i) (hi : i < l.length) (hx : l.getD i 0 = x) (hn : x ≠ c) : CutAt c l done a (i + 1) :=
  ⟨fun _ => (h.1 (by omega)).over hi hx hn, fun e => by omega, by have := h.2.2; omega⟩
theorem CutAt.at {c : UInt8} {l : List UInt8} {done : List (List UInt8)} {a i : Nat} (h : CutAt c l done a i) (hi : i < l.length) (hx : l.getD i 0 = c) : CutAt c l (done ++ [(l.drop a).take (i - a)]) (i + 1) (i + 1) :=
  ⟨fun _ => (h.1 (by omega)).at hi hx, fun e => by omega, by have := h.2.2; simp; omega⟩
theorem CutAt.last {c : UInt8} {l : List UInt8} {done : List (List UInt8)} {a : Nat} (h : CutAt c l done a l.length) : CutAt c l (done ++ [(l.drop a).take (l.length - a)]) (l.length + 1) (l.length + 1) :=
  ⟨fun e => by omega, fun _ => (h.1 (Nat.le_refl _)).last, by have := h.2.2; simp; omega⟩
theorem CutAt.le {c : UInt8} {l : List UInt8} {done : List (List UInt8)} {a i : Nat} (h : CutAt c l done a i) (hi : i ≤ l.length) : a ≤ i := (h.1 hi).le

set_option maxRecDepth 100000 in
set_option maxHeartbeats 4000000 in
theorem refSplit_any (s : ByteArray) (c : UInt8) (w : World) (hs : s.size ≤ 5000) : Calls Tryd.prog 63 #[.string s, .int .u8 (c.toNat : Int)] w fun e w' => ∃ sl, e = .returned sl ∧ SL w' w.heap.size sl (pieces c s.data.toList) ∧ Below w.heap.size w w' := by
  obtain ⟨cs, hcs⟩ : ∃ cs, s.data.toList = cs := ⟨_, rfl⟩
  have hl : cs.length = s.size := by rw [← hcs]; simp
  have hat : ∀ i (h : i < s.size), s[i] = cs.getD i 0 := fun i h => by
    rw [← hcs, List.getD_eq_getElem?_getD, List.getElem?_eq_getElem (by rw [size_list]; exact h)]; rfl
  have hex : ∀ a i, s.extract a i = bs ((cs.drop a).take (i - a)) := fun a i => by rw [← hcs]; exact ext_bs s a i
  rw [hcs]
  obtain ⟨P, hP⟩ : ∃ P, pieces c cs = P := ⟨_, rfl⟩
  rw [hP]
  have HP := Lib.hid hP
  obtain ⟨n, hn⟩ : ∃ n, s.size = n := ⟨_, rfl⟩
  rw [hn] at hl hs
  have HL := Lib.hid hl
  have HA := Lib.hid hat
  have HX := Lib.hid hex
  clear hcs hl hP hat hex
  by_cases h0 : n = 0
  · have d0 := empty_of (hn.trans h0)
    have hpn : P = [] := by
      rw [← HP.out]
      have : cs = [] := List.eq_nil_of_length_eq_zero (HL.out.trans h0)
      rw [this]; rfl
    subst h0
    go_enter Tryd.func63, Tryd.ntmps63
    go_wp2_with fail
    go_loopw [5, 6, 7] (fun o _ b wr => o = .slice none 0 0 ∧ b = .int .i64 0 ∧ wr = w) (fun _ _ _ _ => 0)
    case atStart => exact ⟨rfl, rfl, rfl⟩
    case round =>
      obtain ⟨rfl, rfl, rfl⟩ := hrel
      go_wp2_with fail
      go_ret
      exact ⟨_, rfl, by rw [hpn]; exact SL.nil _ _, Below.refl _ _⟩
  · have d0 := full_of (fun e => h0 (hn.symm.trans e))
    go_enter Tryd.func63, Tryd.ntmps63
    go_wp2_with fail
    go_loopw [5, 6, 7] (fun o f b wr => ∃ (i a : Nat) (done : List (List UInt8)), i ≤ n + 1 ∧ f = .int .i64 (a : Int) ∧ b = .int .i64 (i : Int) ∧ Hid (SL wr w.heap.size o done) ∧ Hid (Below w.heap.size w wr) ∧ Hid (CutAt c cs done a i)) (fun _ _ b _ => n + 1 - (intOf b).toNat)
    case atStart => exact ⟨0, 0, [], by omega, rfl, rfl, Lib.hid (SL.nil _ _), Lib.hid (Below.refl _ _), Lib.hid (CutAt.start _ _)⟩
    case round =>
      obtain ⟨i, a, done, hi, rfl, rfl, hO, hB, hC⟩ := hrel
      by_cases hlt : i ≤ n
      · have dl : decide ((i : Int) ≤ (n : Int)) = true := by simp; omega
        have dl' : decide (i ≤ n) = true := by simp; omega
        have hai : a ≤ i := hC.out.le (by rw [HL.out]; exact hlt)
        obtain ⟨pc, hpc⟩ : ∃ pc, s.extract a i = pc := ⟨_, rfl⟩
        have HPC : Hid (pc = bs ((cs.drop a).take (i - a))) := Lib.hid (by rw [← hpc, HX.out])
        have hdn : Hid (done.length ≤ 5001) := Lib.hid (by have := hC.out.2.2; omega)
        by_cases hln : i < n
        · have de : ((i : Int) == (n : Int)) = false := by simp; omega
          have hx := HA.out i (by omega)
          obtain ⟨x, hc⟩ : ∃ x, cs.getD i 0 = x := ⟨_, rfl⟩
          rw [hc] at hx
          have hcc : ∀ hh : i < s.size, s[i]'hh = x := fun _ => hx
          have hkl : i < cs.length := by rw [HL.out]; exact hln
          by_cases he : x = c
          · have ed : ((x.toNat : Int) == (c.toNat : Int)) = true := by rw [he]; simp
            have HC2 := Lib.hid (hC.out.at hkl (hc.trans he))
            clear he hc hkl hC
            generalize c.toNat = cn at *
            go_wp2_with (at_builtin; (refine app_strs rfl _ _ rfl w.heap.size _ u5 _ done [(cs.drop a).take (i - a)] rfl (SL.later hO.out (box_below _)) rfl (SL.one wr pc _ HPC.out) (by have := hdn.out; simp; omega) (by have := hB.out.size; simp; omega) ?_); intro v5 w5 hv5 hg5; have HV5 := Lib.hid hv5; have HB5 := Lib.hid ((hB.out.alloc hB.out.size (.cells #[.string pc] 9)).grown hg5 (by have := hB.out.size; simp; omega) (fun j e => (World.ownsRow.lt hO.out j e).1)); clear hv5 hg5)
            go_roundw
            case rel => exact ⟨i + 1, i + 1, _, by omega, by go_num, by go_num, HV5, HB5, HC2⟩
            case measure => simp [intOf]; omega
          · have ed : ((x.toNat : Int) == (c.toNat : Int)) = false := by
              rw [beq_eq_false_iff_ne]
              intro h
              exact he (UInt8.toNat_inj.1 (by omega))
            have HC2 := Lib.hid (hC.out.over hkl hc he)
            clear he hc hkl hC
            generalize c.toNat = cn at *
            go_wp2_with fail
            go_roundw
            case rel => exact ⟨i + 1, a, done, by omega, rfl, by go_num, hO, hB, HC2⟩
            case measure => simp [intOf]; omega
        · obtain rfl : i = n := by omega
          have de : ((i : Int) == (i : Int)) = true := by simp
          have HC2 : Hid (CutAt c cs (done ++ [(cs.drop a).take (i - a)]) (i + 1) (i + 1)) := Lib.hid (by
            have := hC.out
            rw [← HL.out] at this ⊢
            exact this.last)
          clear hC
          go_wp2_with (at_builtin; (refine app_strs rfl _ _ rfl w.heap.size _ u5 _ done [(cs.drop a).take (i - a)] rfl (SL.later hO.out (box_below _)) rfl (SL.one wr pc _ HPC.out) (by have := hdn.out; simp; omega) (by have := hB.out.size; simp; omega) ?_); intro v5 w5 hv5 hg5; have HV5 := Lib.hid hv5; have HB5 := Lib.hid ((hB.out.alloc hB.out.size (.cells #[.string pc] 9)).grown hg5 (by have := hB.out.size; simp; omega) (fun j e => (World.ownsRow.lt hO.out j e).1)); clear hv5 hg5)
          go_roundw
          case rel => exact ⟨i + 1, i + 1, _, by omega, by go_num, by go_num, HV5, HB5, HC2⟩
          case measure => simp [intOf]
      · have dl : decide ((i : Int) ≤ (n : Int)) = false := by simp; omega
        have dl' : decide (i ≤ n) = false := by simp; omega
        obtain rfl : i = n + 1 := by omega
        have hpd : P = done := by rw [← HP.out, pieces_some (by rw [HL.out]; exact h0)]; exact hC.out.2.1 (by rw [HL.out])
        clear hC
        go_wp2_with fail
        go_ret
        exact ⟨u5, rfl, hpd ▸ hO.out, hB.out⟩
end Go.Proofs.YtkfidolbbnmjfaaDoor
