/-
  slices.IndexFunc and ContainsFunc over rules, rows and spans, asked by whatever function.
-/
import Derived.Deep.DeepCutAuto
import Derived.Test.YtmjbdjcpjaeemaaDoorPoLen
namespace Go.Proofs.YtmjbdjcpjaeemaaDoor
open Go.RowKit

/-- A span's value, its attributes at B. -/
def spV (s : Sp) (B : Option Addr) (c : Nat) : Value := .agg (spCells s.hi s.lo s.id s.par s.name s.start s.stop s.bad B s.attrs.length c s.rv)
/-- A function that has a body: a call of it begins. -/
def Goes (F : Nat) : Prop := ∀ args W, (callFunc F args).run Tryd.prog W = .ok (.enter F args) W

set_option linter.unusedSimpArgs false in
set_option maxRecDepth 100000 in
set_option maxHeartbeats 2000000 in
theorem indexR_any (A : Option Addr) (l : List Ru) (n cap : Nat) (F : Nat) (caps : Array Value) (p : Ru → Bool) (w : World) (hn : l.length = n) (hn2 : n ≤ 9223372036854775807) (hr : HoldsR w.heap.size w A l) (hgo : Goes F)
    (hf : ∀ W, Below w.heap.size w W → ∀ i, i < n → Calls Tryd.prog F (#[.agg (ruCells (l.getD i ru0))] ++ caps) W fun e w' => e = .returned (.bool (p (l.getD i ru0))) ∧ Below W.heap.size W w') :
    Calls Tryd.prog 43 #[.slice A n cap, .func (.func F) #[] caps] w fun e w' => e = .returned (.int .i64 (idx p l)) ∧ Below w.heap.size w w' := by
  have HR := Lib.hid hr
  have HN := Lib.hid hn
  have HF := Lib.hid hf
  have hgo2 : ∀ args W, (callFunc F args).run Tryd.prog W = .ok (.enter F args) W := hgo
  clear hr hf hn hgo
  go_enter Tryd.func43, Tryd.ntmps43
  go_wp2_with fail
  go_loopw [8] (fun iv wr => ∃ i : Nat, iv = .int .i64 (i : Int) ∧ i ≤ n ∧ Hid (∀ j, j < i → p (l.getD j ru0) = false) ∧ Below w.heap.size w wr) (fun iv _ => n - (intOf iv).toNat)
  case atStart => exact ⟨0, rfl, by omega, Lib.hid fun j hj => absurd hj (by omega), Below.refl _ _⟩
  case round =>
    obtain ⟨i, rfl, hi, HI, hB⟩ := hrel
    by_cases hlt : i < n
    · obtain ⟨b, off, rfl, hb, hc⟩ := HR.out (by rw [HN.out]; omega)
      obtain ⟨h0, h1, h2, h3⟩ := hc i (by rw [HN.out]; omega)
      have hcall := HF.out wr hB i hlt
      have t : ∀ k, wr.cell? ⟨b, k, none⟩ = w.cell? ⟨b, k, none⟩ := fun k => hB.cell (p := ⟨b, k, none⟩) hb
      rw [← t] at h0 h1 h2 h3
      obtain ⟨r, hpr⟩ : ∃ r, p (l.getD i ru0) = r := ⟨_, rfl⟩
      rw [hpr] at hcall
      obtain ⟨⟨x0, x1, x2, x3⟩, hx⟩ : ∃ s, l.getD i ru0 = s := ⟨_, rfl⟩
      rw [hx] at h0 h1 h2 h3 hcall
      unfold ruCells at hcall
      dsimp only at h0 h1 h2 h3 hcall
      have HCALL := Lib.hid hcall
      have HBB := Lib.hid hB
      have HP := Lib.hid hpr
      have ti : decide ((i : Int) < (n : Int)) = true := by simp; omega
      clear t hB hc hcall hpr hx
      go_wp2_with fail
      refine HCALL.out.mono ?_
      rintro e w2 ⟨rfl, hb2⟩
      have HB2 := Lib.hid (HBB.out.trans (hb2.mono HBB.out.size))
      clear hb2
      cases r with
      | true =>
        go_wp2_with fail
        go_ret
        exact ⟨by rw [idx_at ru0 (by rw [HN.out]; exact hlt) HI.out HP.out]; rfl, HB2.out⟩
      | false =>
        go_wp2_with fail
        go_roundw
        case rel => exact ⟨i + 1, by simp, by omega, Lib.hid fun j hj => by
          rcases Nat.lt_or_ge j i with h | h
          · exact HI.out j h
          · rw [show j = i by omega]; exact HP.out, HB2.out⟩
        case measure => simp [intOf]; omega
    · have hie : i = n := by omega
      subst hie
      have ti : decide ((i : Int) < (i : Int)) = false := by simp
      have HBB := Lib.hid hB
      clear hB hlt
      go_wp2_with fail
      go_ret
      exact ⟨by rw [idx_none ru0 (fun j hj => HI.out j (by rw [← HN.out]; exact hj))]; rfl, HBB.out⟩

set_option linter.unusedSimpArgs false in
set_option maxRecDepth 100000 in
set_option maxHeartbeats 2000000 in
theorem indexS_any (A : Option Addr) (l : List Sp) (n cap : Nat) (F : Nat) (caps : Array Value) (p : Sp → Bool) (w : World) (hn : l.length = n) (hn2 : n ≤ 9223372036854775807) (hr : HoldsS w.heap.size w A l) (hgo : Goes F)
    (hf : ∀ W, Below w.heap.size w W → ∀ i, i < n → ∀ B c, HoldsA w.heap.size w B (l.getD i sp0).attrs → Calls Tryd.prog F (#[spV (l.getD i sp0) B c] ++ caps) W fun e w' => e = .returned (.bool (p (l.getD i sp0))) ∧ Below W.heap.size W w') :
    Calls Tryd.prog 49 #[.slice A n cap, .func (.func F) #[] caps] w fun e w' => e = .returned (.int .i64 (idx p l)) ∧ Below w.heap.size w w' := by
  have HR := Lib.hid hr
  have HN := Lib.hid hn
  have HF := Lib.hid hf
  have hgo2 : ∀ args W, (callFunc F args).run Tryd.prog W = .ok (.enter F args) W := hgo
  clear hr hf hn hgo
  go_enter Tryd.func49, Tryd.ntmps49
  go_wp2_with fail
  go_loopw [8] (fun iv wr => ∃ i : Nat, iv = .int .i64 (i : Int) ∧ i ≤ n ∧ Hid (∀ j, j < i → p (l.getD j sp0) = false) ∧ Below w.heap.size w wr) (fun iv _ => n - (intOf iv).toNat)
  case atStart => exact ⟨0, rfl, by omega, Lib.hid fun j hj => absurd hj (by omega), Below.refl _ _⟩
  case round =>
    obtain ⟨i, rfl, hi, HI, hB⟩ := hrel
    by_cases hlt : i < n
    · obtain ⟨b, off, rfl, hb, hc⟩ := HR.out (by rw [HN.out]; omega)
      obtain ⟨B, c, h0, h1, h2, h3, h4, h5, h6, h7, h8, h9, hA⟩ := hc i (by rw [HN.out]; omega)
      have hcall := HF.out wr hB i hlt B c hA
      have t : ∀ k, wr.cell? ⟨b, k, none⟩ = w.cell? ⟨b, k, none⟩ := fun k => hB.cell (p := ⟨b, k, none⟩) hb
      rw [← t] at h0 h1 h2 h3 h4 h5 h6 h7 h8 h9
      obtain ⟨r, hpr⟩ : ∃ r, p (l.getD i sp0) = r := ⟨_, rfl⟩
      rw [hpr] at hcall
      obtain ⟨⟨x0, x1, x2, x3, x4, x5, x6, x7, x8, x9⟩, hx⟩ : ∃ s, l.getD i sp0 = s := ⟨_, rfl⟩
      rw [hx] at h0 h1 h2 h3 h4 h5 h6 h7 h8 h9 hcall
      unfold spV spCells at hcall
      dsimp only at h0 h1 h2 h3 h4 h5 h6 h7 h8 h9 hcall
      obtain ⟨na, hna⟩ : ∃ z, x8.length = z := ⟨_, rfl⟩
      rw [hna] at h8 hcall
      have HCALL := Lib.hid hcall
      have HBB := Lib.hid hB
      have HP := Lib.hid hpr
      have ti : decide ((i : Int) < (n : Int)) = true := by simp; omega
      clear t hB hc hcall hpr hx hA hna
      go_wp2_with fail
      refine HCALL.out.mono ?_
      rintro e w2 ⟨rfl, hb2⟩
      have HB2 := Lib.hid (HBB.out.trans (hb2.mono HBB.out.size))
      clear hb2
      cases r with
      | true =>
        go_wp2_with fail
        go_ret
        exact ⟨by rw [idx_at sp0 (by rw [HN.out]; exact hlt) HI.out HP.out]; rfl, HB2.out⟩
      | false =>
        go_wp2_with fail
        go_roundw
        case rel => exact ⟨i + 1, by simp, by omega, Lib.hid fun j hj => by
          rcases Nat.lt_or_ge j i with h | h
          · exact HI.out j h
          · rw [show j = i by omega]; exact HP.out, HB2.out⟩
        case measure => simp [intOf]; omega
    · have hie : i = n := by omega
      subst hie
      have ti : decide ((i : Int) < (i : Int)) = false := by simp
      have HBB := Lib.hid hB
      clear hB hlt
      go_wp2_with fail
      go_ret
      exact ⟨by rw [idx_none sp0 (fun j hj => HI.out j (by rw [← HN.out]; exact hj))]; rfl, HBB.out⟩

set_option linter.unusedSimpArgs false in
set_option maxRecDepth 100000 in
set_option maxHeartbeats 2000000 in
theorem indexRR_any (A : Option Addr) (l : List (List Ru)) (n cap : Nat) (F : Nat) (caps : Array Value) (p : (List Ru) → Bool) (w : World) (hn : l.length = n) (hn2 : n ≤ 9223372036854775807) (hr : HoldsRR w.heap.size w A l) (hgo : Goes F)
    (hf : ∀ W, Below w.heap.size w W → ∀ i, i < n → ∀ B c, HoldsR w.heap.size w B (l.getD i []) → Calls Tryd.prog F (#[.slice B (l.getD i []).length c] ++ caps) W fun e w' => e = .returned (.bool (p (l.getD i []))) ∧ Below W.heap.size W w') :
    Calls Tryd.prog 23 #[.slice A n cap, .func (.func F) #[] caps] w fun e w' => e = .returned (.int .i64 (idx p l)) ∧ Below w.heap.size w w' := by
  have HR := Lib.hid hr
  have HN := Lib.hid hn
  have HF := Lib.hid hf
  have hgo2 : ∀ args W, (callFunc F args).run Tryd.prog W = .ok (.enter F args) W := hgo
  clear hr hf hn hgo
  go_enter Tryd.func23, Tryd.ntmps23
  go_wp2_with fail
  go_loopw [8] (fun iv wr => ∃ i : Nat, iv = .int .i64 (i : Int) ∧ i ≤ n ∧ Hid (∀ j, j < i → p (l.getD j []) = false) ∧ Below w.heap.size w wr) (fun iv _ => n - (intOf iv).toNat)
  case atStart => exact ⟨0, rfl, by omega, Lib.hid fun j hj => absurd hj (by omega), Below.refl _ _⟩
  case round =>
    obtain ⟨i, rfl, hi, HI, hB⟩ := hrel
    by_cases hlt : i < n
    · obtain ⟨b, off, rfl, hb, hc⟩ := HR.out (by rw [HN.out]; omega)
      obtain ⟨B, c, h0, hA⟩ := hc i (by rw [HN.out]; omega)
      have hcall := HF.out wr hB i hlt B c hA
      have t : ∀ k, wr.cell? ⟨b, k, none⟩ = w.cell? ⟨b, k, none⟩ := fun k => hB.cell (p := ⟨b, k, none⟩) hb
      rw [← t] at h0
      obtain ⟨r, hpr⟩ : ∃ r, p (l.getD i []) = r := ⟨_, rfl⟩
      rw [hpr] at hcall
      obtain ⟨na, hna⟩ : ∃ z, (l.getD i []).length = z := ⟨_, rfl⟩
      rw [hna] at h0 hcall
      have HCALL := Lib.hid hcall
      have HBB := Lib.hid hB
      have HP := Lib.hid hpr
      have ti : decide ((i : Int) < (n : Int)) = true := by simp; omega
      clear t hB hc hcall hpr hA hna
      go_wp2_with fail
      refine HCALL.out.mono ?_
      rintro e w2 ⟨rfl, hb2⟩
      have HB2 := Lib.hid (HBB.out.trans (hb2.mono HBB.out.size))
      clear hb2
      cases r with
      | true =>
        go_wp2_with fail
        go_ret
        exact ⟨by rw [idx_at [] (by rw [HN.out]; exact hlt) HI.out HP.out]; rfl, HB2.out⟩
      | false =>
        go_wp2_with fail
        go_roundw
        case rel => exact ⟨i + 1, by simp, by omega, Lib.hid fun j hj => by
          rcases Nat.lt_or_ge j i with h | h
          · exact HI.out j h
          · rw [show j = i by omega]; exact HP.out, HB2.out⟩
        case measure => simp [intOf]; omega
    · have hie : i = n := by omega
      subst hie
      have ti : decide ((i : Int) < (i : Int)) = false := by simp
      have HBB := Lib.hid hB
      clear hB hlt
      go_wp2_with fail
      go_ret
      exact ⟨by rw [idx_none [] (fun j hj => HI.out j (by rw [← HN.out]; exact hj))]; rfl, HBB.out⟩

set_option maxRecDepth 100000 in
set_option maxHeartbeats 1000000 in
theorem containsR_any (A : Option Addr) (l : List Ru) (n cap : Nat) (F : Nat) (caps : Array Value) (p : Ru → Bool) (w : World) (hn : l.length = n) (hn2 : n ≤ 9223372036854775807) (hr : HoldsR w.heap.size w A l) (hgo : Goes F)
    (hf : ∀ W, Below w.heap.size w W → ∀ i, i < n → Calls Tryd.prog F (#[.agg (ruCells (l.getD i ru0))] ++ caps) W fun e w' => e = .returned (.bool (p (l.getD i ru0))) ∧ Below W.heap.size W w') :
    Calls Tryd.prog 34 #[.slice A n cap, .func (.func F) #[] caps] w fun e w' => e = .returned (.bool (l.any p)) ∧ Below w.heap.size w w' := by
  have H := Lib.hid (indexR_any A l n cap F caps p w hn hn2 hr hgo hf)
  have HI := Lib.hid (idx_any p l)
  obtain ⟨k, hk⟩ : ∃ k, idx p l = k := ⟨_, rfl⟩
  obtain ⟨b, hb⟩ : ∃ b, decide (0 ≤ k) = b := ⟨_, rfl⟩
  have HE : Hid (l.any p = b) := Lib.hid (by rw [← idx_any, hk, hb])
  rw [hk] at H
  clear hk hf hr hgo hn HI
  go_enter Tryd.func34, Tryd.ntmps34
  go_wp2_with fail
  refine H.out.mono ?_
  rintro e w2 ⟨rfl, hb2⟩
  go_wp2_with fail
  go_ret
  exact ⟨ret_b HE.out.symm, hb2⟩

set_option maxRecDepth 100000 in
set_option maxHeartbeats 1000000 in
theorem containsS_any (A : Option Addr) (l : List Sp) (n cap : Nat) (F : Nat) (caps : Array Value) (p : Sp → Bool) (w : World) (hn : l.length = n) (hn2 : n ≤ 9223372036854775807) (hr : HoldsS w.heap.size w A l) (hgo : Goes F)
    (hf : ∀ W, Below w.heap.size w W → ∀ i, i < n → ∀ B c, HoldsA w.heap.size w B (l.getD i sp0).attrs → Calls Tryd.prog F (#[spV (l.getD i sp0) B c] ++ caps) W fun e w' => e = .returned (.bool (p (l.getD i sp0))) ∧ Below W.heap.size W w') :
    Calls Tryd.prog 44 #[.slice A n cap, .func (.func F) #[] caps] w fun e w' => e = .returned (.bool (l.any p)) ∧ Below w.heap.size w w' := by
  have H := Lib.hid (indexS_any A l n cap F caps p w hn hn2 hr hgo hf)
  have HI := Lib.hid (idx_any p l)
  obtain ⟨k, hk⟩ : ∃ k, idx p l = k := ⟨_, rfl⟩
  obtain ⟨b, hb⟩ : ∃ b, decide (0 ≤ k) = b := ⟨_, rfl⟩
  have HE : Hid (l.any p = b) := Lib.hid (by rw [← idx_any, hk, hb])
  rw [hk] at H
  clear hk hf hr hgo hn HI
  go_enter Tryd.func44, Tryd.ntmps44
  go_wp2_with fail
  refine H.out.mono ?_
  rintro e w2 ⟨rfl, hb2⟩
  go_wp2_with fail
  go_ret
  exact ⟨ret_b HE.out.symm, hb2⟩
end Go.Proofs.YtmjbdjcpjaeemaaDoor
