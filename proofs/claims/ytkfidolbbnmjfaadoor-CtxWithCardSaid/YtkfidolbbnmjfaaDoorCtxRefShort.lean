/-
  The document's own short of layer 4 (telemeterref04); and mathematics for its With.
-/
import Derived.Test.YtkfidolbbnmjfaaDoorCtxRefRead
namespace Go.Proofs.YtkfidolbbnmjfaaDoor
open Go.RowKit Go.Shelf Go.Proofs.CtxState Go.Proofs.SeqOwn

def strLen : Value → Nat
  | .string z => z.size
  | _ => 0
theorem take_last {D : List UInt8} {k m : Nat} {x : UInt8} (hk : k = m + 1) (hx : (D.take k).getD m 0 = x) : D.getD m 0 = x := by
  rw [← hx, List.getD_eq_getElem?_getD, List.getD_eq_getElem?_getD, List.getElem?_take_of_lt (by omega)]

set_option maxRecDepth 100000 in
set_option maxHeartbeats 2000000 in
theorem refShort_any (t : Nat) (w : World) (ht : t < 18446744073709551616) : Calls Tryd.prog 44 #[.int .u64 (t : Int)] w fun e w' => e = .returned (.string (bs (shortL t))) ∧ w = w' := by
  have HD : Hid (∀ W, Calls Tryd.prog 30 #[.int .u64 (t : Int), .int .i64 14] W fun e w' => e = .returned (.string (bs (CtxMath.last t 14))) ∧ W = w') := Lib.hid (fun W => refDigits_any t 14 W ht (by decide))
  have hl := CtxMath.last_len t 14 (by omega)
  obtain ⟨D, hD⟩ : ∃ D, CtxMath.last t 14 = D := ⟨_, rfl⟩
  have HST := Lib.hid (short_take t)
  rw [hD] at HD hl HST
  have HL := Lib.hid hl
  obtain ⟨P, hP⟩ : ∃ P, shortL t = P := ⟨_, rfl⟩
  rw [hP] at HST ⊢
  obtain ⟨z0, hz0⟩ : ∃ z0, bs D = z0 := ⟨_, rfl⟩
  rw [hz0] at HD
  have HZ0 := Lib.hid hz0
  clear hD hl hP hz0
  go_enter Tryd.func44, Tryd.ntmps44
  go_wp2_with fail
  refine (HD.out _).mono ?_
  rintro e w1 ⟨rfl, rfl⟩
  go_wp2_with fail
  go_loopw [3] (fun sv wr => ∃ (k : Nat) (z : ByteArray), 1 ≤ k ∧ k ≤ 14 ∧ sv = .string z ∧ z.size = k ∧ Hid (z = bs (D.take k)) ∧ Hid (∀ j, k ≤ j → j < 14 → D.getD j 0 = 48) ∧ wr = w) (fun sv _ => strLen sv)
  case atStart => exact ⟨14, z0, by omega, by omega, rfl, by rw [← HZ0.out, size_bs, HL.out], Lib.hid (by rw [← HZ0.out, List.take_of_length_le (by rw [HL.out]; omega)]), Lib.hid (fun j h1 h2 => by omega), rfl⟩
  case round =>
    obtain ⟨k, z, hk1, hk2, rfl, hzs, hZ, hN, rfl⟩ := hrel
    by_cases hk : 1 < k
    · have dl : decide ((k : Int) > 1) = true := by simp; omega
      have dl' : decide (1 < k) = true := by simp; omega
      obtain ⟨m, hm, hm'⟩ : ∃ m : Nat, (k : Int) - 1 = (m : Int) ∧ k = m + 1 := ⟨k - 1, by omega, by omega⟩
      have HM := Lib.hid hm'
      have hmk : m < k := by omega
      obtain ⟨x, hx⟩ : ∃ x, (D.take k).getD m 0 = x := ⟨_, rfl⟩
      have hxz : ∀ hh : m < z.size, z[m]'hh = x := fun hh => by
        have e : z.data.toList = D.take k := by rw [hZ.out, list_bs]
        have h2 : z[m]'hh = z.data.toList.getD m 0 := by
          rw [List.getD_eq_getElem?_getD, List.getElem?_eq_getElem (by rw [size_list]; exact hh)]; rfl
        rw [h2, e, hx]
      have hx48 := take_last hm' hx
      by_cases h48 : x = 48
      · have d4 : ((x.toNat : Int) == 48) = true := by rw [h48]; rfl
        obtain ⟨z2, hz2⟩ : ∃ z2, z.extract 0 m = z2 := ⟨_, rfl⟩
        have hz2s : z2.size = m := by rw [← hz2, ByteArray.size_extract]; omega
        have HZ2 : Hid (z2 = bs (D.take m)) := Lib.hid (by rw [← hz2, take_bs, hZ.out, list_bs, List.take_take, Nat.min_eq_left (by omega)])
        have HN2 : Hid (∀ j, m ≤ j → j < 14 → D.getD j 0 = 48) := Lib.hid (fun j h1 h2 => by
          rcases Nat.lt_or_ge j k with h | h
          · obtain rfl : j = m := by omega
            rw [hx48, h48]
          · exact hN.out j h h2)
        clear h48 hx48 hx hm' hN
        go_wp2_with fail
        go_roundw
        case rel => exact ⟨m, z2, by have := HM.out; omega, by have := HM.out; omega, rfl, hz2s, HZ2, HN2, by trivial⟩
        case measure => simp [strLen]; omega
      · have d4 : ((x.toNat : Int) == 48) = false := by
          rw [beq_eq_false_iff_ne]
          intro e
          exact h48 (UInt8.toNat_inj.1 (by show x.toNat = 48; omega))
        have hP : P = D.take k := (HST.out k hk1 hk2 hN.out (.inr (by rw [show k - 1 = m by omega, hx48]; exact h48))).symm
        have HP := Lib.hid hP
        clear h48 hx48 hx hm' hN hP
        go_wp2_with fail
        go_ret
        exact ⟨by rw [HP.out, ← hZ.out]; rfl, rfl⟩
    · have dl : decide ((k : Int) > 1) = false := by simp; omega
      have dl' : decide (1 < k) = false := by simp; omega
      have hP : P = D.take k := (HST.out k hk1 hk2 hN.out (.inl (by omega))).symm
      have HP := Lib.hid hP
      clear hN hP
      go_wp2_with fail
      go_ret
      exact ⟨by rw [HP.out, ← hZ.out]; rfl, rfl⟩

/-- What the members laid so far are no more, and no longer, than; and what they are not. -/
theorem laid_so {a b : Bool} {t r : Nat} {cs : List UInt8} {L X : List (List UInt8)} (h : L ++ X = membersW a t b r (readSt cs).2.2) (hg : (members cs).2 = false) (ho : (readSt cs).2.2 = (others (members cs).1).map txt) :
    (Lib.join L [44]).length ≤ 1000000 ∧ L.length ≤ 514 ∧ (∀ x ∈ L, x ≠ []) ∧ (∀ x ∈ L, (44 : UInt8) ∉ x) := by
  have hgo := (others_good (members_good hg)).1
  have hsub : ∀ x ∈ L, x ∈ membersW a t b r (readSt cs).2.2 := fun x hx => by rw [← h]; exact List.mem_append_left _ hx
  obtain ⟨h1, h2⟩ := read_lens cs
  have h3 := (laidM_len a t b r).2
  have hc := (membersW_lens a t b r cs).2
  rw [← h, List.length_append] at hc
  have hlen : ∀ x ∈ L, x.length ≤ 1025 := fun x hx => by
    have := hsub x hx
    unfold membersW at this
    rcases List.mem_append.1 this with hx | hx
    · split at hx
      · rw [List.mem_singleton] at hx; subst hx; omega
      · cases hx
    · exact h2 x hx
  have h4 := join_len [44] 1025 L hlen
  simp only [List.length_singleton] at h4
  have h5 : L.length * (1025 + 1) ≤ 514 * 1026 := Nat.mul_le_mul (by omega) (Nat.le_refl _)
  refine ⟨by omega, by omega, fun x hx => ?_, fun x hx => ?_⟩
  · have := hsub x hx
    unfold membersW at this
    rcases List.mem_append.1 this with hx | hx
    · split at hx
      · rw [List.mem_singleton] at hx; subst hx; unfold laidM; simp
      · cases hx
    · rw [ho] at hx
      obtain ⟨kv, _, rfl⟩ := List.mem_map.1 hx
      unfold txt; simp
  · have := hsub x hx
    unfold membersW at this
    rcases List.mem_append.1 this with hx | hx
    · split at hx
      · rename_i hab
        rw [List.mem_singleton] at hx; subst hx
        have := (laidV_right t r hab).2
        unfold laidV at this
        unfold laidM
        simp [this]
      · cases hx
    · rw [ho] at hx
      exact hgo.txt_no x hx
end Go.Proofs.YtkfidolbbnmjfaaDoor
