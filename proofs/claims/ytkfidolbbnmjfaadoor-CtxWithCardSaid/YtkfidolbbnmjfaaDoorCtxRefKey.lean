/-
  The document's own place, key and value of layer 4 (telemeterref04), whatever the text.
-/
import Derived.Test.YtkfidolbbnmjfaaDoorCtxKey
import Derived.Test.YtkfidolbbnmjfaaDoorCtxRefM
namespace Go.Proofs.YtkfidolbbnmjfaaDoor
open Go.RowKit Go.Proofs.CtxState

set_option maxRecDepth 100000 in
set_option maxHeartbeats 2000000 in
theorem refPlace_any (s : ByteArray) (c : UInt8) (w : World) (hs : s.size ≤ 9223372036854775807) : Calls Tryd.prog 65 #[.string s, .int .u8 (c.toNat : Int)] w fun e w' => e = .returned (.int .i64 (Lib.indexByte s.data.toList c)) ∧ w = w' := by
  obtain ⟨cs, hcs⟩ : ∃ cs, s.data.toList = cs := ⟨_, rfl⟩
  have hl : cs.length = s.size := by rw [← hcs]; simp
  have hat : ∀ i (h : i < s.size), s[i] = cs.getD i 0 := fun i h => by
    rw [← hcs, List.getD_eq_getElem?_getD, List.getElem?_eq_getElem (by rw [size_list]; exact h)]; rfl
  rw [hcs]
  obtain ⟨P, hP⟩ : ∃ P, Lib.indexByte cs c = P := ⟨_, rfl⟩
  rw [hP]
  have HP := Lib.hid hP
  obtain ⟨n, hn⟩ : ∃ n, s.size = n := ⟨_, rfl⟩
  rw [hn] at hl hs
  have HL := Lib.hid hl
  have HA := Lib.hid hat
  clear hcs hl hP hat
  go_enter Tryd.func65, Tryd.ntmps65
  go_wp2_with fail
  go_loopw [5] (fun b wr => ∃ k : Nat, k ≤ n ∧ b = .int .i64 (k : Int) ∧ Hid (∀ j, j < k → cs.getD j 0 ≠ c) ∧ wr = w) (fun b _ => n - (intOf b).toNat)
  case atStart => exact ⟨0, by omega, rfl, Lib.hid (fun j hj => by omega), rfl⟩
  case round =>
    obtain ⟨k, hk, rfl, hN, rfl⟩ := hrel
    by_cases hlt : k < n
    · have dl : decide ((k : Int) < (n : Int)) = true := by simp; omega
      have dl' : decide (k < n) = true := by simp; omega
      have hi2 : k < s.size := by omega
      have hx := HA.out k hi2
      obtain ⟨x, hc⟩ : ∃ x, cs.getD k 0 = x := ⟨_, rfl⟩
      rw [hc] at hx
      have hcc : ∀ hh : k < s.size, s[k]'hh = x := fun _ => hx
      have hkl : k < cs.length := by rw [HL.out]; exact hlt
      by_cases he : x = c
      · have ed : ((x.toNat : Int) == (c.toNat : Int)) = true := by rw [he]; simp
        have hp : P = (k : Int) := by rw [← HP.out, index_first c cs k hkl (by rw [hc, he]) hN.out]
        subst hp
        clear hN HP hc hkl
        clear he
        generalize c.toNat = cn at *
        go_wp2_with fail
        go_ret
        exact ⟨rfl, rfl⟩
      · have ed : ((x.toNat : Int) == (c.toNat : Int)) = false := by
          rw [beq_eq_false_iff_ne]
          intro h
          exact he (UInt8.toNat_inj.1 (by omega))
        have HN : Hid (∀ j, j < k + 1 → cs.getD j 0 ≠ c) := Lib.hid (fun j hj => by
          rcases Nat.lt_or_ge j k with h | h
          · exact hN.out j h
          · have : j = k := by omega
            subst this
            rw [hc]; exact he)
        clear hN he hc hkl
        generalize c.toNat = cn at *
        go_wp2_with fail
        go_roundw
        case rel => exact ⟨k + 1, by omega, by go_num, HN, by trivial⟩
        case measure => simp [intOf]; omega
    · have dl : decide ((k : Int) < (n : Int)) = false := by simp; omega
      have dl' : decide (k < n) = false := by simp; omega
      obtain rfl : k = n := by omega
      have hp : P = -1 := by rw [← HP.out, index_never c cs (fun j hj => hN.out j (by rw [HL.out] at hj; exact hj))]
      subst hp
      clear hN HP
      go_wp2_with fail
      go_ret
      exact ⟨rfl, rfl⟩

theorem place_key (c : UInt8) (w : World) : Calls Tryd.prog 65 #[.string ⟨#[97, 98, 99, 100, 101, 102, 103, 104, 105, 106, 107, 108, 109, 110, 111, 112, 113, 114, 115, 116, 117, 118, 119, 120, 121, 122, 48, 49, 50, 51, 52, 53, 54, 55, 56, 57, 95, 45, 42, 47, 64]⟩, .int .u8 (c.toNat : Int)] w fun e w' => (∃ r : Int, e = .returned (.int .i64 r) ∧ (r < 0) = (keySign c = false)) ∧ w = w' :=
  (refPlace_any _ c w (by decide)).mono fun _ _ ⟨he, hw⟩ => ⟨⟨_, he, by
    have := index_keys ⟨c.toNat, c.toNat_lt⟩
    have e1 : UInt8.ofNat c.toNat = c := by simp
    simp only [e1] at this
    exact this⟩, hw⟩

set_option maxRecDepth 100000 in
set_option maxHeartbeats 2000000 in
theorem refKey_any (s : ByteArray) (w : World) (hs : s.size ≤ 9223372036854775807) : Calls Tryd.prog 66 #[.string s] w fun e w' => e = .returned (.bool (rightKey s.data.toList)) ∧ w = w' := by
  obtain ⟨cs, hcs⟩ : ∃ cs, s.data.toList = cs := ⟨_, rfl⟩
  have hl : cs.length = s.size := by rw [← hcs]; simp
  have hat : ∀ i (h : i < s.size), s[i] = cs.getD i 0 := fun i h => by
    rw [← hcs, List.getD_eq_getElem?_getD, List.getElem?_eq_getElem (by rw [size_list]; exact h)]; rfl
  rw [hcs]
  obtain ⟨P, hP⟩ : ∃ P, rightKey cs = P := ⟨_, rfl⟩
  rw [hP]
  have HP := Lib.hid hP
  obtain ⟨n, hn⟩ : ∃ n, s.size = n := ⟨_, rfl⟩
  rw [hn] at hl hs
  have HL := Lib.hid hl
  have HA := Lib.hid hat
  clear hcs hl hP hat
  go_enter Tryd.func66, Tryd.ntmps66
  go_wp2_with fail
  go_loopw [4] (fun b wr => ∃ k : Nat, k ≤ n ∧ b = .int .i64 (k : Int) ∧ Hid ((cs.drop k).all keySign = cs.all keySign) ∧ wr = w) (fun b _ => n - (intOf b).toNat)
  case atStart => exact ⟨0, by omega, rfl, Lib.hid rfl, rfl⟩
  case round =>
    obtain ⟨k, hk, rfl, hR, rfl⟩ := hrel
    by_cases hlt : k < n
    · have dl : decide ((k : Int) < (n : Int)) = true := by simp; omega
      have dl' : decide (k < n) = true := by simp; omega
      have hi2 : k < s.size := by omega
      have hx := HA.out k hi2
      obtain ⟨c, hc⟩ : ∃ c, cs.getD k 0 = c := ⟨_, rfl⟩
      rw [hc] at hx
      have hcc : ∀ hh : k < s.size, s[k]'hh = c := fun _ => hx
      have hkl : k < cs.length := by rw [HL.out]; exact hlt
      cases hu : keySign c with
      | false =>
        have hpf : P = false := by rw [← HP.out, rightKey_bad (by rw [← hR.out, all_no hkl hc hu])]
        subst hpf
        have HI := Lib.hid (fun W => place_key c W)
        rw [hu] at HI
        clear hR HP hu hc hkl
        go_wp2_with fail
        refine (HI.out _).mono ?_
        rintro e w' ⟨⟨r, rfl, hr⟩, rfl⟩
        have hr2 : r < 0 := by rw [hr]; trivial
        have dr : decide (r < 0) = true := by simp [hr2]
        clear hr
        go_wp2_with fail
        go_ret
        exact ⟨rfl, rfl⟩
      | true =>
        have hR2 : Hid ((cs.drop (k + 1)).all keySign = cs.all keySign) := Lib.hid (by rw [← hR.out, all_yes hkl hc hu])
        have HI := Lib.hid (fun W => place_key c W)
        rw [hu] at HI
        clear hR HP hu hc hkl
        go_wp2_with fail
        refine (HI.out _).mono ?_
        rintro e w' ⟨⟨r, rfl, hr⟩, rfl⟩
        have hr2 : ¬ r < 0 := by rw [hr]; simp
        have dr : decide (r < 0) = false := by simp [hr2]
        clear hr
        go_wp2_with fail
        go_roundw
        case rel => exact ⟨k + 1, by omega, by go_num, hR2, by trivial⟩
        case measure => simp [intOf]; omega
    · have dl : decide ((k : Int) < (n : Int)) = false := by simp; omega
      have dl' : decide (k < n) = false := by simp; omega
      obtain rfl : k = n := by omega
      have hpn : P = (decide (0 < k) && decide (k ≤ 60)) := by
        rw [← HP.out, rightKey_ok (by rw [← hR.out, List.drop_of_length_le (by rw [HL.out]; omega)]; rfl), HL.out]
      clear hR HP hlt
      obtain ⟨p1, hp1⟩ : ∃ p, decide (0 < k) = p := ⟨_, rfl⟩
      obtain ⟨p2, hp2⟩ : ∃ p, decide (k ≤ 60) = p := ⟨_, rfl⟩
      rw [hp1, hp2] at hpn
      subst hpn
      have d1 : decide ((k : Int) > 0) = p1 := by rw [← hp1]; exact decide_eq_decide.2 (by omega)
      have d2 : decide ((k : Int) ≤ 60) = p2 := by rw [← hp2]; exact decide_eq_decide.2 (by omega)
      cases p1 <;> cases p2 <;> (go_wp2_with fail; go_ret; exact ⟨rfl, rfl⟩)

theorem mark_lo {c : UInt8} (h : c.toNat < 33) : markSign c = false := by unfold markSign; rw [valSign_lo h]; rfl
theorem mark_hi {c : UInt8} (h : 126 < c.toNat) : markSign c = false := by unfold markSign; rw [valSign_hi h]; rfl
theorem mark_44 {c : UInt8} (h : c.toNat = 44) : markSign c = false := by
  have : c = 44 := UInt8.toNat_inj.1 h
  subst this; decide
theorem mark_61 {c : UInt8} (h : c.toNat = 61) : markSign c = false := by
  have : c = 61 := UInt8.toNat_inj.1 h
  subst this; decide
theorem mark_in {c : UInt8} (h : ¬ c.toNat < 33) (h2 : ¬ 126 < c.toNat) (h3 : c.toNat ≠ 44) (h4 : c.toNat ≠ 61) : markSign c = true := by
  have e1 : (c == 44) = false := by rw [beq_eq_false_iff_ne]; rintro rfl; exact h3 rfl
  have e2 : (c == 61) = false := by rw [beq_eq_false_iff_ne]; rintro rfl; exact h4 rfl
  unfold markSign
  rw [valSign_in h h2, e1, e2]; rfl

set_option maxRecDepth 100000 in
set_option maxHeartbeats 2000000 in
theorem refValue_any (s : ByteArray) (w : World) (hs : s.size ≤ 9223372036854775807) : Calls Tryd.prog 67 #[.string s] w fun e w' => e = .returned (.bool (refVal s.data.toList)) ∧ w = w' := by
  obtain ⟨cs, hcs⟩ : ∃ cs, s.data.toList = cs := ⟨_, rfl⟩
  have hl : cs.length = s.size := by rw [← hcs]; simp
  have hat : ∀ i (h : i < s.size), s[i] = cs.getD i 0 := fun i h => by
    rw [← hcs, List.getD_eq_getElem?_getD, List.getElem?_eq_getElem (by rw [size_list]; exact h)]; rfl
  rw [hcs]
  obtain ⟨P, hP⟩ : ∃ P, refVal cs = P := ⟨_, rfl⟩
  rw [hP]
  have HP := Lib.hid hP
  obtain ⟨n, hn⟩ : ∃ n, s.size = n := ⟨_, rfl⟩
  rw [hn] at hl hs
  have HL := Lib.hid hl
  have HA := Lib.hid hat
  clear hcs hl hP hat
  go_enter Tryd.func67, Tryd.ntmps67
  go_wp2_with fail
  go_loopw [3] (fun b wr => ∃ k : Nat, k ≤ n ∧ b = .int .i64 (k : Int) ∧ Hid ((cs.drop k).all markSign = cs.all markSign) ∧ wr = w) (fun b _ => n - (intOf b).toNat)
  case atStart => exact ⟨0, by omega, rfl, Lib.hid rfl, rfl⟩
  case round =>
    obtain ⟨k, hk, rfl, hR, rfl⟩ := hrel
    by_cases hlt : k < n
    · have dl : decide ((k : Int) < (n : Int)) = true := by simp; omega
      have dl' : decide (k < n) = true := by simp; omega
      have hi2 : k < s.size := by omega
      have hx := HA.out k hi2
      obtain ⟨c, hc⟩ : ∃ c, cs.getD k 0 = c := ⟨_, rfl⟩
      rw [hc] at hx
      obtain ⟨cn, hcn⟩ : ∃ cn, c.toNat = cn := ⟨_, rfl⟩
      have hcc : ∀ hh : k < s.size, (s[k]'hh).toNat = cn := fun _ => by rw [hx, hcn]
      have hkl : k < cs.length := by rw [HL.out]; exact hlt
      obtain ⟨p1, hp1⟩ : ∃ p, decide ((cn : Int) < 33) = p := ⟨_, rfl⟩
      obtain ⟨p2, hp2⟩ : ∃ p, decide (126 < (cn : Int)) = p := ⟨_, rfl⟩
      obtain ⟨p3, hp3⟩ : ∃ p, ((cn : Int) == 44) = p := ⟨_, rfl⟩
      obtain ⟨p4, hp4⟩ : ∃ p, ((cn : Int) == 61) = p := ⟨_, rfl⟩
      have hm : markSign c = !(p1 || p2 || p3 || p4) := by
        rw [← hp1, ← hp2, ← hp3, ← hp4]
        by_cases q1 : cn < 33
        · rw [mark_lo (by omega)]; simp; omega
        · by_cases q2 : 126 < cn
          · rw [mark_hi (by omega)]; simp; omega
          · by_cases q3 : cn = 44
            · rw [mark_44 (by omega)]; simp; omega
            · by_cases q4 : cn = 61
              · rw [mark_61 (by omega)]; simp; omega
              · rw [mark_in (by omega) (by omega) (by omega) (by omega)]; simp; omega
      cases hu : markSign c with
      | false =>
        rw [hu] at hm
        have hpf : P = false := by rw [← HP.out, refVal_bad (by rw [← hR.out, all_no hkl hc hu])]
        subst hpf
        clear hR HP hu hc hkl hx hcn
        cases p1
        · cases p2
          · cases p3
            · cases p4
              · cases hm
              · clear hm; go_wp2_with fail; go_ret; exact ⟨rfl, rfl⟩
            · clear hm; go_wp2_with fail; go_ret; exact ⟨rfl, rfl⟩
          · clear hm; go_wp2_with fail; go_ret; exact ⟨rfl, rfl⟩
        · clear hm; go_wp2_with fail; go_ret; exact ⟨rfl, rfl⟩
      | true =>
        rw [hu] at hm
        have hR2 : Hid ((cs.drop (k + 1)).all markSign = cs.all markSign) := Lib.hid (by rw [← hR.out, all_yes hkl hc hu])
        have hm2 : ((p1 = false ∧ p2 = false) ∧ p3 = false) ∧ p4 = false := by
          clear hp1 hp2 hp3 hp4
          revert hm
          cases p1 <;> cases p2 <;> cases p3 <;> cases p4 <;> simp
        obtain ⟨⟨⟨rfl, rfl⟩, rfl⟩, rfl⟩ := hm2
        clear hm
        clear hR HP hu hc hkl hx hcn
        go_wp2_with fail
        go_roundw
        case rel => exact ⟨k + 1, by omega, by go_num, hR2, by trivial⟩
        case measure => simp [intOf]; omega
    · have dl : decide ((k : Int) < (n : Int)) = false := by simp; omega
      have dl' : decide (k < n) = false := by simp; omega
      obtain rfl : k = n := by omega
      have hpn : P = (decide (0 < k) && decide (k ≤ 200)) := by
        rw [← HP.out, refVal_ok (by rw [← hR.out, List.drop_of_length_le (by rw [HL.out]; omega)]; rfl), HL.out]
      clear hR HP hlt
      obtain ⟨p1, hp1⟩ : ∃ p, decide (0 < k) = p := ⟨_, rfl⟩
      obtain ⟨p2, hp2⟩ : ∃ p, decide (k ≤ 200) = p := ⟨_, rfl⟩
      rw [hp1, hp2] at hpn
      subst hpn
      have d1 : decide ((k : Int) > 0) = p1 := by rw [← hp1]; exact decide_eq_decide.2 (by omega)
      have d2 : decide ((k : Int) ≤ 200) = p2 := by rw [← hp2]; exact decide_eq_decide.2 (by omega)
      cases p1 <;> cases p2 <;> (go_wp2_with fail; go_ret; exact ⟨rfl, rfl⟩)
end Go.Proofs.YtkfidolbbnmjfaaDoor
