/-
  What ctx.isKey, isValue and isLong say, whatever the text.
-/
import Derived.Test.YtkfidolbbnmjfaaDoorCtxNum
import Derived.Test.YtkfidolbbnmjfaaDoorCtxState
namespace Go.Proofs.YtkfidolbbnmjfaaDoor
open Go.RowKit Go.Proofs.CtxState

theorem index_keys : ∀ c : Fin 256, (Lib.indexByte keySigns (UInt8.ofNat c.val) < 0) = (keySign (UInt8.ofNat c.val) = false) := by decide +kernel
theorem index_key (c : UInt8) (w : World) : Calls Tryd.prog 61 #[.string ⟨#[97, 98, 99, 100, 101, 102, 103, 104, 105, 106, 107, 108, 109, 110, 111, 112, 113, 114, 115, 116, 117, 118, 119, 120, 121, 122, 48, 49, 50, 51, 52, 53, 54, 55, 56, 57, 95, 45, 42, 47, 64]⟩, .int .u8 (c.toNat : Int)] w fun e w' => (∃ r : Int, e = .returned (.int .i64 r) ∧ (r < 0) = (keySign c = false)) ∧ w = w' :=
  (Tryd.strings_IndexByte _ _ w).mono fun _ _ ⟨he, hw⟩ => ⟨⟨_, he, by
    have := index_keys ⟨c.toNat, c.toNat_lt⟩
    have e1 : UInt8.ofNat c.toNat = c := by simp
    simp only [e1] at this
    rw [Int.toNat_natCast, show c.toNat.toUInt8 = c by simp]
    exact this⟩, hw.symm⟩
theorem all_no {cs : List UInt8} {k : Nat} {c : UInt8} {p : UInt8 → Bool} (hk : k < cs.length) (hc : cs.getD k 0 = c) (h : p c = false) : (cs.drop k).all p = false := by
  rw [List.drop_eq_getElem_cons hk]
  have : cs[k] = c := by rw [← hc]; simp [hk]
  simp [this, h]
theorem all_yes {cs : List UInt8} {k : Nat} {c : UInt8} {p : UInt8 → Bool} (hk : k < cs.length) (hc : cs.getD k 0 = c) (h : p c = true) : (cs.drop k).all p = (cs.drop (k + 1)).all p := by
  rw [List.drop_eq_getElem_cons hk]
  have : cs[k] = c := by rw [← hc]; simp [hk]
  simp [this, h]
theorem rightKey_0 {cs : List UInt8} (h : cs.length = 0) : rightKey cs = false := by
  have : cs = [] := List.eq_nil_of_length_eq_zero h
  subst this; rfl
theorem rightKey_long {cs : List UInt8} (h : ¬ cs.length ≤ 60) : rightKey cs = false := by simp [rightKey, h]
theorem rightKey_all {cs : List UInt8} (h0 : cs.length ≠ 0) (h : cs.length ≤ 60) : rightKey cs = cs.all keySign := by
  have : cs.isEmpty = false := by cases cs; exact absurd rfl h0; rfl
  simp [rightKey, h, this]

set_option maxRecDepth 100000 in
set_option maxHeartbeats 2000000 in
theorem isKey_any (s : ByteArray) (w : World) (hs : s.size ≤ 9223372036854775807) : Calls Tryd.prog 48 #[.string s] w fun e w' => e = .returned (.bool (rightKey s.data.toList)) ∧ Below w.heap.size w w' := by
  obtain ⟨cap, w1, hcv, hB, hcell, _⟩ := text_bytes s w
  obtain ⟨cs, hcs⟩ : ∃ cs, s.data.toList = cs := ⟨_, rfl⟩
  have hl : cs.length = s.size := by rw [← hcs]; simp
  rw [hcs] at hcell ⊢
  obtain ⟨P, hP⟩ : ∃ P, rightKey cs = P := ⟨_, rfl⟩
  rw [hP]
  obtain ⟨n, hn⟩ : ∃ n, s.size = n := ⟨_, rfl⟩
  by_cases h0 : n = 0
  · have d0 := empty_of (hn.trans h0)
    have hpf : P = false := by rw [← hP, rightKey_0 (by omega)]
    subst hpf
    clear hP hcs hcell hl hcv
    go_enter Tryd.func48, Tryd.ntmps48
    go_wp2_with fail
    go_ret
    exact ⟨rfl, Below.refl _ _⟩
  · have d0 := full_of (fun e => h0 (hn.symm.trans e))
    by_cases h1 : n ≤ 60
    · have d1 : decide (60 < n) = false := by simp; omega
      have hP2 : cs.all keySign = P := by rw [← hP, rightKey_all (by omega) (by omega)]
      rw [hn] at hl hcv hcell hs
      have HP := Lib.hid hP2
      have HL := Lib.hid hl
      have HC := Lib.hid hcell
      clear hcs hl hcell hP hP2 h0
      go_enter Tryd.func48, Tryd.ntmps48
      go_wp2_with fail
      go_loopw [15] (fun b wr => ∃ k : Nat, k ≤ n ∧ b = .int .i64 (k : Int) ∧ Hid ((cs.drop k).all keySign = P) ∧ wr = w1) (fun b _ => n - (intOf b).toNat)
      case atStart => exact ⟨0, by omega, rfl, HP, rfl⟩
      case round =>
        obtain ⟨k, hk, rfl, hR, rfl⟩ := hrel
        by_cases hlt : k < n
        · have dl : decide ((k : Int) < (n : Int)) = true := by simp; omega
          have dl' : decide (k < n) = true := by simp; omega
          have hcell := HC.out k hlt
          obtain ⟨c, hc⟩ : ∃ c, cs.getD k 0 = c := ⟨_, rfl⟩
          rw [hc] at hcell
          have hc0 := c.toNat_lt
          unfold b8 at hcell
          have hkl : k < cs.length := by rw [HL.out]; exact hlt
          cases hu : keySign c with
          | false =>
            have hpf : P = false := by rw [← hR.out, all_no hkl hc hu]
            subst hpf
            have HI := Lib.hid (fun W => index_key c W)
            rw [hu] at HI
            clear hR HP hu hc hkl
            generalize c.toNat = cn at *
            go_wp2_with fail
            refine (HI.out _).mono ?_
            rintro e w' ⟨⟨r, rfl, hr⟩, rfl⟩
            have hr2 : r < 0 := by rw [hr]; trivial
            have dr : decide (r < 0) = true := by simp [hr2]
            clear hr
            go_wp2_with fail
            go_ret
            exact ⟨rfl, hB⟩
          | true =>
            have hR2 : Hid ((cs.drop (k + 1)).all keySign = P) := Lib.hid (by rw [← hR.out, all_yes hkl hc hu])
            have HI := Lib.hid (fun W => index_key c W)
            rw [hu] at HI
            clear hR HP hu hc hkl
            generalize c.toNat = cn at *
            go_wp2_with fail
            refine (HI.out _).mono ?_
            rintro e w' ⟨⟨r, rfl, hr⟩, rfl⟩
            have hr2 : ¬ r < 0 := by rw [hr]; simp
            have dr : decide (r < 0) = false := by simp [hr2]
            clear hr
            go_wp2_with fail
            go_roundw
            case rel => exact ⟨k + 1, by omega, by go_num, hR2, by trivial⟩
            case measure => simp [intOf]; omega
        · have dl : decide ((k : Int) < (n : Int)) = false := by simp; omega
          have dl' : decide (k < n) = false := by simp; omega
          obtain rfl : k = n := by omega
          have hpn : P = true := by rw [← hR.out, List.drop_of_length_le (by rw [HL.out]; omega)]; rfl
          subst hpn
          clear hR HP
          go_wp2_with fail
          go_ret
          exact ⟨rfl, hB⟩
    · have d1 : decide (60 < n) = true := by simp; omega
      have hpf : P = false := by rw [← hP, rightKey_long (by omega)]
      subst hpf
      clear hP hcs hcell hl hcv h0
      go_enter Tryd.func48, Tryd.ntmps48
      go_wp2_with fail
      go_ret
      exact ⟨rfl, Below.refl _ _⟩

theorem valSign_lo {c : UInt8} (h : c.toNat < 33) : valSign c = false := by unfold valSign; simp; omega
theorem valSign_hi {c : UInt8} (h : 126 < c.toNat) : valSign c = false := by unfold valSign; simp; omega
theorem valSign_in {c : UInt8} (h : ¬ c.toNat < 33) (h2 : ¬ 126 < c.toNat) : valSign c = true := by unfold valSign; simp; omega
theorem rightVal_0 {cs : List UInt8} (h : cs.length = 0) : rightVal cs = false := by
  have : cs = [] := List.eq_nil_of_length_eq_zero h
  subst this; rfl
theorem rightVal_long {cs : List UInt8} (h : ¬ cs.length ≤ 200) : rightVal cs = false := by simp [rightVal, h]
theorem index_has (l : List UInt8) (c : UInt8) : decide (0 ≤ Lib.indexByte l c) = l.contains c := by
  induction l with
  | nil => rfl
  | cons b l ih =>
    unfold Lib.indexByte
    have hg := Lib.indexByte_ge l c
    by_cases hb : (b == c) = true
    · rw [if_pos hb]
      have e : b = c := by simpa using hb
      subst e
      simp
    · rw [if_neg hb]
      have hcb : (c == b) = false := by
        have : b ≠ c := by simpa using hb
        simp [Ne.symm this]
      rw [List.contains_cons, hcb, Bool.false_or, ← ih]
      by_cases hm : (Lib.indexByte l c == -1) = true
      · rw [if_pos hm]
        have : Lib.indexByte l c = -1 := by simpa using hm
        simp [this]
      · rw [if_neg hm]
        have : Lib.indexByte l c ≠ -1 := by simpa using hm
        have h1 : 0 ≤ Lib.indexByte l c := by omega
        have h2 : 0 ≤ Lib.indexByte l c + 1 := by omega
        simp [h1, h2]
theorem rightVal_has {cs : List UInt8} (h : cs.contains 61 = true) : rightVal cs = false := by simp only [rightVal, h]; simp
theorem rightVal_all {cs : List UInt8} (h0 : cs.length ≠ 0) (h : cs.length ≤ 200) (hc : cs.contains 61 = false) : rightVal cs = cs.all valSign := by
  have : cs.isEmpty = false := by cases cs; exact absurd rfl h0; rfl
  simp only [rightVal, this, hc]; simp [h]

set_option maxRecDepth 100000 in
set_option maxHeartbeats 2000000 in
theorem isValue_any (s : ByteArray) (w : World) (hs : s.size ≤ 9223372036854775807) : Calls Tryd.prog 49 #[.string s] w fun e w' => e = .returned (.bool (rightVal s.data.toList)) ∧ Below w.heap.size w w' := by
  obtain ⟨cap, w1, hcv, hB, hcell, _⟩ := text_bytes s w
  obtain ⟨cs, hcs⟩ : ∃ cs, s.data.toList = cs := ⟨_, rfl⟩
  have hl : cs.length = s.size := by rw [← hcs]; simp
  rw [hcs] at hcell ⊢
  obtain ⟨P, hP⟩ : ∃ P, rightVal cs = P := ⟨_, rfl⟩
  rw [hP]
  obtain ⟨n, hn⟩ : ∃ n, s.size = n := ⟨_, rfl⟩
  by_cases h0 : n = 0
  · have d0 := empty_of (hn.trans h0)
    have hpf : P = false := by rw [← hP, rightVal_0 (by omega)]
    subst hpf
    clear hP hcs hcell hl hcv
    go_enter Tryd.func49, Tryd.ntmps49
    go_wp2_with fail
    go_ret
    exact ⟨rfl, Below.refl _ _⟩
  · have d0 := full_of (fun e => h0 (hn.symm.trans e))
    by_cases h1 : n ≤ 200
    · have d1 : decide (200 < n) = false := by simp; omega
      have hI := fun W => (Tryd.strings_Contains_one s 61 W).mono (R' := fun e w' => e = .returned (.bool (cs.contains 61)) ∧ W = w') fun _ _ ⟨he, hw⟩ => ⟨by rw [he, index_has, hcs], hw.symm⟩
      rw [hn] at hl hcv hcell hs
      cases hh : cs.contains 61 with
      | true =>
        rw [hh] at hI
        have hpf : P = false := by rw [← hP, rightVal_has hh]
        subst hpf
        clear hP hcs hcell hl hcv h0 hh
        go_enter Tryd.func49, Tryd.ntmps49
        go_wp2_with (refine (hI _).mono ?_; rintro e w' ⟨rfl, rfl⟩)
        go_ret
        exact ⟨rfl, Below.refl _ _⟩
      | false =>
      rw [hh] at hI
      have hP2 : cs.all valSign = P := by rw [← hP, rightVal_all (by omega) (by omega) hh]
      have HP := Lib.hid hP2
      have HL := Lib.hid hl
      have HC := Lib.hid hcell
      clear hcs hl hcell hP hP2 h0 hh
      go_enter Tryd.func49, Tryd.ntmps49
      go_wp2_with (refine (hI _).mono ?_; rintro e w' ⟨rfl, rfl⟩)
      go_loopw [19] (fun b wr => ∃ k : Nat, k ≤ n ∧ b = .int .i64 (k : Int) ∧ Hid ((cs.drop k).all valSign = P) ∧ wr = w1) (fun b _ => n - (intOf b).toNat)
      case atStart => exact ⟨0, by omega, rfl, HP, rfl⟩
      case round =>
        obtain ⟨k, hk, rfl, hR, rfl⟩ := hrel
        by_cases hlt : k < n
        · have dl : decide ((k : Int) < (n : Int)) = true := by simp; omega
          have dl' : decide (k < n) = true := by simp; omega
          have hcell := HC.out k hlt
          obtain ⟨c, hc⟩ : ∃ c, cs.getD k 0 = c := ⟨_, rfl⟩
          rw [hc] at hcell
          have hc0 := c.toNat_lt
          unfold b8 at hcell
          have hkl : k < cs.length := by rw [HL.out]; exact hlt
          by_cases hu1 : c.toNat < 33
          · have hpf : P = false := by rw [← hR.out, all_no hkl hc (valSign_lo hu1)]
            subst hpf
            have du : decide (c.toNat < 33) = true := by simp [hu1]
            clear hR HP hc hkl
            generalize c.toNat = cn at *
            go_wp2_with fail
            go_ret
            exact ⟨rfl, hB⟩
          · have du : decide (c.toNat < 33) = false := by simp [hu1]
            by_cases hu2 : 126 < c.toNat
            · have hpf : P = false := by rw [← hR.out, all_no hkl hc (valSign_hi hu2)]
              subst hpf
              have dv : decide (126 < c.toNat) = true := by simp [hu2]
              clear hR HP hc hkl
              generalize c.toNat = cn at *
              go_wp2_with fail
              go_ret
              exact ⟨rfl, hB⟩
            · have dv : decide (126 < c.toNat) = false := by simp [hu2]
              have hR2 : Hid ((cs.drop (k + 1)).all valSign = P) := Lib.hid (by rw [← hR.out, all_yes hkl hc (valSign_in hu1 hu2)])
              clear hR HP hc hkl
              generalize c.toNat = cn at *
              go_wp2_with fail
              go_roundw
              case rel => exact ⟨k + 1, by omega, by go_num, hR2, by trivial⟩
              case measure => simp [intOf]; omega
        · have dl : decide ((k : Int) < (n : Int)) = false := by simp; omega
          have dl' : decide (k < n) = false := by simp; omega
          obtain rfl : k = n := by omega
          have hpn : P = true := by rw [← hR.out, List.drop_of_length_le (by rw [HL.out]; omega)]; rfl
          subst hpn
          clear hR HP
          go_wp2_with fail
          go_ret
          exact ⟨rfl, hB⟩
    · have d1 : decide (200 < n) = true := by simp; omega
      have hpf : P = false := by rw [← hP, rightVal_long (by omega)]
      subst hpf
      clear hP hcs hcell hl hcv h0
      go_enter Tryd.func49, Tryd.ntmps49
      go_wp2_with fail
      go_ret
      exact ⟨rfl, Below.refl _ _⟩

set_option maxRecDepth 100000 in
set_option maxHeartbeats 2000000 in
theorem isLong_any (s : ByteArray) (w : World) : Calls Tryd.prog 26 #[.string s] w fun e w' => e = .returned (.bool (tooLong s.data.toList)) ∧ w = w' := by
  obtain ⟨n, hn⟩ : ∃ n, s.size = n := ⟨_, rfl⟩
  have hl : s.data.toList.length = n := by rw [← hn]; simp
  have hI := fun W => (Tryd.strings_Count_one s 44 W).mono (R' := fun e w' => e = .returned (.int .i64 (s.data.toList.count 44 : Nat)) ∧ W = w') fun _ _ ⟨he, hw⟩ => ⟨he, hw.symm⟩
  obtain ⟨m, hm⟩ : ∃ m, s.data.toList.count 44 = m := ⟨_, rfl⟩
  rw [hm] at hI
  have hP : tooLong s.data.toList = (decide (512 < n) || decide (32 ≤ m)) := by rw [tooLong, hl, hm]
  rw [hP]
  clear hP hl hm
  go_enter Tryd.func26, Tryd.ntmps26
  by_cases h1 : 512 < n
  · have d1 : decide (512 < n) = true := by simp; omega
    go_wp2_with fail
    go_ret
    exact ⟨rfl, rfl⟩
  · have d1 : decide (512 < n) = false := by simp; omega
    by_cases h2 : 32 ≤ m
    · have d2 : decide (32 ≤ m) = true := by simp; omega
      go_wp2_with (refine (hI _).mono ?_; rintro e w' ⟨rfl, rfl⟩)
      go_ret
      refine ⟨?_, rfl⟩
      have a1 : decide (512 < (n : Int)) = false := by simp; omega
      have a2 : decide (32 ≤ (m : Int)) = true := by simp; omega
      show Ending.returned (.bool (decide (512 < (n : Int)) || decide (32 ≤ (m : Int)))) = _
      rw [a1, a2, d1, d2]
    · have d2 : decide (32 ≤ m) = false := by simp; omega
      go_wp2_with (refine (hI _).mono ?_; rintro e w' ⟨rfl, rfl⟩)
      go_ret
      refine ⟨?_, rfl⟩
      have a1 : decide (512 < (n : Int)) = false := by simp; omega
      have a2 : decide (32 ≤ (m : Int)) = false := by simp; omega
      show Ending.returned (.bool (decide (512 < (n : Int)) || decide (32 ≤ (m : Int)))) = _
      rw [a1, a2, d1, d2]
end Go.Proofs.YtkfidolbbnmjfaaDoor
