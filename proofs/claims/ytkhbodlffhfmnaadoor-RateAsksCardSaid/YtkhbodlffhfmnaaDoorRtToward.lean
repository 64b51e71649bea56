/-
  Contracts of package rate's Toward, and of the document's own, at every number.
-/
import Derived.Deep.CutBlock
import Derived.Deep.DeepCutAuto
import Derived.Test.YtkhbodlffhfmnaaDoorRate
namespace Go.Proofs.YtkhbodlffhfmnaaDoor
open Go.RowKit Go.Proofs.ProbMath Go.Proofs.RtMath

set_option maxRecDepth 100000 in
set_option maxHeartbeats 1000000 in
theorem toward_no (a b n : Nat) (w : World) (h : 72057594037927936 ≤ a ∨ 72057594037927936 ≤ b ∨ n = 0) : Calls Tryd.prog 9 #[.int .u64 (a : Int), .int .u64 (b : Int), .int .u64 (n : Int)] w fun e w' => e = .returned (.tuple #[.int .u64 0, .int .u16 1]) ∧ w = w' := by
  by_cases h1 : 72057594037927936 ≤ a
  · have d1 : decide ((72057594037927936 : Int) ≤ (a : Int)) = true := by simp; omega
    clear h
    go_enter Tryd.func9, Tryd.ntmps9
    go_wp2_with fail
    go_ret2
    exact ⟨rfl, rfl⟩
  have d1 : decide ((72057594037927936 : Int) ≤ (a : Int)) = false := by simp; omega
  by_cases h2 : 72057594037927936 ≤ b
  · have d2 : decide ((72057594037927936 : Int) ≤ (b : Int)) = true := by simp; omega
    clear h
    go_enter Tryd.func9, Tryd.ntmps9
    go_wp2_with fail
    go_ret2
    exact ⟨rfl, rfl⟩
  have d2 : decide ((72057594037927936 : Int) ≤ (b : Int)) = false := by simp; omega
  obtain rfl : n = 0 := by omega
  clear h
  go_enter Tryd.func9, Tryd.ntmps9
  go_wp2_with fail
  go_ret2
  exact ⟨rfl, rfl⟩

set_option maxRecDepth 100000 in
set_option maxHeartbeats 1000000 in
theorem toward_any (a b n : Nat) (w : World) (ha : a < 72057594037927936) (hb : b < 72057594037927936) (h1 : 1 ≤ n) (hn : n < 18446744073709551616) : Calls Tryd.prog 9 #[.int .u64 (a : Int), .int .u64 (b : Int), .int .u64 (n : Int)] w fun e w' => e = .returned (.tuple #[.int .u64 (toward a b n : Int), .int .u16 0]) ∧ w = w' := by
  have d1 : decide ((72057594037927936 : Int) ≤ (a : Int)) = false := by simp; omega
  have d2 : decide ((72057594037927936 : Int) ≤ (b : Int)) = false := by simp; omega
  have d3 : ((n : Int) == 0) = false := by simp; omega
  have hK := fun W => kept_any a W
  have hL := fun W => kept_any b W
  have k1 := kept_pos ha
  have k2 := kept_le a
  have l2 := kept_le b
  have hroom := room (k := kept a) (n := n) k1
  have hle := toward_le a b n
  have hto : toward a b n = 72057594037927936 - mid (kept b) (lst (kept a) n) (most (kept a) n) := rfl
  obtain ⟨k, hk⟩ : ∃ k, kept a = k := ⟨_, rfl⟩
  obtain ⟨l, hl⟩ : ∃ l, kept b = l := ⟨_, rfl⟩
  rw [hk] at hK k1 k2 hroom hto
  rw [hl] at hL l2 hto
  have hC := fun W => clamp_any l (lst k n) (most k n) W
  have hml : mid l (lst k n) (most k n) ≤ 72057594037927936 := Nat.le_trans mid_le (most_le _ _)
  obtain ⟨y, hy⟩ : ∃ y, mid l (lst k n) (most k n) = y := ⟨_, rfl⟩
  rw [hy] at hC hml hto
  obtain ⟨x, hx⟩ : ∃ x, toward a b n = x := ⟨_, rfl⟩
  rw [hx] at hto hle ⊢
  have es : (72057594037927936 : Int) - (y : Int) = (x : Int) := by omega
  have d4 : ((k : Int) == 0) = false := by simp; omega
  obtain ⟨q, hq, hq'⟩ : ∃ q : Nat, (72057594037927936 : Int) / (k : Int) = (q : Int) ∧ 72057594037927936 / k = q := ⟨72057594037927936 / k, by simp, rfl⟩
  have hql : q ≤ 72057594037927936 := hq' ▸ Nat.div_le_self _ _
  rw [hq'] at hroom
  obtain ⟨z, hz, hz'⟩ : ∃ z : Nat, (k : Int) / (n : Int) = (z : Int) ∧ k / n = z := ⟨k / n, by simp, rfl⟩
  have hzl : z ≤ 72057594037927936 := by have := Nat.div_le_self k n; omega
  have hlst : lst k n = max z 1 := by rw [← hz']; rfl
  obtain ⟨u, hu, hul⟩ : ∃ u : Nat, max (z : Int) 1 = (u : Int) ∧ lst k n = u := ⟨max z 1, by omega, hlst⟩
  rw [hul] at hC
  have hul2 : u ≤ 72057594037927936 := by omega
  have HK := Lib.hid hK
  have HL := Lib.hid hL
  clear hK hL hlst hul hz' hq' hx hy hk hl hto
  by_cases hr : n ≤ q
  · have d5 : decide ((n : Int) ≤ (q : Int)) = true := by simp; omega
    have d5' : decide (n ≤ q) = true := by simp; omega
    have hm : most k n = k * n := if_pos (hroom.1 hr)
    have hp := hroom.1 hr
    obtain ⟨p, hp1, hp2⟩ : ∃ p : Nat, (k : Int) * (n : Int) = (p : Int) ∧ k * n = p := ⟨k * n, by simp, rfl⟩
    rw [hp2] at hp hm
    rw [hm] at hC
    have hw : IntKind.u64.wrap (p : Int) = (p : Int) := by rw [IntKind.wrap_u64]; omega
    have HC := Lib.hid hC
    clear hroom hr hp2 hm hC
    go_enter Tryd.func9, Tryd.ntmps9
    go_wp2_with fail
    refine (HK.out _).mono ?_
    rintro e w1 ⟨rfl, rfl⟩
    go_wp2_with fail
    refine (HL.out _).mono ?_
    rintro e w1 ⟨rfl, rfl⟩
    go_wp2_with fail
    refine (HC.out _).mono ?_
    rintro e w1 ⟨rfl, rfl⟩
    go_wp2_with fail
    go_ret2
    exact ⟨rfl, rfl⟩
  · have d5 : decide ((n : Int) ≤ (q : Int)) = false := by simp; omega
    have d5' : decide (n ≤ q) = false := by simp; omega
    have hm : most k n = 72057594037927936 := if_neg (fun h => hr (hroom.2 h))
    rw [hm] at hC
    have HC := Lib.hid hC
    clear hroom hr hm hC
    go_enter Tryd.func9, Tryd.ntmps9
    go_wp2_with fail
    refine (HK.out _).mono ?_
    rintro e w1 ⟨rfl, rfl⟩
    go_wp2_with fail
    refine (HL.out _).mono ?_
    rintro e w1 ⟨rfl, rfl⟩
    go_wp2_with fail
    refine (HC.out _).mono ?_
    rintro e w1 ⟨rfl, rfl⟩
    go_wp2_with fail
    go_ret2
    exact ⟨rfl, rfl⟩

set_option maxRecDepth 100000 in
set_option maxHeartbeats 1000000 in
theorem refToward_no (a b n : Nat) (w : World) (h : 72057594037927936 ≤ a ∨ 72057594037927936 ≤ b ∨ n = 0) : Calls Tryd.prog 10 #[.int .u64 (a : Int), .int .u64 (b : Int), .int .u64 (n : Int)] w fun e w' => e = .returned (.tuple #[.int .u64 0, .int .i64 1]) ∧ w = w' := by
  by_cases h1 : 72057594037927936 ≤ a
  · have d1 : decide ((72057594037927936 : Int) ≤ (a : Int)) = true := by simp; omega
    clear h
    go_enter Tryd.func10, Tryd.ntmps10
    go_wp2_with fail
    go_ret2
    exact ⟨rfl, rfl⟩
  have d1 : decide ((72057594037927936 : Int) ≤ (a : Int)) = false := by simp; omega
  by_cases h2 : 72057594037927936 ≤ b
  · have d2 : decide ((72057594037927936 : Int) ≤ (b : Int)) = true := by simp; omega
    clear h
    go_enter Tryd.func10, Tryd.ntmps10
    go_wp2_with fail
    go_ret2
    exact ⟨rfl, rfl⟩
  have d2 : decide ((72057594037927936 : Int) ≤ (b : Int)) = false := by simp; omega
  obtain rfl : n = 0 := by omega
  clear h
  go_enter Tryd.func10, Tryd.ntmps10
  go_wp2_with fail
  go_ret2
  exact ⟨rfl, rfl⟩

set_option maxRecDepth 100000 in
set_option maxHeartbeats 1000000 in
theorem refToward_any (a b n : Nat) (w : World) (ha : a < 72057594037927936) (hb : b < 72057594037927936) (h1 : 1 ≤ n) (hn : n < 18446744073709551616) : Calls Tryd.prog 10 #[.int .u64 (a : Int), .int .u64 (b : Int), .int .u64 (n : Int)] w fun e w' => e = .returned (.tuple #[.int .u64 (toward a b n : Int), .int .i64 0]) ∧ w = w' := by
  have d1 : decide ((72057594037927936 : Int) ≤ (a : Int)) = false := by simp; omega
  have d2 : decide ((72057594037927936 : Int) ≤ (b : Int)) = false := by simp; omega
  have d3 : ((n : Int) == 0) = false := by simp; omega
  have hK := fun W => refKept_any a W
  have hL := fun W => refKept_any b W
  have k1 := kept_pos ha
  have k2 := kept_le a
  have l2 := kept_le b
  have hroom := room' (k := kept a) (n := n) h1
  have hle := toward_le a b n
  have hto : toward a b n = 72057594037927936 - mid (kept b) (lst (kept a) n) (most (kept a) n) := rfl
  obtain ⟨k, hk⟩ : ∃ k, kept a = k := ⟨_, rfl⟩
  obtain ⟨l, hl⟩ : ∃ l, kept b = l := ⟨_, rfl⟩
  rw [hk] at hK k1 k2 hroom hto
  rw [hl] at hL l2 hto
  have hml : mid l (lst k n) (most k n) ≤ 72057594037927936 := Nat.le_trans mid_le (most_le _ _)
  have hmd : mid l (lst k n) (most k n) = min (max l (lst k n)) (most k n) := rfl
  obtain ⟨y, hy⟩ : ∃ y, mid l (lst k n) (most k n) = y := ⟨_, rfl⟩
  rw [hy] at hml hto hmd
  obtain ⟨x, hx⟩ : ∃ x, toward a b n = x := ⟨_, rfl⟩
  rw [hx] at hto hle ⊢
  have es : (72057594037927936 : Int) - (y : Int) = (x : Int) := by omega
  obtain ⟨q, hq, hq'⟩ : ∃ q : Nat, (72057594037927936 : Int) / (n : Int) = (q : Int) ∧ 72057594037927936 / n = q := ⟨72057594037927936 / n, by simp, rfl⟩
  have hql : q ≤ 72057594037927936 := hq' ▸ Nat.div_le_self _ _
  rw [hq'] at hroom
  obtain ⟨z, hz, hz'⟩ : ∃ z : Nat, (k : Int) / (n : Int) = (z : Int) ∧ k / n = z := ⟨k / n, by simp, rfl⟩
  have hzl : z ≤ 72057594037927936 := by have := Nat.div_le_self k n; omega
  have hlst : lst k n = max z 1 := by rw [← hz']; rfl
  obtain ⟨m, hm, hmost, hmp⟩ : ∃ m : Nat, most k n = m ∧ m ≤ 72057594037927936 ∧ (k ≤ q → (k : Int) * (n : Int) = (m : Int)) := ⟨most k n, rfl, most_le _ _, fun h => by
    have : most k n = k * n := if_pos (hroom.1 h)
    rw [this]; simp⟩
  have hmn : ¬ k ≤ q → m = 72057594037927936 := fun h => hm ▸ if_neg (fun h' => h (hroom.2 h'))
  have hmw : IntKind.u64.wrap (m : Int) = (m : Int) := by rw [IntKind.wrap_u64]; omega
  rw [hm, hlst] at hmd
  have HK := Lib.hid hK
  have HL := Lib.hid hL
  have HM := Lib.hid hmp
  have HN := Lib.hid hmn
  have HD := Lib.hid hmd
  clear hK hL hlst hz' hq' hx hy hk hl hto hroom hm hmp hmn hmd
  go_enter Tryd.func10, Tryd.ntmps10
  go_wp2_with fail
  refine (HK.out _).mono ?_
  rintro e w1 ⟨rfl, rfl⟩
  obtain ⟨b1, b1i, b1n⟩ : ∃ b1, decide ((k : Int) ≤ (q : Int)) = b1 ∧ decide (k ≤ q) = b1 := ⟨decide (k ≤ q), by simp, rfl⟩
  go_upto_if 27 with fail
  go_cut [9] (fun s9 wx => s9 = .int .u64 (m : Int) ∧ w = wx)
  case first =>
    by_cases hr : k ≤ q
    · obtain rfl : b1 = true := by rw [← b1n]; simp; omega
      have hp := HM.out hr
      clear hr
      go_wp2_with fail
      go_meet
      exact ⟨rfl, rfl⟩
    · obtain rfl : b1 = false := by rw [← b1n]; simp; omega
      have hp := HN.out hr
      subst hp
      clear hr
      go_wp2_with fail
      go_meet
      exact ⟨rfl, rfl⟩
  case rest =>
    obtain ⟨rfl, rfl⟩ := hcut
    obtain ⟨u, hu, hu0⟩ : ∃ u : Nat, u = max z 1 ∧ u ≤ 72057594037927936 := ⟨max z 1, rfl, by omega⟩
    have HD2 := Lib.hid (show y = min (max l u) m by rw [hu]; exact HD.out)
    have HU := Lib.hid hu
    clear hu HD
    obtain ⟨b2, b2i⟩ : ∃ b2, ((z : Int) == 0) = b2 := ⟨_, rfl⟩
    go_upto_if 35 with fail
    go_cut [10] (fun s10 wx => s10 = .int .u64 (u : Int) ∧ w = wx)
    case first =>
      by_cases h0 : z = 0
      · obtain rfl : b2 = true := by rw [← b2i]; simp; omega
        obtain rfl : u = 1 := by have := HU.out; omega
        clear h0
        go_wp2_with fail
        go_meet
        exact ⟨rfl, rfl⟩
      · obtain rfl : b2 = false := by rw [← b2i]; simp; omega
        obtain rfl : u = z := by have := HU.out; omega
        clear h0
        go_wp2_with fail
        go_meet
        exact ⟨rfl, rfl⟩
    case rest =>
      obtain ⟨rfl, rfl⟩ := hcut
      go_wp2_with fail
      refine (HL.out _).mono ?_
      rintro e w1 ⟨rfl, rfl⟩
      obtain ⟨v, hv, hvl⟩ : ∃ v : Nat, v = max l u ∧ v ≤ 72057594037927936 := ⟨max l u, rfl, by omega⟩
      have HV := Lib.hid hv
      have HY := Lib.hid (show y = min v m by rw [hv]; exact HD2.out)
      clear hv HD2
      obtain ⟨b3, b3i, b3n⟩ : ∃ b3, decide ((l : Int) < (u : Int)) = b3 ∧ decide (l < u) = b3 := ⟨decide (l < u), by simp, rfl⟩
      go_upto_if 40 with fail
      go_cut [11] (fun s11 wx => s11 = .int .u64 (v : Int) ∧ w = wx)
      case first =>
        by_cases h0 : l < u
        · obtain rfl : b3 = true := by rw [← b3n]; simp; omega
          obtain rfl : v = u := by have := HV.out; omega
          clear h0
          go_wp2_with fail
          go_meet
          exact ⟨rfl, rfl⟩
        · obtain rfl : b3 = false := by rw [← b3n]; simp; omega
          obtain rfl : v = l := by have := HV.out; omega
          clear h0
          go_wp2_with fail
          go_meet
          exact ⟨rfl, rfl⟩
      case rest =>
        obtain ⟨rfl, rfl⟩ := hcut
        by_cases h0 : m < v
        · have e0 : decide ((m : Int) < (v : Int)) = true := by simp; omega
          have e0' : decide (m < v) = true := by simp; omega
          obtain rfl : y = m := by have := HY.out; omega
          clear h0
          go_wp2_with fail
          go_ret2
          exact ⟨rfl, rfl⟩
        · have e0 : decide ((m : Int) < (v : Int)) = false := by simp; omega
          have e0' : decide (m < v) = false := by simp; omega
          obtain rfl : y = v := by have := HY.out; omega
          clear h0
          go_wp2_with fail
          go_ret2
          exact ⟨rfl, rfl⟩
end Go.Proofs.YtkhbodlffhfmnaaDoor
