/-
  The document's own answers of layer 3 (telemeterref03): names, and which logs and spans may be, at every input.
-/
import Derived.BigQuiet
import Derived.Deep.QuietTactic
import Derived.Test.YtklgggolkclebaaItemRef1
namespace Go.Proofs.Ytklgggolkclebaa
open Go.RowKit Go.Proofs.NumMath Go.Proofs.ItemMath

theorem str_at (s : ByteArray) (cs : List UInt8) (h : s.data.toList = cs) (i : Nat) (hi : i < s.size) : s[i] = cs.getD i 0 := by
  rw [← h, List.getD_eq_getElem?_getD, List.getElem?_eq_getElem (by rw [size_list]; exact hi)]; rfl

set_option maxRecDepth 100000 in
set_option maxHeartbeats 1000000 in
theorem refName_any (s : ByteArray) (w : World) (hs : s.size ≤ 9223372036854775807) (r : Bool) (hr : isName s = r) : Calls Try.prog 42 #[.string s] w fun e w' => e = .returned (.bool r) ∧ w' = w := by
  obtain ⟨cs, hcs⟩ : ∃ cs, s.data.toList = cs := ⟨_, rfl⟩
  have hl : cs.length = s.size := by rw [← hcs]; simp
  have hat := str_at s cs hcs
  have hno : ∀ c ∈ cs, c.toNat < 33 ∨ 126 < c.toNat → r = false := fun c hc hx => by
    rw [← hr]; unfold isName; rw [hcs, List.all_eq_false.2 ⟨c, hc, by simp; omega⟩, Bool.and_false]
  have hyes : (∀ c ∈ cs, 33 ≤ c.toNat ∧ c.toNat ≤ 126) → r = decide (0 < s.size ∧ s.size ≤ 60) := fun h => by
    rw [← hr]; unfold isName; rw [hcs, List.all_eq_true.2 (fun c hc => decide_eq_true (h c hc))]; simp
  have HNO := Lib.hid hno
  have HYES := Lib.hid hyes
  have HL := Lib.hid hl
  have HA := Lib.hid hat
  obtain ⟨n, hn⟩ : ∃ n, s.size = n := ⟨_, rfl⟩
  rw [hn] at hs HYES HL
  clear hno hyes hcs hl hat hr
  go_enter Try.func42, Try.ntmps42
  go_wp2_with fail
  go_loop [3] (fun i => ∃ k : Nat, k ≤ n ∧ i = .int .i64 (k : Int) ∧ Hid (∀ c ∈ cs.take k, 33 ≤ c.toNat ∧ c.toNat ≤ 126)) (fun i => n - (intOf i).toNat)
  case atStart => exact ⟨0, by omega, rfl, by intro c hc; simp at hc⟩
  case round =>
    obtain ⟨k, hk, rfl, hall⟩ := hrel
    by_cases hlt : k < n
    · have dl : decide ((k : Int) < (n : Int)) = true := by simp; omega
      have dl' : decide (k < n) = true := by simp; omega
      obtain ⟨c, hcq⟩ : ∃ c, cs.getD k 0 = c := ⟨_, rfl⟩
      have hx := HA.out k (by omega)
      rw [hcq] at hx
      have hcc : ∀ hh : k < s.size, s[k]'hh = c := fun _ => hx
      have hc0 := c.toNat_lt
      have hkl : k < cs.length := by rw [HL.out]; exact hlt
      have hsn : cs.take (k + 1) = cs.take k ++ [c] := by
        rw [List.take_succ_eq_append_getElem hkl, ← hcq]
        simp [List.getD_eq_getElem?_getD, hkl]
      have hin : c ∈ cs := by rw [← hcq]; simp [List.getD_eq_getElem?_getD, hkl]
      have HS := Lib.hid hsn
      have HI := Lib.hid hin
      clear hsn hin hx hcq
      by_cases hlo : c.toNat < 33
      · have d1 : decide ((c.toNat : Int) < 33) = true := by simp; omega
        obtain rfl := HNO.out c HI.out (by omega)
        go_wp2_with fail
        go_ret
        exact ⟨rfl, rfl⟩
      have d1 : decide ((c.toNat : Int) < 33) = false := by simp; omega
      by_cases hhi : 126 < c.toNat
      · have d2 : decide ((126 : Int) < (c.toNat : Int)) = true := by simp; omega
        obtain rfl := HNO.out c HI.out (by omega)
        go_wp2_with fail
        go_ret
        exact ⟨rfl, rfl⟩
      have d2 : decide ((126 : Int) < (c.toNat : Int)) = false := by simp; omega
      go_wp2_with fail
      go_round
      case rel => exact ⟨k + 1, by omega, by go_num, fun x hx2 => by rw [HS.out] at hx2; rcases List.mem_append.1 hx2 with h | h; exact hall.out x h; obtain rfl := List.mem_singleton.1 h; omega⟩
      case measure => simp [intOf]; omega
    · have dl : decide ((k : Int) < (n : Int)) = false := by simp; omega
      have dl' : decide (k < n) = false := by simp; omega
      obtain rfl : n = k := by omega
      have hres := HYES.out (fun c hc => hall.out c (by rw [show cs.take n = cs by rw [← HL.out]; simp]; exact hc))
      by_cases h0 : 0 < n
      · have d1 : decide ((0 : Int) < (n : Int)) = true := by simp; omega
        have hres2 : r = decide (n ≤ 60) := by rw [hres]; exact decide_eq_decide.2 ⟨fun h => h.2, fun h => ⟨h0, h⟩⟩
        have HR := Lib.hid hres2
        clear hres hres2
        go_wp2_with fail
        all_goals
          go_ret
          exact ⟨ret_b (by rw [HR.out]; first | rfl | (symm; simp; omega) | (simp; omega)), rfl⟩
      · have d1 : decide ((0 : Int) < (n : Int)) = false := by simp; omega
        have d1' : decide (0 < n) = false := by simp; omega
        obtain rfl : r = false := by rw [hres]; exact decide_eq_false (by omega)
        clear h0 hres
        go_wp2_with fail
        go_ret
        exact ⟨rfl, rfl⟩

set_option maxRecDepth 100000 in
set_option maxHeartbeats 2000000 in
/-- **telemeterref03.RightLog.** -/
theorem refRightLog_any (key body : ByteArray) (weight : Nat) (at_ : Int) (w : World) (r : Bool) (hkey : key.size ≤ 9223372036854775807) (hbody : body.size ≤ 9223372036854775807) (hres : rightLog ⟨key, weight, at_, body⟩ = r) :
    Calls Try.prog 26 #[.agg (lgCells key weight at_ body)] w fun e w' => e = .returned (.bool r) ∧ Below w.heap.size w w' := by
  unfold rightLog at hres
  dsimp only at hres
  unfold lgCells
  have hB : Below w.heap.size w (w.alloc (.cells #[.string key, .int .u64 (weight : Int), .int .i64 at_, .string body] 29)) := (Below.refl _ _).alloc (Nat.le_refl _) _
  obtain ⟨b, hb⟩ : ∃ b, isName key = b := ⟨_, rfl⟩
  have hN := fun W => refName_any key W hkey b hb
  rw [hb] at hres
  have HN := Lib.hid hN
  clear hN hb
  cases b with
  | false =>
    obtain rfl : false = r := by rw [← hres]; simp
    clear hres
    go_enter Try.func26, Try.ntmps26
    go_wp2_with fail
    refine (HN.out _).mono ?_
    rintro e wz ⟨rfl, rfl⟩
    go_wp2_with fail
    go_ret
    exact ⟨rfl, hB⟩
  | true =>
    by_cases h1 : 1 ≤ weight
    · have d1 : decide ((1 : Int) ≤ (weight : Int)) = true := by simp; omega
      by_cases h2 : weight ≤ 4294967296
      · have d2 : decide ((weight : Int) ≤ 4294967296) = true := by simp; omega
        obtain ⟨t, ht⟩ : ∃ t, (decide (0 ≤ at_) && decide (at_ ≤ 1099511627776)) = t := ⟨_, rfl⟩
        have hT := fun W => refTime_any at_ W t ht
        have HT := Lib.hid hT
        rw [decide_eq_true h1, decide_eq_true h2] at hres
        simp only [Bool.true_and] at hres
        rw [ht] at hres
        clear hT ht
        cases t with
        | false =>
          obtain rfl : false = r := by rw [← hres]; simp
          clear hres
          go_enter Try.func26, Try.ntmps26
          go_wp2_with fail
          refine (HN.out _).mono ?_
          rintro e wz ⟨rfl, rfl⟩
          go_wp2_with fail
          refine (HT.out _).mono ?_
          rintro e wz ⟨rfl, rfl⟩
          go_wp2_with fail
          go_ret
          exact ⟨rfl, hB⟩
        | true =>
          rw [Bool.true_and] at hres
          have HR := Lib.hid hres
          clear hres
          go_enter Try.func26, Try.ntmps26
          go_wp2_with fail
          refine (HN.out _).mono ?_
          rintro e wz ⟨rfl, rfl⟩
          go_wp2_with fail
          refine (HT.out _).mono ?_
          rintro e wz ⟨rfl, rfl⟩
          go_wp2_with fail
          all_goals
            go_ret
            exact ⟨ret_b (by rw [← HR.out]; first | rfl | (symm; simp; omega) | (simp; omega)), hB⟩
      · have d2 : decide ((weight : Int) ≤ 4294967296) = false := by simp; omega
        obtain rfl : false = r := by rw [← hres, decide_eq_false h2]; simp
        clear hres
        go_enter Try.func26, Try.ntmps26
        go_wp2_with fail
        refine (HN.out _).mono ?_
        rintro e wz ⟨rfl, rfl⟩
        go_wp2_with fail
        go_ret
        exact ⟨rfl, hB⟩
    · have d1 : decide ((1 : Int) ≤ (weight : Int)) = false := by simp; omega
      obtain rfl : false = r := by rw [← hres, decide_eq_false h1]; simp
      clear hres
      go_enter Try.func26, Try.ntmps26
      go_wp2_with fail
      refine (HN.out _).mono ?_
      rintro e wz ⟨rfl, rfl⟩
      go_wp2_with fail
      go_ret
      exact ⟨rfl, hB⟩

end Go.Proofs.Ytklgggolkclebaa
