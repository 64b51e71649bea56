/-
  What item.isName does, at every text. No condition.
-/
import Derived.Test.YtklgggolkclebaaNumBytes
import Derived.Test.YtklgggolkclebaaItemMath
namespace Go.Proofs.Ytklgggolkclebaa
open Go.RowKit Go.Proofs.NumMath Go.Proofs.ItemMath

theorem list_data (s : ByteArray) : s.toList = s.data.toList := ByteArray.toList_eq ..
theorem empty_of {s : ByteArray} (h : s.size = 0) : s.toList.isEmpty = true := by
  rw [list_data, List.isEmpty_iff_length_eq_zero]; simpa using h
theorem full_of {s : ByteArray} (h : s.size ≠ 0) : s.toList.isEmpty = false := by
  cases e : s.toList.isEmpty
  · rfl
  · rw [list_data, List.isEmpty_iff_length_eq_zero] at e
    exact absurd (by simpa using e) h
/-- '[]byte(s)'. -/
theorem text_bytes (s : ByteArray) (w : World) : ∃ cap w1, (convert 9 22 (.string s)).run Try.prog w = .ok (.slice (some ⟨w.heap.size, 0, none⟩) s.size cap) w1 ∧ Below w.heap.size w w1 ∧
    (∀ j, j < s.size → w1.cell? ⟨w.heap.size, j, none⟩ = some (b8 (s.data.toList.getD j 0))) ∧ Holds8 w1.heap.size w1 (some ⟨w.heap.size, 0, none⟩) s.data.toList := by
  have hcell : ∀ cap fr j, j < s.size → (w.drew.alloc (.cells (bytesRow s cap) 5 fr)).cell? ⟨w.heap.size, j, none⟩ = some (b8 (s.data.toList.getD j 0)) := fun cap fr j hj => by
    have h1 := World.cell?_alloc_mark w.drew (bytesRow s cap) 5 fr j
    have h2 : w.drew.heap.size = w.heap.size := rfl
    rw [h2] at h1
    have hj' : j < s.data.size := hj
    rw [h1, bytesRow_at s cap j hj']
    simp only [b8, List.getD_eq_getElem?_getD, Array.getElem?_toList, Array.getElem?_eq_getElem hj', Option.getD_some]
  refine ⟨_, _, run_bytes_of_string w 9 22 5 s Try.underlying9 Try.underlying22 Try.underlying5, undrewn ((Below.refl _ w.drew).alloc (Nat.le_refl _) _), fun j hj => hcell _ _ j hj, fun _ => ⟨w.heap.size, 0, rfl, ?_, fun j hj => ?_⟩⟩
  · have : w.drew.heap.size = w.heap.size := rfl
    rw [World.size_alloc, this]; omega
  · rw [Nat.zero_add]
    exact hcell _ _ j (by simpa using hj)

theorem isName_no {s : ByteArray} (h : ¬ (0 < s.size ∧ s.size ≤ 60)) : isName s = false := by unfold isName; rw [decide_eq_false h]; rfl

set_option maxRecDepth 100000 in
set_option maxHeartbeats 1000000 in
theorem isName_any (s : ByteArray) (w : World) (hs : s.size ≤ 9223372036854775807) :
    Calls Try.prog 23 #[.string s] w fun e w' => e = .returned (.bool (isName s)) ∧ Below w.heap.size w w' := by
  by_cases h0 : s.size = 0
  · have hnm := empty_of h0
    rw [isName_no (by omega)]
    go_enter Try.func23, Try.ntmps23
    go_wp2
    go_ret
    exact ⟨rfl, Below.refl _ _⟩
  have hnm := full_of h0
  by_cases h1 : 60 < s.size
  · rw [isName_no (by omega)]
    have d1 : decide ((60 : Int) < (s.size : Int)) = true := by simp; omega
    go_enter Try.func23, Try.ntmps23
    go_wp2
    go_ret
    exact ⟨rfl, Below.refl _ _⟩
  obtain ⟨cap, w1, hcv, hB, hcell, _⟩ := text_bytes s w
  obtain ⟨cs, hcs⟩ : ∃ cs, s.data.toList = cs := ⟨_, rfl⟩
  have hl : cs.length = s.size := by rw [← hcs]; simp
  rw [hcs] at hcell
  have hno : ∀ c ∈ cs, c.toNat < 33 ∨ 126 < c.toNat → isName s = false := fun c hc hx => by
    unfold isName; rw [hcs, List.all_eq_false.2 ⟨c, hc, by simp; omega⟩, Bool.and_false]
  have hyes : (∀ c ∈ cs, 33 ≤ c.toNat ∧ c.toNat ≤ 126) → isName s = true := fun h => by
    unfold isName; rw [hcs, decide_eq_true (by omega : 0 < s.size ∧ s.size ≤ 60), List.all_eq_true.2 (fun c hc => decide_eq_true (h c hc))]; rfl
  have HNO := Lib.hid hno
  have HYES := Lib.hid hyes
  have HL := Lib.hid hl
  have HC := Lib.hid hcell
  have d1 : decide ((60 : Int) < (s.size : Int)) = false := by simp; omega
  clear hno hyes hcs hl hcell
  generalize isName s = r at HNO HYES
  go_enter Try.func23, Try.ntmps23
  go_wp2
  go_loop [15] (fun i => ∃ k : Nat, k ≤ s.size ∧ i = .int .i64 (k : Int) ∧ Hid (∀ c ∈ cs.take k, 33 ≤ c.toNat ∧ c.toNat ≤ 126)) (fun i => s.size - (intOf i).toNat)
  case atStart => exact ⟨0, by omega, rfl, by intro c hc; simp at hc⟩
  case round =>
    obtain ⟨k, hk, rfl, hall⟩ := hrel
    by_cases hlt : k < s.size
    · have hc := HC.out k hlt
      obtain ⟨c, hcq⟩ : ∃ c, cs.getD k 0 = c := ⟨_, rfl⟩
      rw [hcq] at hc
      have hx := c.toNat_lt
      have hsn : cs.take (k + 1) = cs.take k ++ [c] := by
        have h1 : k < cs.length := by rw [HL.out]; exact hlt
        rw [List.take_succ_eq_append_getElem h1, ← hcq]
        simp [List.getD_eq_getElem?_getD, h1]
      have HS := Lib.hid hsn
      unfold b8 at hc
      have hin : c ∈ cs := by
        have h1 : k < cs.length := by rw [HL.out]; exact hlt
        rw [← hcq]; simp [List.getD_eq_getElem?_getD, h1]
      have HI := Lib.hid hin
      clear hsn hcq hin
      by_cases hlo : c.toNat < 33
      · go_wp2
        go_ret
        exact ⟨by rw [HNO.out c HI.out (by omega)]; rfl, hB⟩
      by_cases hhi : 126 < c.toNat
      · go_wp2
        go_ret
        exact ⟨by rw [HNO.out c HI.out (by omega)]; rfl, hB⟩
      go_wp2
      go_round
      case rel => exact ⟨k + 1, by omega, by go_num, fun x hx2 => by rw [HS.out] at hx2; rcases List.mem_append.1 hx2 with h | h; exact hall.out x h; obtain rfl := List.mem_singleton.1 h; omega⟩
      case measure => simp [intOf]; omega
    · obtain rfl : k = s.size := by omega
      have hfull : cs.take s.size = cs := by rw [← HL.out]; simp
      have HF := Lib.hid hfull
      clear hfull
      go_wp2
      go_ret
      exact ⟨by rw [HYES.out (fun c hc => hall.out c (by rw [HF.out]; exact hc))]; rfl, hB⟩

end Go.Proofs.Ytklgggolkclebaa
