/-
  What telemeterlaw12.Rule does, at every choice.
-/
import Derived.Test.YtmjbdjcpjaeemaaDoorPoRoW
namespace Go.Proofs.YtmjbdjcpjaeemaaDoor
open Go.RowKit

def keyOf : ByteArray := ⟨#[97]⟩
def ruleOf (a b : Nat) : Ru :=
  if a % 5 = 0 then ⟨1, (b : Int), none8, none8⟩
  else if a % 5 = 1 then ⟨2, 0, none8, none8⟩
  else if a % 5 = 2 then ⟨3, 0, keyOf, nameOf b⟩
  else if a % 5 = 3 then ⟨4, ((b % 6 : Nat) : Int), none8, none8⟩
  else ⟨5, ((b * 281474976710656 : Nat) : Int), none8, none8⟩
theorem ruleOf_in (a b : Nat) (hb : b < 256) : In64 (ruleOf a b).a ∧ 1 ≤ (ruleOf a b).kind ∧ (ruleOf a b).kind ≤ 5 := by
  unfold ruleOf In64
  split
  · simp only; omega
  · split
    · simp only; omega
    · split
      · simp only; omega
      · split <;> simp only <;> omega
set_option linter.unusedSimpArgs false in
set_option linter.unusedVariables false in
set_option maxRecDepth 100000 in
set_option maxHeartbeats 2000000 in
theorem rule_made (a b : Nat) (ha : a < 256) (hb : b < 256) (w : World) :
    Calls Tryd.prog 18 #[.int .u8 (a : Int), .int .u8 (b : Int)] w fun e w' => e = .returned (.agg (ruCells (ruleOf a b))) ∧ Below w.heap.size w w' := by
  obtain ⟨m, hm, hm5⟩ : ∃ m, a % 5 = m ∧ m < 5 := ⟨_, rfl, by omega⟩
  have tm : (a : Int).tmod 5 = (m : Int) := by rw [Int.tmod_eq_emod_of_nonneg (by omega)]; omega
  have HB : Hid (∀ C : Array Value, Below w.heap.size w (w.alloc (.cells C 39))) := Lib.hid fun C => box_below _
  have HK : Hid (∀ C : Array Value, Blk (w.alloc (.cells C 39)) w.heap.size C 39) := Lib.hid fun C => blk_new w C _
  have HN := Lib.hid fun W => name_any b hb W
  obtain ⟨s, hs⟩ : ∃ s, nameOf b = s := ⟨_, rfl⟩
  obtain ⟨b6, hb6, hb65⟩ : ∃ x, b % 6 = x ∧ x < 6 := ⟨_, rfl, by omega⟩
  have t6 : (b : Int).tmod 6 = (b6 : Int) := by rw [Int.tmod_eq_emod_of_nonneg (by omega)]; omega
  obtain ⟨b48, hb48⟩ : ∃ x, b * 281474976710656 = x := ⟨_, rfl⟩
  have hb48i : (b : Int) * 281474976710656 = (b48 : Int) := by omega
  have wb : IntKind.i64.wrap (b : Int) = (b : Int) := IntWalk.i64_in _ (by omega)
  have wb6 : IntKind.i64.wrap (b6 : Int) = (b6 : Int) := IntWalk.i64_in _ (by omega)
  have wb48 : IntKind.i64.wrap (b48 : Int) = (b48 : Int) := IntWalk.i64_in _ (by omega)
  unfold ruleOf
  rw [hm, hs, hb6, hb48]
  rw [hs] at HN
  clear hs hb6 hb48
  have hcases : m = 0 ∨ m = 1 ∨ m = 2 ∨ m = 3 ∨ m = 4 := by omega
  rcases hcases with h | h | h | h | h
  · have q0 : ((m : Int) == 0) = true := by simp; omega
    rw [if_pos h]
    unfold ruCells none8
    clear h hm
    go_enter Tryd.func18, Tryd.ntmps18
    go_wp2_with fail
    have r0 := (HK.out #[.int .u8 1, .int .i64 (b : Int), .string ⟨#[]⟩, .string ⟨#[]⟩]).cell 0 rfl
    have r1 := (HK.out #[.int .u8 1, .int .i64 (b : Int), .string ⟨#[]⟩, .string ⟨#[]⟩]).cell 1 rfl
    have r2 := (HK.out #[.int .u8 1, .int .i64 (b : Int), .string ⟨#[]⟩, .string ⟨#[]⟩]).cell 2 rfl
    have r3 := (HK.out #[.int .u8 1, .int .i64 (b : Int), .string ⟨#[]⟩, .string ⟨#[]⟩]).cell 3 rfl
    exact bodyPost_ret (v := .agg #[.int .u8 1, .int .i64 (b : Int), .string ⟨#[]⟩, .string ⟨#[]⟩]) (by simp [results, Tryd.results18, go_sem, r0, r1, r2, r3]) rfl ⟨rfl, HB.out _⟩
  · have q0 : ((m : Int) == 0) = false := by simp; omega
    have q1 : ((m : Int) == 1) = true := by simp; omega
    rw [if_neg (by omega), if_pos h]
    unfold ruCells none8
    clear h hm
    go_enter Tryd.func18, Tryd.ntmps18
    go_wp2_with fail
    have r0 := (HK.out #[.int .u8 2, .int .i64 0, .string ⟨#[]⟩, .string ⟨#[]⟩]).cell 0 rfl
    have r1 := (HK.out #[.int .u8 2, .int .i64 0, .string ⟨#[]⟩, .string ⟨#[]⟩]).cell 1 rfl
    have r2 := (HK.out #[.int .u8 2, .int .i64 0, .string ⟨#[]⟩, .string ⟨#[]⟩]).cell 2 rfl
    have r3 := (HK.out #[.int .u8 2, .int .i64 0, .string ⟨#[]⟩, .string ⟨#[]⟩]).cell 3 rfl
    exact bodyPost_ret (v := .agg #[.int .u8 2, .int .i64 0, .string ⟨#[]⟩, .string ⟨#[]⟩]) (by simp [results, Tryd.results18, go_sem, r0, r1, r2, r3]) rfl ⟨rfl, HB.out _⟩
  · have q0 : ((m : Int) == 0) = false := by simp; omega
    have q1 : ((m : Int) == 1) = false := by simp; omega
    have q2 : ((m : Int) == 2) = true := by simp; omega
    rw [if_neg (by omega), if_neg (by omega), if_pos h]
    unfold ruCells keyOf
    clear h hm
    go_enter Tryd.func18, Tryd.ntmps18
    go_wp2_with fail
    refine (HN.out _).mono ?_
    rintro e w2 ⟨rfl, rfl⟩
    go_wp2_with fail
    have r0 := (HK.out #[.int .u8 3, .int .i64 0, .string ⟨#[97]⟩, .string s]).cell 0 rfl
    have r1 := (HK.out #[.int .u8 3, .int .i64 0, .string ⟨#[97]⟩, .string s]).cell 1 rfl
    have r2 := (HK.out #[.int .u8 3, .int .i64 0, .string ⟨#[97]⟩, .string s]).cell 2 rfl
    have r3 := (HK.out #[.int .u8 3, .int .i64 0, .string ⟨#[97]⟩, .string s]).cell 3 rfl
    exact bodyPost_ret (v := .agg #[.int .u8 3, .int .i64 0, .string ⟨#[97]⟩, .string s]) (by simp [results, Tryd.results18, go_sem, r0, r1, r2, r3]) rfl ⟨rfl, HB.out _⟩
  · have q0 : ((m : Int) == 0) = false := by simp; omega
    have q1 : ((m : Int) == 1) = false := by simp; omega
    have q2 : ((m : Int) == 2) = false := by simp; omega
    have q3 : ((m : Int) == 3) = true := by simp; omega
    rw [if_neg (by omega), if_neg (by omega), if_neg (by omega), if_pos h]
    unfold ruCells none8
    clear h hm
    go_enter Tryd.func18, Tryd.ntmps18
    go_wp2_with fail
    have r0 := (HK.out #[.int .u8 4, .int .i64 (b6 : Int), .string ⟨#[]⟩, .string ⟨#[]⟩]).cell 0 rfl
    have r1 := (HK.out #[.int .u8 4, .int .i64 (b6 : Int), .string ⟨#[]⟩, .string ⟨#[]⟩]).cell 1 rfl
    have r2 := (HK.out #[.int .u8 4, .int .i64 (b6 : Int), .string ⟨#[]⟩, .string ⟨#[]⟩]).cell 2 rfl
    have r3 := (HK.out #[.int .u8 4, .int .i64 (b6 : Int), .string ⟨#[]⟩, .string ⟨#[]⟩]).cell 3 rfl
    exact bodyPost_ret (v := .agg #[.int .u8 4, .int .i64 (b6 : Int), .string ⟨#[]⟩, .string ⟨#[]⟩]) (by simp [results, Tryd.results18, go_sem, r0, r1, r2, r3]) rfl ⟨rfl, HB.out _⟩
  · have q0 : ((m : Int) == 0) = false := by simp; omega
    have q1 : ((m : Int) == 1) = false := by simp; omega
    have q2 : ((m : Int) == 2) = false := by simp; omega
    have q3 : ((m : Int) == 3) = false := by simp; omega
    rw [if_neg (by omega), if_neg (by omega), if_neg (by omega), if_neg (by omega)]
    unfold ruCells none8
    clear h hm
    go_enter Tryd.func18, Tryd.ntmps18
    go_wp2_with fail
    have r0 := (HK.out #[.int .u8 5, .int .i64 (b48 : Int), .string ⟨#[]⟩, .string ⟨#[]⟩]).cell 0 rfl
    have r1 := (HK.out #[.int .u8 5, .int .i64 (b48 : Int), .string ⟨#[]⟩, .string ⟨#[]⟩]).cell 1 rfl
    have r2 := (HK.out #[.int .u8 5, .int .i64 (b48 : Int), .string ⟨#[]⟩, .string ⟨#[]⟩]).cell 2 rfl
    have r3 := (HK.out #[.int .u8 5, .int .i64 (b48 : Int), .string ⟨#[]⟩, .string ⟨#[]⟩]).cell 3 rfl
    exact bodyPost_ret (v := .agg #[.int .u8 5, .int .i64 (b48 : Int), .string ⟨#[]⟩, .string ⟨#[]⟩]) (by simp [results, Tryd.results18, go_sem, r0, r1, r2, r3]) rfl ⟨rfl, HB.out _⟩
end Go.Proofs.YtmjbdjcpjaeemaaDoor
