/-
  Plain mathematics of layer 4: digits that are laid are told back.
-/
import Derived.Test.YtkfidolbbnmjfaaDoorCtxRefPar
namespace Go.Proofs.CtxMath

theorem unhex_hexd : ∀ d : Fin 16, unhex (hexd d.val) = some d.val := by decide
theorem last_zero (n : Nat) : last n 0 = [] := by
  unfold last
  exact List.drop_of_length_le (by rw [full_len]; omega)
theorem last_succ (n j : Nat) (h : j < 16) : last n (j + 1) = hexd (dig n (15 - j)) :: last n j := by
  unfold last
  have hl : 16 - (j + 1) < (full n).length := by rw [full_len]; omega
  rw [List.drop_eq_getElem_cons hl]
  have e1 : (full n)[16 - (j + 1)] = hexd (dig n (16 - (j + 1))) := by
    rw [← full_get n (16 - (j + 1)) (by omega)]
    rw [List.getD_eq_getElem?_getD, List.getElem?_eq_getElem hl]; rfl
  rw [e1, show 16 - (j + 1) = 15 - j by omega, show 15 - j + 1 = 16 - j by omega]
theorem dig_at (n j : Nat) (h : j < 16) : dig n (15 - j) = n / 16 ^ j % 16 := by
  unfold dig
  rw [show 15 - (15 - j) = j by omega]
theorem hexOn_last (n : Nat) : ∀ j v : Nat, j ≤ 16 → v < 18446744073709551616 → hexOn (last n j) v = some ((v * 16 ^ j + n % 16 ^ j) % 18446744073709551616)
  | 0, v, _, hv => by
    rw [last_zero, hexOn]
    congr 1
    simp only [Nat.pow_zero, Nat.mul_one, Nat.mod_one, Nat.add_zero]
    exact (Nat.mod_eq_of_lt hv).symm
  | j + 1, v, hj, hv => by
    rw [last_succ n j (by omega), hexOn, show unhex (hexd (dig n (15 - j))) = some (dig n (15 - j)) from unhex_hexd ⟨dig n (15 - j), dig_lt _ _⟩]
    show hexOn (last n j) ((v * 16 + dig n (15 - j)) % 18446744073709551616) = _
    rw [hexOn_last n j _ (by omega) (Nat.mod_lt _ (by omega)), dig_at n j (by omega)]
    congr 1
    rw [Nat.mod_pow_succ, Nat.add_mod, Nat.mul_mod, Nat.mod_mod, ← Nat.mul_mod, ← Nat.add_mod]
    congr 1
    rw [Nat.pow_succ, Nat.add_mul]
    have e1 : v * 16 * 16 ^ j = v * (16 ^ j * 16) := by rw [Nat.mul_assoc, Nat.mul_comm 16]
    have e2 : n / 16 ^ j % 16 * 16 ^ j = 16 ^ j * (n / 16 ^ j % 16) := Nat.mul_comm _ _
    rw [e1, e2]
    omega
theorem hexNum_last (n j : Nat) (h : j ≤ 16) : hexNum (last n j) = some (n % 16 ^ j % 18446744073709551616) := by
  unfold hexNum
  rw [hexOn_last n j 0 h (by omega)]
  simp
end Go.Proofs.CtxMath
namespace Go.Proofs.YtkfidolbbnmjfaaDoor
open Go.Proofs.CtxMath

theorem parse_print (hi lo sp fl : Nat) (h1 : hi < 18446744073709551616) (h2 : lo < 18446744073709551616) (h3 : sp < 18446744073709551616) (h4 : fl < 256) (hb : isPar hi lo sp = true) : parseOf (printOf hi lo sp fl) = (hi, lo, sp, fl, 0) := by
  have e16 : ∀ n, n < 18446744073709551616 → hexNum (last n 16) = some n := fun n hn => by
    rw [hexNum_last n 16 (by omega)]
    congr 1
    show n % 18446744073709551616 % 18446744073709551616 = n
    omega
  have e2 : hexNum (last fl 2) = some fl := by
    rw [hexNum_last fl 2 (by omega)]
    congr 1
    show fl % 256 % 18446744073709551616 = fl
    omega
  have hr := readAll_of (last_len hi 16 (by omega)) (last_len lo 16 (by omega)) (last_len sp 16 (by omega)) (last_len fl 2 (by omega)) (e16 hi h1) (e16 lo h2) (e16 sp h3) e2
  have hp : printOf hi lo sp fl = [48, 48, 45] ++ (last hi 16 ++ ([] ++ (last lo 16 ++ ([45] ++ (last sp 16 ++ ([45] ++ (last fl 2 ++ []))))))) := by unfold printOf; simp
  rw [hp]
  unfold parseOf
  rw [hr]
  simp only [hb, if_true]
  rw [Nat.mod_eq_of_lt h4]
theorem print_len (hi lo sp fl : Nat) : (printOf hi lo sp fl).length = 55 := by
  unfold printOf
  simp [last_len]
theorem parse_err (cs : List UInt8) : (parseOf cs).2.2.2.2 = 0 ∨ (parseOf cs).2.2.2.2 = 1 ∨ (parseOf cs).2.2.2.2 = 31 := by
  unfold parseOf
  split
  · split
    · exact .inl rfl
    · exact .inr (.inl rfl)
  · exact .inr (.inr rfl)
end Go.Proofs.YtkfidolbbnmjfaaDoor
