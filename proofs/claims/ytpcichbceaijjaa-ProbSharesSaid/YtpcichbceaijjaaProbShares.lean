/-
  Proved: ProbShares returns true for every two numbers: of all numbers no more than so many of so many are kept, and with one more it would be more. No condition.
-/
import Derived.Test.YtpcichbceaijjaaProbKnown
import Derived.Test.YtpcichbceaijjaaProbBackMath
namespace Go.Proofs.Ytpcichbceaijjaa
open Go.ChangeShapes Go.WideShapes Go.ChangeAt Go.RowKit Go.Proofs.ProbMath

theorem above_split (n f k : Nat) : (72057594037927936 * k < n * f) ↔ (k * 268435456 < n / 268435456 * f + n % 268435456 * f / 268435456 ∨ (n / 268435456 * f + n % 268435456 * f / 268435456 = k * 268435456 ∧ 0 < n % 268435456 * f % 268435456)) := by
  have e : n * f = n / 268435456 * f * 268435456 + n % 268435456 * f := by
    have := Nat.div_add_mod n 268435456
    rw [← Nat.mul_right_comm, ← Nat.add_mul, Nat.mul_comm _ 268435456, this]
  rw [e]
  generalize n / 268435456 * f = p
  generalize n % 268435456 * f = q
  omega

set_option maxRecDepth 100000 in
set_option maxHeartbeats 1000000 in
theorem above_any (n f k : Nat) (w : World) (r : Bool) (hn : n ≤ 72057594037927937) (hf : f ≤ 4294967296) (hk : k ≤ 4294967296) (hr : decide (72057594037927936 * k < n * f) = r) :
    Calls Try.prog 29 #[.int .u64 (n : Int), .int .u64 (f : Int), .int .u64 (k : Int)] w fun e w' => e = .returned (.bool r) ∧ w = w' := by
  replace hr : (k * 268435456 < n / 268435456 * f + n % 268435456 * f / 268435456 ∨ (n / 268435456 * f + n % 268435456 * f / 268435456 = k * 268435456 ∧ 0 < n % 268435456 * f % 268435456)) ↔ r = true := by rw [← hr, decide_eq_true_iff]; exact (above_split n f k).symm
  obtain ⟨n1, e1, hn1⟩ : ∃ n1 : Nat, (n : Int) / 268435456 = (n1 : Int) ∧ n1 = n / 268435456 := ⟨n / 268435456, by omega, rfl⟩
  obtain ⟨n0, e2, hn0⟩ : ∃ n0 : Nat, (n : Int) % 268435456 = (n0 : Int) ∧ n0 = n % 268435456 := ⟨n % 268435456, by omega, rfl⟩
  have b1 : n1 * f ≤ 268435457 * 4294967296 := Nat.mul_le_mul (by omega) hf
  have b0 : n0 * f ≤ 268435456 * 4294967296 := Nat.mul_le_mul (by omega) hf
  rw [← hn1, ← hn0] at hr
  obtain ⟨p, hp⟩ : ∃ p, p = n1 * f := ⟨_, rfl⟩
  obtain ⟨q, hq⟩ : ∃ q, q = n0 * f := ⟨_, rfl⟩
  have e3 : (n1 : Int) * (f : Int) = (p : Int) := by rw [hp]; simp
  have e4 : (n0 : Int) * (f : Int) = (q : Int) := by rw [hq]; simp
  rw [← hp] at b1 hr
  rw [← hq] at b0 hr
  obtain ⟨q1, e5, hq1⟩ : ∃ q1 : Nat, (q : Int) / 268435456 = (q1 : Int) ∧ q1 = q / 268435456 := ⟨q / 268435456, by omega, rfl⟩
  obtain ⟨q0, e6, hq0⟩ : ∃ q0 : Nat, (q : Int) % 268435456 = (q0 : Int) ∧ q0 = q % 268435456 := ⟨q % 268435456, by omega, rfl⟩
  obtain ⟨s, e7, hs⟩ : ∃ s : Nat, (p : Int) + (q1 : Int) = (s : Int) ∧ s = p + q1 := ⟨p + q1, by omega, rfl⟩
  obtain ⟨t, e8, ht⟩ : ∃ t : Nat, (k : Int) * 268435456 = (t : Int) ∧ t = k * 268435456 := ⟨k * 268435456, by omega, rfl⟩
  rw [← hq1, ← hq0, ← hs, ← ht] at hr
  have hpb : n1 ≤ 268435457 := by omega
  have hn0b : n0 < 268435456 := by omega
  have hq1b : q1 ≤ 4294967296 := by omega
  have htb : t ≤ 1152921504606846976 := by omega
  have HR := Lib.hid hr
  clear hp hq hn1 hn0 hq1 hq0 hs ht hr
  by_cases h1 : t < s
  · have d1 : decide ((t : Int) < (s : Int)) = true := by simp; omega
    have d1' : decide (t < s) = true := by simp; omega
    obtain rfl : true = r := (HR.out.1 (.inl h1)).symm
    clear HR
    go_enter Try.func29, Try.ntmps29
    go_wp2_with fail
    go_ret
    exact ⟨rfl, rfl⟩
  · have d1 : decide ((t : Int) < (s : Int)) = false := by simp; omega
    have d1' : decide (t < s) = false := by simp; omega
    by_cases h2 : s = t
    · subst h2
      have d2 : ((s : Int) == (s : Int)) = true := by simp
      have hr2 : decide (0 < q0) = r := by
        rw [Bool.eq_iff_iff, ← HR.out, decide_eq_true_iff]
        omega
      have HR2 := Lib.hid hr2
      clear HR hr2
      go_enter Try.func29, Try.ntmps29
      go_wp2_with fail
      all_goals
        go_ret
        exact ⟨ret_b' (by rw [← HR2.out]), rfl⟩
    · have d2 : ((s : Int) == (t : Int)) = false := by simp; omega
      obtain rfl : false = r := by
        cases r
        · rfl
        · exact absurd (HR.out.2 rfl) (by omega)
      clear HR
      go_enter Try.func29, Try.ntmps29
      go_wp2_with fail
      go_ret
      exact ⟨rfl, rfl⟩

set_option maxRecDepth 100000 in
set_option maxHeartbeats 1000000 in
theorem shares_walk (a b : Nat) (ha : a ≤ 4294967295) (hb : b ≤ 4294967295) (w : World) :
    Calls Try.prog 9 #[.int .u32 (a : Int), .int .u32 (b : Int)] w fun e w' => e = .returned (.bool true) ∧ Below w.heap.size w w' := by
  obtain ⟨f, e1, hf0, hf1⟩ : ∃ f : Nat, (b : Int) + 1 = (f : Int) ∧ 0 < f ∧ f ≤ 4294967296 := ⟨b + 1, by omega, by omega, by omega⟩
  obtain ⟨f1, e2, hf2⟩ : ∃ f1 : Nat, (f : Int) + 1 = (f1 : Int) ∧ f1 = f + 1 := ⟨f + 1, by omega, rfl⟩
  have dz : ((f1 : Int) == 0) = false := by simp; omega
  have lx := Nat.mod_lt a (show 0 < f1 by omega)
  obtain ⟨k, e3, hk⟩ : ∃ k : Nat, (a : Int) % (f1 : Int) = (k : Int) ∧ k ≤ f := ⟨a % f1, by simp, by omega⟩
  have hsl := share_le hk
  have u := share_under k f
  have o := share_over k f hf0
  have t1 := fun W => threshold_any k f W (by omega) hf0 hk
  obtain ⟨s, hs⟩ : ∃ s, s = share k f := ⟨_, rfl⟩
  rw [← hs] at hsl u o t1
  obtain ⟨T, hT⟩ : ∃ T, T = 72057594037927936 - s := ⟨_, rfl⟩
  rw [← hT] at t1
  have t2 := fun W => kept_any T W
  rw [show kept T = s by unfold kept; omega] at t2
  have t3 := fun W => above_any s f k W false (by omega) hf1 (by omega) (by rw [decide_eq_false_iff_not]; omega)
  have e4 : (s : Int) + 1 = ((s + 1 : Nat) : Int) := by omega
  have t4 := fun W => above_any (s + 1) f k W true (by omega) hf1 (by omega) (by rw [decide_eq_true_iff]; exact o)
  obtain ⟨s1, hs1⟩ : ∃ s1, s1 = s + 1 := ⟨_, rfl⟩
  rw [← hs1] at e4 t4
  have T1 := Lib.hid t1
  have T2 := Lib.hid t2
  have T3 := Lib.hid t3
  have T4 := Lib.hid t4
  clear t1 t2 t3 t4 u o hs hT lx hf2 hs1
  by_cases h : k = f
  · subst h
    have d : ((k : Int) == (k : Int)) = true := by simp
    go_enter Try.func9, Try.ntmps9
    go_wp2_with fail
    refine (T1.out _).mono ?_
    rintro e w1 ⟨rfl, hb1⟩
    go_wp2_with fail
    refine (T2.out _).mono ?_
    rintro e w2 ⟨rfl, rfl⟩
    go_wp2_with fail
    refine (known_any _).mono ?_
    rintro e w2 ⟨rfl, hb2⟩
    have hB := hb1.trans (hb2.mono hb1.size)
    clear hb1 hb2
    go_wp2_with fail
    refine (T3.out _).mono ?_
    rintro e w3 ⟨rfl, rfl⟩
    go_wp2_with fail
    go_ret
    exact ⟨rfl, hB⟩
  · have d : ((k : Int) == (f : Int)) = false := by simp; omega
    go_enter Try.func9, Try.ntmps9
    go_wp2_with fail
    refine (T1.out _).mono ?_
    rintro e w1 ⟨rfl, hb1⟩
    go_wp2_with fail
    refine (T2.out _).mono ?_
    rintro e w2 ⟨rfl, rfl⟩
    go_wp2_with fail
    refine (known_any _).mono ?_
    rintro e w2 ⟨rfl, hb2⟩
    have hB := hb1.trans (hb2.mono hb1.size)
    clear hb1 hb2
    go_wp2_with fail
    refine (T3.out _).mono ?_
    rintro e w3 ⟨rfl, rfl⟩
    go_wp2_with fail
    refine (T4.out _).mono ?_
    rintro e w3 ⟨rfl, rfl⟩
    go_wp2_with fail
    go_ret
    exact ⟨rfl, hB⟩

namespace ProbShares
set_option linter.unusedSimpArgs false in
set_option maxRecDepth 100000 in
theorem lifted (os : Os) (started : os.Started) (H : Type) (enc : TypeId × Value → H) :
    ReturnsInHanded {} Try.checked os 9 .any (Rows.probSharesSpec.pre6 enc Try.prog Try.f9 Rows.probSharesRow.domain false) (Rows.probSharesSpec.post enc Try.prog Try.f9 false true false false) := by
  refine returnsInHanded_of_change (C := Try.checked) own started (by kernel_rfl) Try.func9
    (ChangeSpec.witness6 (enc := enc) (C := Try.checked) false ⟨#[], #[.int .u32 0, .int .u32 0], []⟩ 8 (by kernel_rfl) (by kernel_rfl) (by kernel_rfl) (by kernel_rfl)) ?_
  intro W base args ds gs before hval0 hW _ _
  have hval : ∀ (j : Nat) t v, Try.f9.params[j]? = some t → args[j]? = some v → Value.okWide Try.prog W .any base t v := hval0
  have hW' := hW
  obtain ⟨p, q, hA0, hV, rfl, _, _⟩ := hW
  have hA : DataW.TrodAll enc Try.prog W 0 (fun _ => true) true Try.f9.params.toList args.toList ds p := hA0
  rw [Try.params9] at hA hval
  obtain ⟨v0, vs0, d0, ds0, p0, q0, hargs, rfl, rfl, h0, r0⟩ := trodAll_cons hA
  obtain ⟨v1, vs1, d1, ds1, p1, q1, rfl, rfl, rfl, h1, r1⟩ := trodAll_cons r0
  obtain ⟨rfl, rfl, rfl⟩ := trodAll_nil r1
  obtain rfl : args = #[v0, v1] := by cases args; simp_all
  obtain ⟨rfl, rfl⟩ := trodVars_none hV
  obtain ⟨a0, rfl, rfl, rfl, w0⟩ := open_int Try.underlying22 (hval 0 22 v0 rfl rfl) h0
  have k0 := wf_u32 w0
  obtain ⟨n0, rfl⟩ : ∃ n : Nat, a0 = n := ⟨a0.toNat, by omega⟩
  obtain ⟨a1, rfl, rfl, rfl, w1⟩ := open_int Try.underlying22 (hval 1 22 v1 rfl rfl) h1
  have k1 := wf_u32 w1
  obtain ⟨n1, rfl⟩ : ∃ n : Nat, a1 = n := ⟨a1.toNat, by omega⟩
  clear hA0 hval0
  simp only [List.append_nil] at hW'
  refine (shares_walk n0 n1 (by omega) (by omega) W).mono fun e W' ⟨he, hg⟩ => ?_
  subst he
  exact ⟨_, rfl, true_last hW' rfl (by kernel_rfl) Try.underlying4 rfl rfl rfl (of_decide_eq_true (by kernel_rfl)) hg⟩

/-- **ProbShares, at every input.** -/
theorem proved : Rows.ProbSharesSaid :=
  OpenClaim.holds_of_wide 9 Try.f9 rfl rfl rfl rfl rfl rfl rfl ⟨rfl, rfl, rfl, rfl, rfl⟩ rfl rfl rfl rfl rfl (by kernel_rfl) Try.func9 (by kernel_rfl)
    (of_decide_eq_true (by kernel_rfl)) (by unfold Func.isWrapper; first | (rw [if_pos (by decide +kernel)]; kernel_rfl) | (rw [if_neg (by decide +kernel)]; exact ⟨rfl, rfl⟩))
    (fun os started H enc _ => lifted os started H enc)
end ProbShares

end Go.Proofs.Ytpcichbceaijjaa
