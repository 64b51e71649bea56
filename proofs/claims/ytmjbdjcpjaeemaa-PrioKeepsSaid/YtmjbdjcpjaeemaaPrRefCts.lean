/-
  The document's own answers of layer 11, the third part: counts.
-/
import Derived.Test.YtmjbdjcpjaeemaaPrRefCnt
namespace Go.Proofs.Ytmjbdjcpjaeemaa
open Go.RowKit Go.Proofs.PrioMath

theorem quietW {P : Program} {f : FuncId} {args : Array Value} {w : World} {n : Nat} {v : Value}
    (h : Calls P f args (w.drewN n) fun e w' => e = .returned v ∧ w.drewN n = w') : Calls P f args (w.drewN n) fun e w'' => e = .returned v ∧ ∃ m, w'' = w.drewN m :=
  h.mono fun _ _ ⟨he, hm⟩ => ⟨he, n, hm.symm⟩
/-- The document's way to ask for the greater of both. -/
theorem cmp_halves (x y : Nat) : decide (y ≤ x) = (decide (y / 18446744073709551616 < x / 18446744073709551616) || (x / 18446744073709551616 == y / 18446744073709551616 && decide (y % 18446744073709551616 ≤ x % 18446744073709551616))) := by
  by_cases h1 : y / 18446744073709551616 < x / 18446744073709551616
  · have : y ≤ x := by omega
    simp [h1, this]
  · by_cases h2 : x / 18446744073709551616 = y / 18446744073709551616
    · by_cases h3 : y % 18446744073709551616 ≤ x % 18446744073709551616
      · have : y ≤ x := by omega
        simp [h2, h3, this]
      · have : ¬ y ≤ x := by omega
        simp [h2, h3, this]
    · have : ¬ y ≤ x := by omega
      simp [h1, h2, this]

set_option maxRecDepth 100000 in
set_option maxHeartbeats 4000000 in
theorem refCounts_any (x m : Nat) (o : Of) (w : World) (hx : x < 18446744073709551616) (hm : m < 18446744073709551616) (ho : Fit o) (hd : o.d < dr m) :
    Calls Try.prog 24 #[.int .u64 (x : Int), .agg #[.int .u64 (o.w : Int), .int .u64 (o.d : Int)], .int .u64 (m : Int)] w fun e w' => e = .returned (.tuple #[.int .u64 ((cnts x o m).1 : Int), .int .u64 ((cnts x o m).2 : Int)]) ∧ Below w.heap.size w w' := by
  obtain ⟨p, y, d⟩ := o
  obtain ⟨f1, f2⟩ := ho
  simp only at f1 f2 hd ⊢
  have hT := fun W => times_any y m W f1 hm
  have hP := fun W => refProduct_any x d W hx f2
  obtain ⟨V, hV⟩ : ∃ V, y * dr m = V := ⟨_, rfl⟩
  obtain ⟨U, hU⟩ : ∃ U, x * (d + 1) = U := ⟨_, rfl⟩
  rw [hU] at hP
  have hdr : dr m ≤ 18446744073709551616 := by unfold dr; split <;> omega
  have hH : V / 18446744073709551616 < 18446744073709551616 := by
    rw [← hV]
    refine Nat.div_lt_of_lt_mul (Nat.lt_of_le_of_lt (Nat.mul_le_mul_left y hdr) ?_)
    exact Nat.mul_lt_mul_of_pos_right f1 (by omega)
  have hL : V % 18446744073709551616 < 18446744073709551616 := Nat.mod_lt _ (by omega)
  have hcmp := cmp_halves U V
  -- the halves of M times v, as slots 8 and 9 have them then
  obtain ⟨vh, hvh⟩ : ∃ v, V / 18446744073709551616 = v := ⟨_, rfl⟩
  obtain ⟨vl, hvl⟩ : ∃ v, V % 18446744073709551616 = v := ⟨_, rfl⟩
  obtain ⟨uh, huh⟩ : ∃ v, U / 18446744073709551616 = v := ⟨_, rfl⟩
  obtain ⟨ul, hul⟩ : ∃ v, U % 18446744073709551616 = v := ⟨_, rfl⟩
  have hVV : vh * 18446744073709551616 + vl = V := by omega
  rw [hvh, hvl, huh, hul] at hcmp
  rw [huh, hul] at hP
  rw [hvh] at hH
  rw [hvl] at hL
  have hm0 : m = 0 ∧ (vh = y ∧ vl = 0) ∨ 0 < m ∧ (y * m / 18446744073709551616 = vh ∧ y * m % 18446744073709551616 = vl) := by
    unfold dr at hV
    by_cases h0 : m = 0
    · left
      rw [if_pos h0] at hV
      exact ⟨h0, by omega, by omega⟩
    · right
      rw [if_neg h0] at hV
      exact ⟨by omega, by rw [hV]; exact hvh, by rw [hV]; exact hvl⟩
  have hw : Below w.heap.size w (w.alloc (.cells #[.int .u64 (y : Int), .int .u64 (d : Int)] 68)) := box_below _
  have HW := Lib.hid hw
  obtain ⟨b1, t1, t1'⟩ : ∃ b, decide (vh < uh) = b ∧ decide ((vh : Int) < (uh : Int)) = b := ⟨_, rfl, by simp⟩
  obtain ⟨b2, t2, t2'⟩ : ∃ b, (uh == vh) = b ∧ ((uh : Int) == (vh : Int)) = b := ⟨_, rfl, by
    by_cases h : uh = vh
    · simp [h]
    · have h' : ¬ (uh : Int) = (vh : Int) := by omega
      rw [beq_eq_false_iff_ne.2 h, beq_eq_false_iff_ne.2 h']⟩
  obtain ⟨b3, t3, t3'⟩ : ∃ b, decide (vl ≤ ul) = b ∧ decide ((vl : Int) ≤ (ul : Int)) = b := ⟨_, rfl, by simp⟩
  rw [t1, t2, t3] at hcmp
  have HT : Hid (∀ W, Calls Try.prog 34 #[.int .u64 (y : Int), .int .u64 (m : Int)] W fun e w' => e = .returned (.tuple #[.int .u64 ((y * m / 18446744073709551616 : Nat) : Int), .int .u64 ((y * m % 18446744073709551616 : Nat) : Int)]) ∧ W = w') := Lib.hid hT
  have HP := Lib.hid hP
  unfold cnts
  simp only
  rw [hV, hU]
  by_cases hk : V ≤ U
  · rw [decide_eq_true hk] at hcmp
    rw [if_pos hk]
    simp only
    have h3 : b1 = true ∨ (b1 = false ∧ b2 = true ∧ b3 = true) := by
      clear t1 t1' t2 t2' t3 t3'
      cases b1 <;> cases b2 <;> cases b3 <;> simp_all
    clear hT hP hV hU hdr hcmp hk hVV hvh hvl huh hul hw hd f1 f2 hx hm
    rcases hm0 with ⟨rfl, rfl, rfl⟩ | ⟨hmp, e1, e2⟩
    · have hm1 : ((0 : Nat) : Int) = 0 := rfl
      clear hm1
      rcases h3 with rfl | ⟨rfl, rfl, rfl⟩
      · go_enter Try.func24, Try.ntmps24
        go_wp2_with fail
        refine (HT.out _).mono ?_
        rintro e w' ⟨rfl, rfl⟩
        go_wp2_with fail
        refine (HP.out _).mono ?_
        rintro e w' ⟨rfl, rfl⟩
        go_wp2_with fail
        go_ret2
        exact ⟨rfl, HW.out⟩
      · go_enter Try.func24, Try.ntmps24
        go_wp2_with fail
        refine (HT.out _).mono ?_
        rintro e w' ⟨rfl, rfl⟩
        go_wp2_with fail
        refine (HP.out _).mono ?_
        rintro e w' ⟨rfl, rfl⟩
        go_wp2_with fail
        go_ret2
        exact ⟨rfl, HW.out⟩
    · have t5 : ((m : Int) == 0) = false := by simp; omega
      have t5' : decide ((m : Int) = 0) = false := by simp; omega
      rw [e1, e2] at HT
      clear e1 e2 hmp
      rcases h3 with rfl | ⟨rfl, rfl, rfl⟩
      · go_enter Try.func24, Try.ntmps24
        go_wp2_with fail
        refine (HT.out _).mono ?_
        rintro e w' ⟨rfl, rfl⟩
        go_wp2_with fail
        refine (HP.out _).mono ?_
        rintro e w' ⟨rfl, rfl⟩
        go_wp2_with fail
        go_ret2
        exact ⟨rfl, HW.out⟩
      · go_enter Try.func24, Try.ntmps24
        go_wp2_with fail
        refine (HT.out _).mono ?_
        rintro e w' ⟨rfl, rfl⟩
        go_wp2_with fail
        refine (HP.out _).mono ?_
        rintro e w' ⟨rfl, rfl⟩
        go_wp2_with fail
        go_ret2
        exact ⟨rfl, HW.out⟩
  · rw [decide_eq_false hk] at hcmp
    rw [if_neg hk]
    have h3 : (b1 = false ∧ b2 = false) ∨ (b1 = false ∧ b2 = true ∧ b3 = false) := by
      clear t1 t1' t2 t2' t3 t3'
      cases b1 <;> cases b2 <;> cases b3 <;> simp_all
    by_cases hdm : d = 18446744073709551615
    · have hmz : m = 0 := by
        unfold dr at hd
        split at hd
        · assumption
        · omega
      have hvy : vh = y ∧ vl = 0 := by
        rcases hm0 with h | h
        · exact h.2
        · omega
      have hg : Nat.gcd (d + 1) V = 18446744073709551616 := by
        rw [← hV, hdm, hmz]
        exact Nat.gcd_eq_left (Nat.dvd_mul_left _ _)
      have h2 : min (V / Nat.gcd (d + 1) V) 18446744073709551615 = y ∧ (d + 1) / Nat.gcd (d + 1) V = 1 := by
        rw [hg, hvh, hdm, hvy.1]
        exact ⟨by omega, by decide⟩
      simp only [h2.1, h2.2]
      obtain ⟨rfl, rfl⟩ := hvy
      clear hT hP hV hU hdr hcmp hk hVV hvh hvl huh hul hw hd f1 f2 hx hm h2 hg hm0
      subst hmz hdm
      rcases h3 with ⟨rfl, rfl⟩ | ⟨rfl, rfl, rfl⟩
      · go_enter Try.func24, Try.ntmps24
        go_wp2_with fail
        refine (HT.out _).mono ?_
        rintro e w' ⟨rfl, rfl⟩
        go_wp2_with fail
        refine (HP.out _).mono ?_
        rintro e w' ⟨rfl, rfl⟩
        go_wp2_with fail
        go_ret2
        exact ⟨rfl, HW.out⟩
      · simp at t3
    · obtain ⟨den, hden1, hden2⟩ : ∃ n : Nat, (d : Int) + 1 = (n : Int) ∧ n = d + 1 := ⟨d + 1, by simp, rfl⟩
      have hdb : den < 18446744073709551616 := by omega
      have hR := fun W => refRest_any vh vl den W hH hL hdb (by omega)
      rw [hVV] at hR
      obtain ⟨r, hr⟩ : ∃ r, V % den = r := ⟨_, rfl⟩
      have hrd : r < den := by rw [← hr]; exact Nat.mod_lt _ (by omega)
      rw [hr] at hR
      have hGc := fun W => refGcd_any den r W hdb (by omega)
      have hgg : Nat.gcd den r = Nat.gcd den V := by rw [← hr, Nat.gcd_comm, ← Nat.gcd_rec]
      rw [hgg] at hGc
      rw [← hden2]
      obtain ⟨g, hg⟩ : ∃ g, Nat.gcd den V = g := ⟨_, rfl⟩
      rw [hg] at hGc ⊢
      have hg0 : 0 < g := by rw [← hg]; exact Nat.gcd_pos_of_pos_left _ (by omega)
      have hgd : g ≤ den := by rw [← hg]; exact Nat.gcd_le_left _ (by omega)
      have hO := fun W => refOver_any vh vl g W hH hL (by omega) hg0
      rw [hVV] at hO
      obtain ⟨nu, hnu⟩ : ∃ n, min (V / g) 18446744073709551615 = n := ⟨_, rfl⟩
      obtain ⟨dq, hdq⟩ : ∃ n, den / g = n := ⟨_, rfl⟩
      rw [hnu] at hO
      simp only [hnu, hdq]
      have e9 : (den : Int) / (g : Int) = (dq : Int) := by rw [← hdq]; simp
      have e9t : (den : Int).tdiv (g : Int) = (dq : Int) := by rw [Int.tdiv_eq_ediv_of_nonneg (by omega)]; exact e9
      have hdql : dq ≤ den := by rw [← hdq]; exact Nat.div_le_self _ _
      have w9 : IntKind.u64.wrap (dq : Int) = (dq : Int) := by rw [IntKind.wrap_u64]; omega
      have a0 : ((g : Int) == 0) = false := by simp; omega
      have a0' : decide ((g : Int) = 0) = false := by simp; omega
      have a0'' : ¬ g = 0 := by omega
      have t6 : ((d : Int) == 18446744073709551615) = false := by simp; omega
      have t6' : decide ((d : Int) = 18446744073709551615) = false := by simp; omega
      have HR := Lib.hid hR
      have HG := Lib.hid hGc
      have HO := Lib.hid hO
      clear hT hP hV hU hdr hcmp hk hVV hvh hvl huh hul hw hd f1 f2 hx hm hR hGc hO hnu hdq hgg hg hr hden2 hdm
      rcases hm0 with ⟨rfl, rfl, rfl⟩ | ⟨hmp, e1, e2⟩
      · rcases h3 with ⟨rfl, rfl⟩ | ⟨rfl, rfl, rfl⟩
        · go_enter Try.func24, Try.ntmps24
          go_wp2_with fail
          refine (HT.out _).mono ?_
          rintro e w' ⟨rfl, rfl⟩
          go_wp2_with fail
          refine (HP.out _).mono ?_
          rintro e w' ⟨rfl, rfl⟩
          go_wp2_with fail
          refine (HR.out _).mono ?_
          rintro e w' ⟨rfl, rfl⟩
          go_wp2_with fail
          refine (HG.out _).mono ?_
          rintro e w' ⟨rfl, rfl⟩
          go_wp2_with fail
          go_quiet ((go_at_call 38; exact quietW (HO.out _)))
          go_wp2_with fail
          go_ret2
          exact ⟨by rw [← e9]; rfl, draws HW.out _⟩
        · simp at t3
      · have t5 : ((m : Int) == 0) = false := by simp; omega
        have t5' : decide ((m : Int) = 0) = false := by simp; omega
        rw [e1, e2] at HT
        clear e1 e2 hmp
        rcases h3 with ⟨rfl, rfl⟩ | ⟨rfl, rfl, rfl⟩
        · go_enter Try.func24, Try.ntmps24
          go_wp2_with fail
          refine (HT.out _).mono ?_
          rintro e w' ⟨rfl, rfl⟩
          go_wp2_with fail
          refine (HP.out _).mono ?_
          rintro e w' ⟨rfl, rfl⟩
          go_wp2_with fail
          refine (HR.out _).mono ?_
          rintro e w' ⟨rfl, rfl⟩
          go_wp2_with fail
          refine (HG.out _).mono ?_
          rintro e w' ⟨rfl, rfl⟩
          go_wp2_with fail
          go_quiet ((go_at_call 38; exact quietW (HO.out _)))
          go_wp2_with fail
          go_ret2
          exact ⟨by rw [← e9]; rfl, draws HW.out _⟩
        · go_enter Try.func24, Try.ntmps24
          go_wp2_with fail
          refine (HT.out _).mono ?_
          rintro e w' ⟨rfl, rfl⟩
          go_wp2_with fail
          refine (HP.out _).mono ?_
          rintro e w' ⟨rfl, rfl⟩
          go_wp2_with fail
          refine (HR.out _).mono ?_
          rintro e w' ⟨rfl, rfl⟩
          go_wp2_with fail
          refine (HG.out _).mono ?_
          rintro e w' ⟨rfl, rfl⟩
          go_wp2_with fail
          go_quiet ((go_at_call 38; exact quietW (HO.out _)))
          go_wp2_with fail
          go_ret2
          exact ⟨by rw [← e9]; rfl, draws HW.out _⟩
end Go.Proofs.Ytmjbdjcpjaeemaa
