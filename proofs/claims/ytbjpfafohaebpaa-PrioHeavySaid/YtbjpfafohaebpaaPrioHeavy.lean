/-
  Proved: PrioHeavy returns true for every three bytes and either choice: by the same draw the heavier is kept ahead of the lighter; by the same weight the lesser draw. No condition.
-/
import Derived.Test.YtbjpfafohaebpaaPrKnown
namespace Go.Proofs.Ytbjpfafohaebpaa
open Go.ChangeShapes Go.WideShapes Go.ChangeAt Go.RowKit Go.Proofs.PrioMath

theorem two_kept {t u : Of} (hp : t.p ≠ u.p) : keptL 1 [t, u] = if lt t u = true then [u] else [t] := by
  unfold keptL rank
  by_cases h : lt t u = true
  · simp [h, lt_irrefl, lt_asymm h]
  · have h1 : lt t u = false := by simpa using h
    simp [h1, lt_irrefl, other h1 hp]
theorem two_close {t u : Of} (hp : t.p ≠ u.p) (m : Nat) : (closeL 1 m [t, u]).length = 1 ∧ (at_ (closeL 1 m [t, u]) 0).p = if lt t u = true then u.p else t.p := by
  unfold closeL
  rw [two_kept hp]
  by_cases h : lt t u = true <;> simp [h, at_]

theorem heavy1 (X Y D : Nat) : lt ⟨0, X, D⟩ ⟨1, Y, D⟩ = decide (X < Y) := by
  unfold lt
  by_cases h : X < Y
  · have : X * (D + 1) < Y * (D + 1) := Nat.mul_lt_mul_of_pos_right h (by omega)
    simp [h]
  · have : ¬ X * (D + 1) < Y * (D + 1) := by
      have := Nat.mul_le_mul_right (D + 1) (show Y ≤ X by omega)
      omega
    simp [h]
theorem heavy2 (X Y Z : Nat) (hz : 0 < Z) : lt ⟨0, Z, Y⟩ ⟨1, Z, X⟩ = decide (X < Y) := by
  unfold lt
  by_cases h : X < Y
  · have : Z * (X + 1) < Z * (Y + 1) := Nat.mul_lt_mul_of_pos_left (by omega) hz
    simp [h, this]
  · have : ¬ Z * (X + 1) < Z * (Y + 1) := by
      have := Nat.mul_le_mul_left Z (show Y + 1 ≤ X + 1 by omega)
      omega
    simp [h, this]

set_option maxRecDepth 100000 in
set_option maxHeartbeats 2000000 in
theorem prioHeavy_walk (a b d : UInt8) (how : Bool) (w : World) :
    Calls Try.prog 3 #[.int .u8 (a.toNat : Int), .int .u8 (b.toNat : Int), .int .u8 (d.toNat : Int), .bool how] w fun e w' => e = .returned (.bool true) ∧ Below w.heap.size w w' := by
  have ha8 := a.toNat_lt
  have hb8 := b.toNat_lt
  have hd8 := d.toNat_lt
  obtain ⟨x, hx⟩ : ∃ x, a.toNat = x := ⟨_, rfl⟩
  obtain ⟨y, hy⟩ : ∃ x, b.toNat = x := ⟨_, rfl⟩
  obtain ⟨z, hz⟩ : ∃ x, d.toNat = x := ⟨_, rfl⟩
  rw [hx] at ha8 ⊢
  rw [hy] at hb8 ⊢
  rw [hz] at hd8 ⊢
  clear hx hy hz
  obtain ⟨x1, hx1, hx2⟩ : ∃ n : Nat, (x : Int) + 1 = (n : Int) ∧ n = x + 1 := ⟨x + 1, by simp, rfl⟩
  obtain ⟨y1, hy1, hy2⟩ : ∃ n : Nat, (y : Int) + 1 = (n : Int) ∧ n = y + 1 := ⟨y + 1, by simp, rfl⟩
  obtain ⟨z1, hz1, hz2⟩ : ∃ n : Nat, (z : Int) + 1 = (n : Int) ∧ n = z + 1 := ⟨z + 1, by simp, rfl⟩
  have hdr : ∀ c, c < 256 → c % dr 0 = c := fun c hc => Nat.mod_eq_of_lt (by simp [dr]; omega)
  have hN := own_new 1 0 w (by omega) (by omega) (by omega)
  -- the two offers
  obtain ⟨X0, D0, X1, D1, hX0, hD0, hX1, hD1, hhow⟩ : ∃ X0 D0 X1 D1 : Nat, (1 ≤ X0 ∧ X0 ≤ 256) ∧ D0 < 256 ∧ (1 ≤ X1 ∧ X1 ≤ 256) ∧ D1 < 256 ∧ ((how = true ∧ X0 = x1 ∧ D0 = z ∧ X1 = y1 ∧ D1 = z) ∨ (how = false ∧ X0 = z1 ∧ D0 = y ∧ X1 = z1 ∧ D1 = x)) := by
    cases how with
    | true => exact ⟨x1, z, y1, z, by omega, by omega, by omega, by omega, .inl ⟨rfl, rfl, rfl, rfl, rfl⟩⟩
    | false => exact ⟨z1, y, z1, x, by omega, by omega, by omega, by omega, .inr ⟨rfl, rfl, rfl, rfl, rfl⟩⟩
  obtain ⟨c, t1', t1⟩ : ∃ c, decide (x < y) = c ∧ decide ((x : Int) < (y : Int)) = c := ⟨decide (x < y), rfl, by simp⟩
  have hlt : lt ⟨0, X0, D0⟩ ⟨1, X1, D1⟩ = c := by
    rw [← t1']
    rcases hhow with ⟨_, h1, h2, h3, h4⟩ | ⟨_, h1, h2, h3, h4⟩
    · rw [h1, h2, h3, h4, heavy1]; simp; omega
    · rw [h1, h2, h3, h4, heavy2 _ _ _ (by omega)]
  have hA0 : ∀ S bs W, Ow w W S 1 0 [] bs → Calls Try.prog 11 #[.pointer (some ⟨S, 0, none⟩), .int .u64 (X0 : Int), .int .u64 (D0 : Int)] W fun e w' => e = .returned (.tuple #[.int .i64 0, .int .u16 0]) ∧ ∃ bs', Hid (Ow w w' S 1 0 [⟨0, X0, D0⟩] bs') := fun S bs W h =>
    (own_add X0 D0 h (by omega) (by omega) (by omega) (by simp)).mono fun e w' ⟨x1, bs', x2⟩ => ⟨x1, bs', Lib.hid (by have := x2.out.1; rwa [hdr D0 hD0] at this)⟩
  have hA1 : ∀ S bs W, Ow w W S 1 0 [⟨0, X0, D0⟩] bs → Calls Try.prog 11 #[.pointer (some ⟨S, 0, none⟩), .int .u64 (X1 : Int), .int .u64 (D1 : Int)] W fun e w' => e = .returned (.tuple #[.int .i64 1, .int .u16 0]) ∧ ∃ bs', Hid (Ow w w' S 1 0 [⟨0, X0, D0⟩, ⟨1, X1, D1⟩] bs') := fun S bs W h =>
    (own_add X1 D1 h (by omega) (by omega) (by omega) (by simp)).mono fun e w' ⟨x1, bs', x2⟩ => ⟨x1, bs', Lib.hid (by have := x2.out.1; rw [hdr D1 hD1] at this; exact this)⟩
  obtain ⟨hc1, hc2⟩ := two_close (t := ⟨0, X0, D0⟩) (u := ⟨1, X1, D1⟩) (by simp) 0
  rw [hlt] at hc2
  have hCl : ∀ S bs W, Ow w W S 1 0 [⟨0, X0, D0⟩, ⟨1, X1, D1⟩] bs → Calls Try.prog 12 #[.pointer (some ⟨S, 0, none⟩)] W fun e w' => ∃ T, e = .returned (.slice (some ⟨T, 0, none⟩) 1 1) ∧ Hid (Below w.heap.size w w') ∧ w'.cell? ⟨T, 0, none⟩ = some (.int .i64 (if c = true then 1 else 0)) ∧ w'.heap[T]? = w'.heap[T]? ∧ Hid (T < w'.heap.size) := fun S bs W h =>
    (own_close h (by simp)).mono fun e w' ⟨T, x1, x2⟩ => ⟨T, by rw [x1, hc1], Lib.hid x2.out.1.2.1, by
      have := (x2.out.2.1.cell (i := 0) (by rw [hc1]; omega)).1
      rw [hc2] at this
      rw [show (⟨T, 0, none⟩ : Addr) = ⟨T, 0 * 3, none⟩ by simp, this]
      cases c <;> rfl, rfl, Lib.hid x2.out.2.1.lt⟩
  have hK := fun W => known_any W
  have H0 := Lib.hid hN
  have H1 := Lib.hid hA0
  have H2 := Lib.hid hA1
  have H3 := Lib.hid hCl
  have HK := Lib.hid hK
  clear hN hA0 hA1 hCl hK hdr hc1 hc2 hlt hX0 hD0 hX1 hD1
  have hend : Hid (∀ W W', Below w.heap.size w W → Below W.heap.size W W' → Below w.heap.size w W') := Lib.hid fun W W' h1 h2 => h1.trans (h2.mono h1.size)
  rcases hhow with ⟨rfl, rfl, rfl, rfl, rfl⟩ | ⟨rfl, rfl, rfl, rfl, rfl⟩
  all_goals
    clear hx2 hy2 hz2
    cases c with
    | true =>
      rw [if_pos rfl] at H3
      go_enter Try.func3, Try.ntmps3
      go_wp2_with fail
      refine H0.out.mono ?_
      rintro e w1 ⟨S, bs, rfl, HO⟩
      go_wp2_with fail
      refine (H1.out _ _ _ HO.out).mono ?_
      rintro e w2 ⟨rfl, bs2, HO2⟩
      go_wp2_with fail
      refine (H2.out _ _ _ HO2.out).mono ?_
      rintro e w3 ⟨rfl, bs3, HO3⟩
      go_wp2_with fail
      refine (H3.out _ _ _ HO3.out).mono ?_
      rintro e w4 ⟨T, rfl, HB4, k0, _, HT⟩
      go_wp2_with fail
      refine (HK.out _).mono ?_
      rintro e w5 ⟨rfl, hb5⟩
      have k1 : w5.cell? ⟨T, 0, none⟩ = some (.int .i64 1) := (hb5.cell (p := ⟨T, 0, none⟩) HT.out).trans k0
      have HB5 := Lib.hid (hend.out _ _ HB4.out hb5)
      clear hb5 k0
      go_wp2_with fail
      go_ret
      exact ⟨rfl, HB5.out⟩
    | false =>
      rw [if_neg (by simp)] at H3
      go_enter Try.func3, Try.ntmps3
      go_wp2_with fail
      refine H0.out.mono ?_
      rintro e w1 ⟨S, bs, rfl, HO⟩
      go_wp2_with fail
      refine (H1.out _ _ _ HO.out).mono ?_
      rintro e w2 ⟨rfl, bs2, HO2⟩
      go_wp2_with fail
      refine (H2.out _ _ _ HO2.out).mono ?_
      rintro e w3 ⟨rfl, bs3, HO3⟩
      go_wp2_with fail
      refine (H3.out _ _ _ HO3.out).mono ?_
      rintro e w4 ⟨T, rfl, HB4, k0, _, HT⟩
      go_wp2_with fail
      refine (HK.out _).mono ?_
      rintro e w5 ⟨rfl, hb5⟩
      have k1 : w5.cell? ⟨T, 0, none⟩ = some (.int .i64 0) := (hb5.cell (p := ⟨T, 0, none⟩) HT.out).trans k0
      have HB5 := Lib.hid (hend.out _ _ HB4.out hb5)
      clear hb5 k0
      go_wp2_with fail
      go_ret
      exact ⟨rfl, HB5.out⟩
namespace PrioHeavy
set_option linter.unusedSimpArgs false in
set_option maxRecDepth 100000 in
theorem lifted (os : Os) (started : os.Started) (H : Type) (enc : TypeId × Value → H) :
    ReturnsInHanded {} Try.checked os 3 .any (Rows.prioHeavySpec.pre6 enc Try.prog Try.f3 Rows.prioHeavyRow.domain false) (Rows.prioHeavySpec.post enc Try.prog Try.f3 false true false false) := by
  refine returnsInHanded_of_change (C := Try.checked) own started (by kernel_rfl) Try.func3
    (ChangeSpec.witness6 (enc := enc) (C := Try.checked) false ⟨#[], #[.int .u8 0, .int .u8 0, .int .u8 0, .bool false], []⟩ 8 (by kernel_rfl) (by kernel_rfl) (by kernel_rfl) (by kernel_rfl)) ?_
  intro W base args ds gs before hval0 hW _ _
  have hval : ∀ (j : Nat) t v, Try.f3.params[j]? = some t → args[j]? = some v → Value.okWide Try.prog W .any base t v := hval0
  have hW' := hW
  obtain ⟨p, q, hA0, hV, rfl, _, _⟩ := hW
  have hA : DataW.TrodAll enc Try.prog W 0 (fun _ => true) true Try.f3.params.toList args.toList ds p := hA0
  rw [Try.params3] at hA hval
  obtain ⟨v0, vs0, d0, ds0, p0, q0, hargs, rfl, rfl, h0, r0⟩ := trodAll_cons hA
  obtain ⟨v1, vs1, d1, ds1, p1, q1, rfl, rfl, rfl, h1, r1⟩ := trodAll_cons r0
  obtain ⟨v2, vs2, d2, ds2, p2, q2, rfl, rfl, rfl, h2, r2⟩ := trodAll_cons r1
  obtain ⟨v3, vs3, d3, ds3, p3, q3, rfl, rfl, rfl, h3, r3⟩ := trodAll_cons r2
  obtain ⟨rfl, rfl, rfl⟩ := trodAll_nil r3
  obtain rfl : args = #[v0, v1, v2, v3] := by cases args; simp_all
  obtain ⟨rfl, rfl⟩ := trodVars_none hV
  obtain ⟨a0, rfl, rfl, rfl, w0⟩ := open_int Try.underlying5 (hval 0 5 v0 rfl rfl) h0
  have k0 := wf_u8 w0
  obtain ⟨n0, rfl⟩ : ∃ u : UInt8, a0 = (u.toNat : Int) := ⟨UInt8.ofNat a0.toNat, by simp; omega⟩
  obtain ⟨a1, rfl, rfl, rfl, w1⟩ := open_int Try.underlying5 (hval 1 5 v1 rfl rfl) h1
  have k1 := wf_u8 w1
  obtain ⟨n1, rfl⟩ : ∃ u : UInt8, a1 = (u.toNat : Int) := ⟨UInt8.ofNat a1.toNat, by simp; omega⟩
  obtain ⟨a2, rfl, rfl, rfl, w2⟩ := open_int Try.underlying5 (hval 2 5 v2 rfl rfl) h2
  have k2 := wf_u8 w2
  obtain ⟨n2, rfl⟩ : ∃ u : UInt8, a2 = (u.toNat : Int) := ⟨UInt8.ofNat a2.toNat, by simp; omega⟩
  obtain ⟨b3, rfl, rfl, rfl⟩ := open_bool Try.underlying4 (hval 3 4 v3 rfl rfl) h3
  clear hA0 hval0
  simp only [List.append_nil] at hW'
  refine (prioHeavy_walk n0 n1 n2 b3 W).mono fun e W' ⟨he, hg⟩ => ?_
  subst he
  exact ⟨_, rfl, true_last hW' rfl (by kernel_rfl) Try.underlying4 rfl rfl rfl (of_decide_eq_true (by kernel_rfl)) hg⟩

/-- **PrioHeavy, at every input.** -/
theorem proved : Rows.PrioHeavySaid :=
  OpenClaim.holds_of_wide 3 Try.f3 rfl rfl rfl rfl rfl rfl rfl ⟨rfl, rfl, rfl, rfl, rfl⟩ rfl rfl rfl rfl rfl (by kernel_rfl) Try.func3 (by kernel_rfl)
    (of_decide_eq_true (by kernel_rfl)) (by unfold Func.isWrapper; first | (rw [if_pos (by decide +kernel)]; kernel_rfl) | (rw [if_neg (by decide +kernel)]; exact ⟨rfl, rfl⟩))
    (fun os started H enc _ => lifted os started H enc)
end PrioHeavy

end Go.Proofs.Ytbjpfafohaebpaa
