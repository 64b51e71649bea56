/-
  Proved: PrioKeeps returns true for every number kept, all draws, every list of offers, and every weights and draws: any sampler keeps of any offers, and counts, what the document's own answer says; so it does of the next ones. No condition.
-/
import Derived.Test.YtmjbdjcpjaeemaaPrTells
namespace Go.Proofs.Ytmjbdjcpjaeemaa
open Go.ChangeShapes Go.WideShapes Go.ChangeAt Go.RowKit Go.Proofs.PrioMath

set_option linter.unusedSimpArgs false in
set_option maxRecDepth 100000 in
set_option maxHeartbeats 4000000 in
theorem prioKeeps_walk (c : UInt8) (draws_ : Nat) (u : UInt8) (A3 : Option Addr) (l : List Oa) (cap3 : Nat) (A4 : Option Addr) (ws : List Nat) (cap4 : Nat) (A5 : Option Addr) (rs : List Nat) (cap5 : Nat) (w : World)
    (hd : draws_ < 18446744073709551616) (hC : Ofs w.heap.size w A3 l) (hcap : l.length ≤ cap3) (hcap4 : ws.length ≤ cap4) (hm4 : cap4 ≤ 9223372036854775807) (_hcap5 : rs.length ≤ cap5) (_hm5 : cap5 ≤ 9223372036854775807) (hW : Holds64 w.heap.size w A4 ws) (hR : Holds64 w.heap.size w A5 rs) :
    Calls Try.prog 3 #[.int .u8 (c.toNat : Int), .int .u64 (draws_ : Int), .int .u8 (u.toNat : Int), .slice A3 l.length cap3, .slice A4 ws.length cap4, .slice A5 rs.length cap5] w fun e w' => e = .returned (.bool true) ∧ Below w.heap.size w w' := by
  have hc8 := c.toNat_lt
  have hu8 := u.toNat_lt
  obtain ⟨mo, hmo⟩ : ∃ x, c.toNat = x := ⟨_, rfl⟩
  obtain ⟨mu, hmu⟩ : ∃ x, u.toNat = x := ⟨_, rfl⟩
  rw [hmo] at hc8 ⊢
  rw [hmu] at hu8 ⊢
  clear hmo hmu
  have HK := Lib.hid (fun W => known_any W)
  obtain ⟨n, hn⟩ : ∃ n, l.length = n := ⟨_, rfl⟩
  obtain ⟨nw, hnw⟩ : ∃ n, ws.length = n := ⟨_, rfl⟩
  obtain ⟨nr, hnr⟩ : ∃ n, rs.length = n := ⟨_, rfl⟩
  obtain ⟨k6, hk6, hk62⟩ : ∃ k : Nat, (mo : Int) % 6 = (k : Int) ∧ k < 6 := ⟨mo % 6, by omega, by omega⟩
  have hk6t : (mo : Int).tmod 6 = (k6 : Int) := by rw [Int.tmod_eq_emod_of_nonneg (by omega)]; exact hk6
  obtain ⟨kk, hkk, hkk2⟩ : ∃ k : Nat, (1 : Int) + (k6 : Int) = (k : Int) ∧ k = 1 + k6 := ⟨1 + k6, by simp, rfl⟩
  obtain ⟨m12, hm12, hm122⟩ : ∃ k : Nat, (mu : Int) % 12 = (k : Int) ∧ k < 12 := ⟨mu % 12, by omega, by omega⟩
  have hm12t : (mu : Int).tmod 12 = (m12 : Int) := by rw [Int.tmod_eq_emod_of_nonneg (by omega)]; exact hm12
  have wk6 : IntKind.i64.wrap (k6 : Int) = (k6 : Int) := IntWalk.i64_in _ (by omega)
  have wm12 : IntKind.u64.wrap (m12 : Int) = (m12 : Int) := IntWalk.u64_in _ (by omega)
  have hkb : 1 ≤ kk ∧ kk ≤ 6 := by omega
  clear hkk2
  rw [hn, hnw, hnr]
  by_cases hbad : 40 < n ∨ 40 < nr
  · obtain ⟨b1, hb1⟩ : ∃ b, decide ((40 : Int) < (n : Int)) = b := ⟨_, rfl⟩
    have hb1n : decide (40 < n) = b1 := by rw [← hb1]; simp; omega
    by_cases h1 : 40 < n
    · obtain rfl : b1 = true := by rw [← hb1n]; simp; omega
      clear hbad h1
      go_enter Try.func3, Try.ntmps3
      go_wp2_with fail
      refine (HK.out _).mono ?_
      rintro e w2 ⟨rfl, hb⟩
      go_wp2_with fail
      go_ret
      exact ⟨rfl, hb⟩
    · obtain rfl : b1 = false := by rw [← hb1n]; simp; omega
      have t2 : decide ((40 : Int) < (nr : Int)) = true := by simp; omega
      have t2n : decide (40 < nr) = true := by simp; omega
      clear hbad h1
      go_enter Try.func3, Try.ntmps3
      go_wp2_with fail
      refine (HK.out _).mono ?_
      rintro e w2 ⟨rfl, hb⟩
      go_wp2_with fail
      go_ret
      exact ⟨rfl, hb⟩
  have t1 : decide ((40 : Int) < (n : Int)) = false := by simp; omega
  have t1n : decide (40 < n) = false := by simp; omega
  have t2 : decide ((40 : Int) < (nr : Int)) = false := by simp; omega
  have t2n : decide (40 < nr) = false := by simp; omega
  have h40 : n ≤ 40 ∧ nr ≤ 40 := by omega
  have HT : Hid (∀ W, Below w.heap.size w W → ∀ m : Nat, m < 18446744073709551616 → Calls Try.prog 5 #[.int .i64 (kk : Int), .int .u64 (m : Int), .slice A3 n cap3, .slice none 0 0, .slice none 0 0] W fun e w' => e = .returned (.bool true) ∧ Below w.heap.size w w') := Lib.hid fun W hW m hm => by
    exact (tells_any A3 l n cap3 none [] 0 0 none [] 0 0 kk m W hn (hC.later hW) (by omega) h40.1 rfl (fun h => absurd h (by simp)) rfl (fun h => absurd h (by simp)) (by omega) (by omega) hkb hm).mono fun e w' ⟨he, hb⟩ => ⟨he, hW.trans (hb.mono hW.size)⟩
  have HT2 : Hid (∀ W, Below w.heap.size w W → Calls Try.prog 5 #[.int .i64 (kk : Int), .int .u64 (draws_ : Int), .slice A3 n cap3, .slice A4 nw cap4, .slice A5 nr cap5] W fun e w' => e = .returned (.bool true) ∧ Below w.heap.size w w') := Lib.hid fun W hb => by
    exact (tells_any A3 l n cap3 A4 ws nw cap4 A5 rs nr cap5 kk draws_ W hn (hC.later hb) (by omega) h40.1 hnw (hW.later hb) hnr (hR.later hb) (by omega) h40.2 hkb hd).mono fun e w' ⟨he, hb2⟩ => ⟨he, hb.trans (hb2.mono hb.size)⟩
  have HT3 : Hid (∀ W, Below w.heap.size w W → Calls Try.prog 5 #[.int .i64 (kk : Int), .int .u64 0, .slice A3 n cap3, .slice none 0 0, .slice A5 nr cap5] W fun e w' => e = .returned (.bool true) ∧ Below w.heap.size w w') := Lib.hid fun W hb => by
    exact (tells_any A3 l n cap3 none [] 0 0 A5 rs nr cap5 kk 0 W hn (hC.later hb) (by omega) h40.1 rfl (fun h => absurd h (by simp)) hnr (hR.later hb) (by omega) h40.2 hkb (by omega)).mono fun e w' ⟨he, hb2⟩ => ⟨he, hb.trans (hb2.mono hb.size)⟩
  clear hbad h40 hn hnw hnr hC hW hR hcap hcap4
  go_enter Try.func3, Try.ntmps3
  go_wp2_with fail
  refine (HK.out _).mono ?_
  rintro e w2 ⟨rfl, hb⟩
  go_wp2_with fail
  refine (HT.out _ hb m12 (by omega)).mono ?_
  rintro e w3 ⟨rfl, hb3⟩
  clear hb
  go_wp2_with fail
  refine (HT2.out _ hb3).mono ?_
  rintro e w4 ⟨rfl, hb4⟩
  clear hb3
  go_wp2_with fail
  refine (HT3.out _ hb4).mono ?_
  rintro e w5 ⟨rfl, hb5⟩
  clear hb4
  go_wp2_with fail
  go_ret
  exact ⟨rfl, hb5⟩
namespace PrioKeeps
set_option linter.unusedSimpArgs false in
set_option maxRecDepth 100000 in
theorem lifted (os : Os) (started : os.Started) (H : Type) (enc : TypeId × Value → H) :
    ReturnsInHanded {} Try.checked os 3 .any (Rows.prioKeepsSpec.pre6 enc Try.prog Try.f3 Rows.prioKeepsRow.domain false) (Rows.prioKeepsSpec.post enc Try.prog Try.f3 false true false false) := by
  refine returnsInHanded_of_change (C := Try.checked) own started (by kernel_rfl) Try.func3
    (ChangeSpec.witness6 (enc := enc) (C := Try.checked) false ⟨#[], #[.int .u8 0, .int .u64 0, .int .u8 0, .slice none 0 0, .slice none 0 0, .slice none 0 0], []⟩ 8 (by kernel_rfl) (by kernel_rfl) (by kernel_rfl) (by kernel_rfl)) ?_
  intro W base args ds gs before hval0 hW _ _
  have hval : ∀ (j : Nat) t v, Try.f3.params[j]? = some t → args[j]? = some v → Value.okWide Try.prog W .any base t v := hval0
  have hW' := hW
  obtain ⟨p, q, hA0, hV, rfl, _, _⟩ := hW
  have hA : DataW.TrodAll enc Try.prog W 0 (fun _ => true) true Try.f3.params.toList args.toList ds p := hA0
  rw [Try.params3] at hA hval
  obtain ⟨v0, vs0, d0, ds0, p0, q0, hargs, rfl, rfl, h0, r0⟩ := trodAll_cons hA
  obtain ⟨v1, vs1, d1, ds1, p1, q1, rfl, rfl, rfl, h1, r1⟩ := trodAll_cons r0
  obtain ⟨v2, vs2, d2, ds2, p2, q2, rfl, rfl, rfl, h2, r2⟩ := trodAll_cons r1
  obtain ⟨v3, vs3, d3, ds3, p3, q3, rfl, rfl, rfl, h3, r3⟩ := trodAll_cons r2
  obtain ⟨v4, vs4, d4, ds4, p4, q4, rfl, rfl, rfl, h4, r4⟩ := trodAll_cons r3
  obtain ⟨v5, vs5, d5, ds5, p5, q5, rfl, rfl, rfl, h5, r5⟩ := trodAll_cons r4
  obtain ⟨rfl, rfl, rfl⟩ := trodAll_nil r5
  obtain rfl : args = #[v0, v1, v2, v3, v4, v5] := by cases args; simp_all
  obtain ⟨rfl, rfl⟩ := trodVars_none hV
  obtain ⟨a0, rfl, rfl, rfl, w0⟩ := open_int Try.underlying5 (hval 0 5 v0 rfl rfl) h0
  have k0 := wf_u8 w0
  obtain ⟨n0, rfl⟩ : ∃ u : UInt8, a0 = (u.toNat : Int) := ⟨UInt8.ofNat a0.toNat, by simp; omega⟩
  obtain ⟨a1, rfl, rfl, rfl, w1⟩ := open_int Try.underlying22 (hval 1 22 v1 rfl rfl) h1
  have k1 := wf_u64 w1
  obtain ⟨n1, rfl⟩ : ∃ n : Nat, a1 = n := ⟨a1.toNat, by omega⟩
  obtain ⟨a2, rfl, rfl, rfl, w2⟩ := open_int Try.underlying5 (hval 2 5 v2 rfl rfl) h2
  have k2 := wf_u8 w2
  obtain ⟨n2, rfl⟩ : ∃ u : UInt8, a2 = (u.toNat : Int) := ⟨UInt8.ofNat a2.toNat, by simp; omega⟩
  obtain ⟨A3, cs3, cap3, rfl, l3, m3, b3⟩ := arg_offers (hval 3 23 v3 rfl rfl) h3
  obtain ⟨A4, cs4, cap4, rfl, l4, m4, b4⟩ := arg_nums (hval 4 24 v4 rfl rfl) h4
  obtain ⟨A5, cs5, cap5, rfl, l5, m5, b5⟩ := arg_nums (hval 5 24 v5 rfl rfl) h5
  clear hA0 hval0
  simp only [List.append_nil] at hW'
  refine (prioKeeps_walk n0 n1 n2 A3 cs3 cap3 A4 cs4 cap4 A5 cs5 cap5 W (by omega) b3 l3 l4 m4 l5 m5 b4 b5).mono fun e W' ⟨he, hg⟩ => ?_
  subst he
  exact ⟨_, rfl, true_last hW' rfl (by kernel_rfl) Try.underlying4 rfl rfl rfl (of_decide_eq_true (by kernel_rfl)) hg⟩

/-- **PrioKeeps, at every input.** -/
theorem proved : Rows.PrioKeepsSaid :=
  OpenClaim.holds_of_wide 3 Try.f3 rfl rfl rfl rfl rfl rfl rfl ⟨rfl, rfl, rfl, rfl, rfl⟩ rfl rfl rfl rfl rfl (by kernel_rfl) Try.func3 (by kernel_rfl)
    (of_decide_eq_true (by kernel_rfl)) (by unfold Func.isWrapper; first | (rw [if_pos (by decide +kernel)]; kernel_rfl) | (rw [if_neg (by decide +kernel)]; exact ⟨rfl, rfl⟩))
    (fun os started H enc _ => lifted os started H enc)
end PrioKeeps

end Go.Proofs.Ytmjbdjcpjaeemaa
