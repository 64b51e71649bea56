/-
  Proved: TailWaits returns true for every number and bytes: a trace waits as long as it has to from its first span on, however many come behind. No condition.
-/
import Derived.Test.YtbmhhidlmdhacaaBytes0
import Derived.Test.YtbmhhidlmdhacaaTlLaw
namespace Go.Proofs.Ytbmhhidlmdhacaa
open Go.ChangeShapes Go.WideShapes Go.ChangeAt Go.RowKit Go.Maps Go.Proofs.HeapMath Go.Proofs.TailMath

/-- One trace waits, with so many spans. -/
structure WaitI (n now c : Nat) (b : St) : Prop where
  K : b.K = []
  sp : b.sp = 100
  wait : b.wait = n
  L : ∃ l, b.L = [⟨5 + n, 0, 0, 1, l⟩] ∧ l.length ≤ c
  time : b.time ≤ now
  came : b.came ≤ 1
theorem WaitI.start (n : Nat) : offer (new 100 n 1) 5 (sp1 0 1) = (offered (at_ (new 100 n 1) 5) (sp1 0 1), 1, 0) ∧ WaitI n 5 1 (offered (at_ (new 100 n 1) 5) (sp1 0 1)) :=
  ⟨offer_taken (t := 5) (Nat.zero_le _) (by omega) rfl (by show 0 < 100; omega), rfl, rfl, rfl, ⟨[sp1 0 1], rfl, Nat.le_refl _⟩, Nat.le_refl _, Nat.le_refl _⟩
theorem WaitI.more {n now now2 c : Nat} {b : St} (h : WaitI n now c b) (h1 : now ≤ now2) (h2 : now2 ≤ 1000) (hc : c < 100) : offer b (now2 : Int) (sp1 0 1) = (offered (at_ b now2) (sp1 0 1), 1, 0) ∧ WaitI n now2 (c + 1) (offered (at_ b now2) (sp1 0 1)) := by
  obtain ⟨l, hl, hll⟩ := h.L
  have e : isNew 0 1 b.L = false := by rw [hl]; rfl
  refine ⟨offer_taken (Nat.le_trans h.time h1) (by omega) (by rw [h.K]; rfl) (by rw [h.sp, hl, tot_cons, tot_nil]; simp; omega), h.K, h.sp, h.wait, ⟨l ++ [sp1 0 1], ?_, by simp; omega⟩, Nat.le_refl _, ?_⟩
  · show put (now2 + b.wait) b.came (sp1 0 1) b.L = _
    rw [hl]
    rfl
  · show (if isNew 0 1 b.L then b.came + 1 else b.came) ≤ 1
    rw [e]
    exact h.came
theorem WaitI.early {n now c : Nat} {b : St} (h : WaitI n now c b) : dueL ((4 + n : Nat) : Int) b.L = [] ∧ WaitI n (4 + n) c (dued (at_ b (4 + n)) ((4 + n : Nat) : Int)) := by
  obtain ⟨l, hl, hll⟩ := h.L
  obtain ⟨h1, h2⟩ := due_no (now := ((4 + n : Nat) : Int)) (L := b.L) fun g hg => by rw [hl] at hg; rw [List.mem_singleton.1 hg]; simp only; omega
  exact ⟨h1, h.K, h.sp, h.wait, ⟨l, by show lateL _ b.L = _; rw [h2, hl], hll⟩, Nat.le_refl _, h.came⟩
theorem WaitI.late {n now c : Nat} {b : St} (h : WaitI n now c b) : (dueL ((5 + n : Nat) : Int) b.L).length = 1 := by
  obtain ⟨l, hl, hll⟩ := h.L
  obtain ⟨h1, h2⟩ := due_all (now := ((5 + n : Nat) : Int)) (L := b.L) fun g hg => by rw [hl] at hg; rw [List.mem_singleton.1 hg]; exact Int.le_refl _
  rw [h1, hl]
  rfl

set_option linter.unusedSimpArgs false in
set_option maxRecDepth 100000 in
set_option maxHeartbeats 2000000 in
theorem tailWaits_walk (cn : UInt8) (A0 : Option Addr) (cs : List UInt8) (cap : Nat) (w : World) (hH : Holds8 w.heap.size w A0 cs) (hcap : cs.length ≤ cap) :
    Calls Try.prog 7 #[.int .u8 (cn.toNat : Int), .slice A0 cs.length cap] w fun e w' => e = .returned (.bool true) ∧ Below w.heap.size w w' := by
  obtain ⟨N, hN⟩ : ∃ N, cs.length = N := ⟨_, rfl⟩
  rw [hN] at hcap ⊢
  obtain ⟨n, hm, hm1, hm2⟩ : ∃ m : Nat, (1 : Int) + (cn.toNat : Int) % 30 = (m : Int) ∧ 1 ≤ m ∧ m ≤ 30 := ⟨1 + cn.toNat % 30, by omega, by omega, by omega⟩
  obtain ⟨n5, hn5, hn50⟩ : ∃ m : Nat, (5 : Int) + (n : Int) = (m : Int) ∧ m = 5 + n := ⟨5 + n, by omega, rfl⟩
  obtain ⟨n4, hn4, hn40⟩ : ∃ m : Nat, (4 : Int) + (n : Int) = (m : Int) ∧ m = 4 + n := ⟨4 + n, by omega, rfl⟩
  have HNEW := Lib.hid (own_new 100 n 1 w (by omega) (by omega) (by omega))
  have u01' : u64 (sp1 0 1).hi ∧ u64 (sp1 0 1).lo := u01
  have hFirst : ∀ S bs W, Ob w W S (new 100 n 1) bs → Calls Try.prog 12 #[.pointer (some ⟨S, 0, none⟩), .int .i64 5, spV (sp1 0 1)] W fun e w' => e = .returned (.tuple #[.int .u8 1, .int .u16 0]) ∧ ∃ bs' b', Hid (Ob w w' S b' bs' ∧ WaitI n 5 1 b') := fun S bs W h =>
    (h.offer 5 (sp1 0 1) u01' (by show 0 ≤ 1000000000; omega) _ (WaitI.start n).1).mono fun e w' ⟨a, bs', y, _⟩ => ⟨a, bs', _, Lib.hid ⟨y.out, (WaitI.start n).2⟩⟩
  have hTake : ∀ S bs W b now now2 c, Ob w W S b bs → WaitI n now c b → now ≤ now2 → now2 ≤ 1000 → c < 100 → Calls Try.prog 12 #[.pointer (some ⟨S, 0, none⟩), .int .i64 (now2 : Int), spV (sp1 0 1)] W fun e w' => e = .returned (.tuple #[.int .u8 1, .int .u16 0]) ∧ ∃ bs' b', Hid (Ob w w' S b' bs' ∧ WaitI n now2 (c + 1) b') := fun S bs W b now now2 c h hR h1 h2 hc =>
    (h.offer (now2 : Int) (sp1 0 1) u01' (by have := hR.came; omega) _ (hR.more h1 h2 hc).1).mono fun e w' ⟨a, bs', y, _⟩ => ⟨a, bs', _, Lib.hid ⟨y.out, (hR.more h1 h2 hc).2⟩⟩
  have hDue1 : ∀ S bs W b now c, Ob w W S b bs → WaitI n now c b → now ≤ 4 + n → Calls Try.prog 13 #[.pointer (some ⟨S, 0, none⟩), .int .i64 (n4 : Int)] W fun e w' => ∃ V, e = .returned (.tuple #[.slice V 0 0, .int .u16 0]) ∧ ∃ bs' b', Hid (Ob w w' S b' bs' ∧ WaitI n (4 + n) c b') := fun S bs W b now c h hR h1 => by
    subst hn40
    exact (h.due (4 + n) (by have := hR.time; omega) (by omega) (by have := hR.came; omega) [] 0 _ hR.early.1 rfl rfl).mono fun e w' ⟨V, l, a, _, _, bs', y, _⟩ => ⟨V, a, bs', _, Lib.hid ⟨y.out, hR.early.2⟩⟩
  have hDue2 : ∀ S bs W b c, Ob w W S b bs → WaitI n (4 + n) c b → Calls Try.prog 13 #[.pointer (some ⟨S, 0, none⟩), .int .i64 (n5 : Int)] W fun e w' => ∃ V, e = .returned (.tuple #[.slice V 1 1, .int .u16 0]) ∧ ∃ bs' b', Hid (Ob w w' S b' bs') := fun S bs W b c h hR => by
    subst hn50
    exact (h.due (5 + n) (by have := hR.time; omega) (by omega) (by have := hR.came; omega) _ 1 _ rfl hR.late rfl).mono fun e w' ⟨V, l, a, _, _, bs', y, _⟩ => ⟨V, a, bs', _, y⟩
  have hNextOf : ∀ {S bs W b now c}, Hid (Ob w W S b bs ∧ WaitI n now c b) → Calls Try.prog 18 #[.pointer (some ⟨S, 0, none⟩)] W fun e w' => e = .returned (.tuple #[.int .i64 (n5 : Int), .bool true]) ∧ Hid (Ob w w' S b bs ∧ WaitI n now c b) := fun {S bs W b now c} h => by
    subst hn50
    obtain ⟨l, hl, _⟩ := h.out.2.L
    have := next_any W h.out.1.1
    rw [hl] at this
    exact this.mono fun e w' ⟨x, y⟩ => ⟨x, Lib.hid ⟨h.out.1.later y, h.out.2⟩⟩
  unfold spV sp1 at hFirst hTake
  have HFIRST := Lib.hid hFirst
  have HTAKE := Lib.hid hTake
  have HDUE1 := Lib.hid hDue1
  have HDUE2 := Lib.hid hDue2
  have HH := Lib.hid hH
  have HN := Lib.hid hN
  have HN5 := Lib.hid (show n5 = 5 + n from hn50)
  clear hFirst hTake hDue1 hDue2 hH hN u01' hn50 hn40
  go_enter Try.func7, Try.ntmps7
  go_wp2_with fail
  refine HNEW.out.mono ?_
  rintro e w1 ⟨S, bs, rfl, HO⟩
  by_cases hlong : 60 < N
  · have t1 : decide ((60 : Int) < (N : Int)) = true := by simp; omega
    have HK := Lib.hid (own_known HO.out)
    go_wp2_with fail
    refine HK.out.mono ?_
    rintro e w2 ⟨rfl, HO2, _⟩
    have HE := Lib.hid HO2.out.2.1
    go_wp2_with fail
    go_ret
    exact ⟨rfl, HE.out⟩
  · have t1 : decide ((60 : Int) < (N : Int)) = false := by simp; omega
    have hN60 : N ≤ 60 := by omega
    clear hlong HNEW
    go_wp2_with fail
    refine (HFIRST.out _ _ _ HO.out).mono ?_
    rintro e w2 ⟨rfl, bs2, b2, HB2⟩
    clear HO HFIRST
    go_wp2_with fail
    go_loopw [8, 7] (fun iv nv wr => ∃ (i now : Nat) (bs : List Nat) (b : St), iv = .int .i64 (i : Int) ∧ nv = .int .i64 (now : Int) ∧ i ≤ N ∧ now ≤ 4 + n ∧ Hid (Ob w wr S b bs ∧ WaitI n now (i + 1) b)) (fun iv _ _ => N - (intOf iv).toNat)
    case atStart => exact ⟨0, 5, bs2, b2, rfl, rfl, by omega, by omega, HB2⟩
    case round =>
      clear HB2 t1
      obtain ⟨i, now, bs3, b3, rfl, rfl, hi, hnow, HB⟩ := hrel
      by_cases hin : i < N
      · have di : decide ((i : Int) < (N : Int)) = true := by simp; omega
        obtain ⟨b0, o0, rfl, hb0, hc0⟩ := HH.out (by rw [HN.out]; omega)
        obtain ⟨x, hx⟩ : ∃ x : UInt8, cs.getD i 0 = x := ⟨_, rfl⟩
        have hcell := (HB.out.1.2.1.cell (p := ⟨b0, o0 + i, none⟩) hb0).trans (hc0 i (by rw [HN.out]; exact hin))
        rw [hx] at hcell
        have hcell' : wr.cell? ⟨b0, o0 + i, none⟩ = some (.int .u8 (x.toNat : Int)) := hcell
        have hx1 := x.toNat_lt
        obtain ⟨r, hr, hr2⟩ : ∃ r : Nat, (x.toNat : Int) % 3 = (r : Int) ∧ r ≤ 2 := ⟨x.toNat % 3, by omega, by omega⟩
        obtain ⟨now2, hnow2, hnow3⟩ : ∃ r2 : Nat, (now : Int) + (r : Int) = (r2 : Int) ∧ r2 = now + r := ⟨now + r, by omega, rfl⟩
        have HNW := Lib.hid hnow3
        have hnb : now2 ≤ 40 := by omega
        clear hcell hx hc0 hnow3
        by_cases hgo : now2 < n5
        · have dg : decide ((now2 : Int) < (n5 : Int)) = true := by simp; omega
          have HC := Lib.hid (HTAKE.out S bs3 wr b3 now now2 (i + 1) HB.out.1 HB.out.2 (by rw [HNW.out]; omega) (by omega) (by omega))
          go_wp2_with fail
          refine HC.out.mono ?_
          rintro e w3 ⟨rfl, bs4, b4, HB4⟩
          have hnext : now2 ≤ 4 + n := by have := HN5.out; omega
          go_wp2_with fail
          go_roundw
          case rel => exact ⟨i + 1, now2, bs4, b4, by simp, rfl, by omega, hnext, HB4⟩
          case measure => simp [intOf]; omega
        · have dg : decide ((now2 : Int) < (n5 : Int)) = false := by simp; omega
          have dgn : decide (now2 < n5) = false := by simp; omega
          clear hgo
          · skip
            have HNEXT := Lib.hid (hNextOf HB)
            clear HTAKE
            go_wp2_with fail
            refine HNEXT.out.mono ?_
            rintro e w3 ⟨rfl, HB3⟩
            have HC := Lib.hid (HDUE1.out _ _ _ _ _ _ HB3.out.1 HB3.out.2 hnow)
            go_wp2_with fail
            refine HC.out.mono ?_
            rintro e w4 ⟨V4, rfl, bs4, b4, HB4⟩
            have HC2 := Lib.hid (HDUE2.out _ _ _ _ _ HB4.out.1 HB4.out.2)
            go_wp2_with fail
            refine HC2.out.mono ?_
            rintro e w5 ⟨V5, rfl, bs5, b5, HB5⟩
            have HK := Lib.hid (own_known HB5.out)
            go_wp2_with fail
            refine HK.out.mono ?_
            rintro e w6 ⟨rfl, HO6, _⟩
            have HE := Lib.hid HO6.out.2.1
            go_wp2_with fail
            go_ret
            exact ⟨rfl, HE.out⟩
      · obtain rfl : i = N := by omega
        have di : decide ((i : Int) < (i : Int)) = false := by simp
        · skip
          · skip
            have HNEXT := Lib.hid (hNextOf HB)
            clear HTAKE
            go_wp2_with fail
            refine HNEXT.out.mono ?_
            rintro e w3 ⟨rfl, HB3⟩
            have HC := Lib.hid (HDUE1.out _ _ _ _ _ _ HB3.out.1 HB3.out.2 hnow)
            go_wp2_with fail
            refine HC.out.mono ?_
            rintro e w4 ⟨V4, rfl, bs4, b4, HB4⟩
            have HC2 := Lib.hid (HDUE2.out _ _ _ _ _ HB4.out.1 HB4.out.2)
            go_wp2_with fail
            refine HC2.out.mono ?_
            rintro e w5 ⟨V5, rfl, bs5, b5, HB5⟩
            have HK := Lib.hid (own_known HB5.out)
            go_wp2_with fail
            refine HK.out.mono ?_
            rintro e w6 ⟨rfl, HO6, _⟩
            have HE := Lib.hid HO6.out.2.1
            go_wp2_with fail
            go_ret
            exact ⟨rfl, HE.out⟩
namespace TailWaits
set_option linter.unusedSimpArgs false in
set_option maxRecDepth 100000 in
theorem lifted (os : Os) (started : os.Started) (H : Type) (enc : TypeId × Value → H) :
    ReturnsInHanded {} Try.checked os 7 .any (Rows.tailWaitsSpec.pre6 enc Try.prog Try.f7 Rows.tailWaitsRow.domain false) (Rows.tailWaitsSpec.post enc Try.prog Try.f7 false true false false) := by
  refine returnsInHanded_of_change (C := Try.checked) own started (by kernel_rfl) Try.func7
    (ChangeSpec.witness6 (enc := enc) (C := Try.checked) false ⟨#[], #[.int .u8 0, .slice none 0 0], []⟩ 8 (by kernel_rfl) (by kernel_rfl) (by kernel_rfl) (by kernel_rfl)) ?_
  intro W base args ds gs before hval0 hW _ _
  have hval : ∀ (j : Nat) t v, Try.f7.params[j]? = some t → args[j]? = some v → Value.okWide Try.prog W .any base t v := hval0
  have hW' := hW
  obtain ⟨p, q, hA0, hV, rfl, _, _⟩ := hW
  have hA : DataW.TrodAll enc Try.prog W 0 (fun _ => true) true Try.f7.params.toList args.toList ds p := hA0
  rw [Try.params7] at hA hval
  obtain ⟨v0, vs0, d0, ds0, p0, q0, hargs, rfl, rfl, h0, r0⟩ := trodAll_cons hA
  obtain ⟨v1, vs1, d1, ds1, p1, q1, rfl, rfl, rfl, h1, r1⟩ := trodAll_cons r0
  obtain ⟨rfl, rfl, rfl⟩ := trodAll_nil r1
  obtain rfl : args = #[v0, v1] := by cases args; simp_all
  obtain ⟨rfl, rfl⟩ := trodVars_none hV
  obtain ⟨a0, rfl, rfl, rfl, w0⟩ := open_int Try.underlying5 (hval 0 5 v0 rfl rfl) h0
  have k0 := wf_u8 w0
  obtain ⟨n0, rfl⟩ : ∃ u : UInt8, a0 = (u.toNat : Int) := ⟨UInt8.ofNat a0.toNat, by simp; omega⟩
  obtain ⟨A1, cs1, cap1, rfl, l1, m1, b1, again1⟩ := arg_bytes (hval 1 22 v1 rfl rfl) h1
  have x1 := arg_extra h1
  clear hA0 hval0
  simp only [List.append_nil] at hW'
  refine (tailWaits_walk n0 A1 cs1 cap1 W b1 l1).mono fun e W' ⟨he, hg⟩ => ?_
  subst he
  exact ⟨_, rfl, true_last hW' rfl (by kernel_rfl) Try.underlying4 rfl rfl rfl (of_decide_eq_true (by kernel_rfl)) hg⟩

/-- **TailWaits, at every input.** -/
theorem proved : Rows.TailWaitsSaid :=
  OpenClaim.holds_of_wide 7 Try.f7 rfl rfl rfl rfl rfl rfl rfl ⟨rfl, rfl, rfl, rfl, rfl⟩ rfl rfl rfl rfl rfl (by kernel_rfl) Try.func7 (by kernel_rfl)
    (of_decide_eq_true (by kernel_rfl)) (by unfold Func.isWrapper; first | (rw [if_pos (by decide +kernel)]; kernel_rfl) | (rw [if_neg (by decide +kernel)]; exact ⟨rfl, rfl⟩))
    (fun os started H enc _ => lifted os started H enc)
end TailWaits

end Go.Proofs.Ytbmhhidlmdhacaa
