/-
  Proved: TailTold returns true for every decision and bytes: of a trace that was decided no span waits any more, as long as that is known. No condition.
-/
import Derived.Test.YtbmhhidlmdhacaaBytes0
import Derived.Test.YtbmhhidlmdhacaaTlLaw
namespace Go.Proofs.Ytbmhhidlmdhacaa
open Go.ChangeShapes Go.WideShapes Go.ChangeAt Go.RowKit Go.Maps Go.Proofs.HeapMath Go.Proofs.TailMath

/-- Behind i rounds. -/
structure ToldI (ay : Nat) (i : Nat) (b : St) : Prop where
  K : b.K = [⟨1, 2, ay⟩]
  sp : b.sp = 50
  tot_ : tot b.L = i
  time : b.time ≤ i
  came : b.came ≤ i
theorem ToldI.start (keep : Bool) : ToldI (ayOf keep) 0 (decided (new 50 5 10) 1 2 (ayOf keep)) := ⟨rfl, rfl, rfl, Nat.le_refl _, Nat.le_refl _⟩
theorem ToldI.one {ay i : Nat} {b : St} (h : ToldI ay i b) (hi : i ≤ 50) : offer b (i : Int) (sp1 1 2) = (at_ b i, ay, 0) := offer_known (k := ⟨1, 2, ay⟩) h.time (by omega) (by rw [h.K]; rfl)
theorem ToldI.two {ay i : Nat} {b : St} (h : ToldI ay i b) (hi : i < 50) : offer (at_ b i) (i : Int) (sp1 1 3) = (offered (at_ (at_ b i) i) (sp1 1 3), 1, 0) := offer_taken (Nat.le_refl i) (by omega) (by show askK 1 3 b.K = none; rw [h.K]; rfl) (by show tot b.L < b.sp; rw [h.sp, h.tot_]; exact hi)
theorem ToldI.next {ay i : Nat} {b : St} (h : ToldI ay i b) (hv : Iv b) (hi : i < 50) : ToldI ay (i + 1) (offered (at_ (at_ b i) i) (sp1 1 3)) :=
  ⟨h.K, h.sp, by rw [tot_offered ((hv.at_ h.time (by omega)).at_ (t := i) (Nat.le_refl i) (by omega))]; show tot b.L + 1 = _; rw [h.tot_], by show i ≤ i + 1; omega, by have := came_offered (at_ (at_ b i) i) (sp1 1 3); have h2 : (at_ (at_ b i) i).came = b.came := rfl; have := h.came; omega⟩
theorem u12 : u64 (sp1 1 2).hi ∧ u64 (sp1 1 2).lo := ⟨by show 1 < 18446744073709551616; decide, by show 2 < 18446744073709551616; decide⟩
theorem u13 : u64 (sp1 1 3).hi ∧ u64 (sp1 1 3).lo := ⟨by show 1 < 18446744073709551616; decide, by show 3 < 18446744073709551616; decide⟩

set_option linter.unusedSimpArgs false in
set_option maxRecDepth 100000 in
set_option maxHeartbeats 2000000 in
theorem tailTold_walk (keep : Bool) (A : Option Addr) (n cap : Nat) (hn : n ≤ 9223372036854775807) (w : World) :
    Calls Try.prog 4 #[.bool keep, .slice A n cap] w fun e w' => e = .returned (.bool true) ∧ Below w.heap.size w w' := by
  have HNEW := Lib.hid (own_new 50 5 10 w (by omega) (by omega) (by omega))
  obtain ⟨ay, hay⟩ : ∃ a, ayOf keep = a := ⟨_, rfl⟩
  have hDec : ∀ S bs W, Ob w W S (new 50 5 10) bs → Calls Try.prog 14 #[.pointer (some ⟨S, 0, none⟩), .int .u64 1, .int .u64 2, .bool keep] W fun e w' => e = .returned (.tuple #[]) ∧ ∃ bs' b, Hid (Ob w w' S b bs' ∧ ToldI ay 0 b) := fun S bs W h =>
    (h.decide 1 2 keep u12.1 u12.2 _ rfl).mono fun e w' ⟨x, bs', y, _⟩ => ⟨x, bs', _, Lib.hid ⟨y.out, hay ▸ ToldI.start keep⟩⟩
  have hOne : ∀ S bs W b (i : Nat), Ob w W S b bs → ToldI ay i b → i ≤ 50 → Calls Try.prog 12 #[.pointer (some ⟨S, 0, none⟩), .int .i64 (i : Int), spV (sp1 1 2)] W fun e w' => e = .returned (.tuple #[.int .u8 (ay : Int), .int .u16 0]) ∧ ∃ bs', Hid (Ob w w' S (at_ b i) bs') := fun S bs W b i h hI hi =>
    (h.offer (i : Int) (sp1 1 2) u12 (by have := hI.came; omega) _ (hI.one hi)).mono fun e w' ⟨x, bs', y, _⟩ => ⟨x, bs', y⟩
  have hTwo : ∀ S bs W b (i : Nat), Ob w W S (at_ b i) bs → Iv b → ToldI ay i b → i < 50 → Calls Try.prog 12 #[.pointer (some ⟨S, 0, none⟩), .int .i64 (i : Int), spV (sp1 1 3)] W fun e w' => e = .returned (.tuple #[.int .u8 1, .int .u16 0]) ∧ ∃ bs' b', Hid (Ob w w' S b' bs' ∧ ToldI ay (i + 1) b') := fun S bs W b i h hv hI hi =>
    (h.offer (i : Int) (sp1 1 3) u13 (by have := hI.came; show b.came ≤ _; omega) _ (hI.two hi)).mono fun e w' ⟨x, bs', y, _⟩ => ⟨x, bs', _, Lib.hid ⟨y.out, hI.next hv hi⟩⟩
  unfold spV sp1 at hOne hTwo
  have HDEC := Lib.hid hDec
  have HONE := Lib.hid hOne
  have HTWO := Lib.hid hTwo
  clear hDec hOne hTwo
  go_enter Try.func4, Try.ntmps4
  go_wp2_with fail
  refine HNEW.out.mono ?_
  rintro e w1 ⟨S, bs, rfl, HO⟩
  by_cases hlong : 50 < n
  · have t1 : decide ((50 : Int) < (n : Int)) = true := by simp; omega
    have HK := Lib.hid (own_known HO.out)
    go_wp2_with fail
    refine HK.out.mono ?_
    rintro e w2 ⟨rfl, HO2, _⟩
    have HE := Lib.hid HO2.out.2.1
    go_wp2_with fail
    go_ret
    exact ⟨rfl, HE.out⟩
  · have t1 : decide ((50 : Int) < (n : Int)) = false := by simp; omega
    have hn50 : n ≤ 50 := by omega
    clear hlong
    go_upto_if 25 with fail
    go_cut [6] (fun s6 wx => s6 = .int .u8 (ay : Int) ∧ Hid (wx = w1))
    case first =>
      cases keep with
      | true =>
        go_wp2_with fail
        go_meet
        exact ⟨by rw [← hay]; rfl, Lib.hid rfl⟩
      | false =>
        go_wp2_with fail
        go_meet
        exact ⟨by rw [← hay]; rfl, Lib.hid rfl⟩
    case rest =>
      obtain ⟨rfl, hwx⟩ := hcut
      obtain rfl := hwx.out
      go_wp2_with fail
      refine (HDEC.out _ _ _ HO.out).mono ?_
      rintro e w2 ⟨rfl, bs2, b2, HB2⟩
      clear HO HDEC HNEW
      go_wp2_with fail
      go_loopw [7] (fun iv wr => ∃ (i : Nat) (bs : List Nat) (b : St), iv = .int .i64 (i : Int) ∧ i ≤ n ∧ Hid (Ob w wr S b bs ∧ ToldI ay i b)) (fun iv _ => n - (intOf iv).toNat)
      case atStart => exact ⟨0, bs2, b2, rfl, by omega, HB2⟩
      case round =>
        clear HB2
        obtain ⟨i, bs, b, rfl, hi, HB⟩ := hrel
        by_cases hlt : i < n
        · have ti : decide ((i : Int) < (n : Int)) = true := by simp; omega
          go_wp2_with fail
          refine (HONE.out _ _ _ _ i HB.out.1 HB.out.2 (by omega)).mono ?_
          rintro e w3 ⟨rfl, bs3, HB3⟩
          go_wp2_with fail
          refine (HTWO.out _ _ _ _ i HB3.out HB.out.1.1.iv HB.out.2 (by omega)).mono ?_
          rintro e w4 ⟨rfl, bs4, b4, HB4⟩
          go_wp2_with fail
          go_roundw
          case rel => exact ⟨i + 1, bs4, b4, by simp, by omega, HB4⟩
          case measure => simp [intOf]; omega
        · obtain rfl : i = n := by omega
          have ti : decide ((i : Int) < (i : Int)) = false := by simp
          have HK := Lib.hid (own_known HB.out.1)
          go_wp2_with fail
          refine HK.out.mono ?_
          rintro e w5 ⟨rfl, HO5, _⟩
          have HLEN := Lib.hid (own_len HO5.out i HB.out.2.tot_)
          have HE := Lib.hid HO5.out.2.1
          go_wp2_with fail
          refine HLEN.out.mono ?_
          rintro e w6 ⟨rfl, rfl⟩
          go_wp2_with fail
          go_ret
          exact ⟨rfl, HE.out⟩
namespace TailTold
set_option linter.unusedSimpArgs false in
set_option maxRecDepth 100000 in
theorem lifted (os : Os) (started : os.Started) (H : Type) (enc : TypeId × Value → H) :
    ReturnsInHanded {} Try.checked os 4 .any (Rows.tailToldSpec.pre6 enc Try.prog Try.f4 Rows.tailToldRow.domain false) (Rows.tailToldSpec.post enc Try.prog Try.f4 false true false false) := by
  refine returnsInHanded_of_change (C := Try.checked) own started (by kernel_rfl) Try.func4
    (ChangeSpec.witness6 (enc := enc) (C := Try.checked) false ⟨#[], #[.bool false, .slice none 0 0], []⟩ 8 (by kernel_rfl) (by kernel_rfl) (by kernel_rfl) (by kernel_rfl)) ?_
  intro W base args ds gs before hval0 hW _ _
  have hval : ∀ (j : Nat) t v, Try.f4.params[j]? = some t → args[j]? = some v → Value.okWide Try.prog W .any base t v := hval0
  have hW' := hW
  obtain ⟨p, q, hA0, hV, rfl, _, _⟩ := hW
  have hA : DataW.TrodAll enc Try.prog W 0 (fun _ => true) true Try.f4.params.toList args.toList ds p := hA0
  rw [Try.params4] at hA hval
  obtain ⟨v0, vs0, d0, ds0, p0, q0, hargs, rfl, rfl, h0, r0⟩ := trodAll_cons hA
  obtain ⟨v1, vs1, d1, ds1, p1, q1, rfl, rfl, rfl, h1, r1⟩ := trodAll_cons r0
  obtain ⟨rfl, rfl, rfl⟩ := trodAll_nil r1
  obtain rfl : args = #[v0, v1] := by cases args; simp_all
  obtain ⟨rfl, rfl⟩ := trodVars_none hV
  obtain ⟨b0, rfl, rfl, rfl⟩ := open_bool Try.underlying4 (hval 0 4 v0 rfl rfl) h0
  obtain ⟨A1, cs1, cap1, rfl, l1, m1, b1, again1⟩ := arg_bytes (hval 1 22 v1 rfl rfl) h1
  have x1 := arg_extra h1
  clear hA0 hval0
  simp only [List.append_nil] at hW'
  refine (tailTold_walk b0 A1 cs1.length cap1 (by omega) W).mono fun e W' ⟨he, hg⟩ => ?_
  subst he
  exact ⟨_, rfl, true_last hW' rfl (by kernel_rfl) Try.underlying4 rfl rfl rfl (of_decide_eq_true (by kernel_rfl)) hg⟩

/-- **TailTold, at every input.** -/
theorem proved : Rows.TailToldSaid :=
  OpenClaim.holds_of_wide 4 Try.f4 rfl rfl rfl rfl rfl rfl rfl ⟨rfl, rfl, rfl, rfl, rfl⟩ rfl rfl rfl rfl rfl (by kernel_rfl) Try.func4 (by kernel_rfl)
    (of_decide_eq_true (by kernel_rfl)) (by unfold Func.isWrapper; first | (rw [if_pos (by decide +kernel)]; kernel_rfl) | (rw [if_neg (by decide +kernel)]; exact ⟨rfl, rfl⟩))
    (fun os started H enc _ => lifted os started H enc)
end TailTold

end Go.Proofs.Ytbmhhidlmdhacaa
