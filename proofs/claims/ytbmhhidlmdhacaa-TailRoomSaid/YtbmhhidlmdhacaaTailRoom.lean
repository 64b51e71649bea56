/-
  Proved: TailRoom returns true for every number and bytes: what is due makes room; as many as may wait, and no more. No condition.
-/
import Derived.Test.YtbmhhidlmdhacaaBytes0
import Derived.Test.YtbmhhidlmdhacaaTlLaw
namespace Go.Proofs.Ytbmhhidlmdhacaa
open Go.ChangeShapes Go.WideShapes Go.ChangeAt Go.RowKit Go.Maps Go.Proofs.HeapMath Go.Proofs.TailMath

/-- In a round: so many wait. -/
structure RoomI (m t many c : Nat) (b : St) : Prop where
  K : b.K = []
  sp : b.sp = m
  wait : b.wait = 4
  tot_ : tot b.L = many
  time : b.time ≤ t
  came : b.came ≤ c
theorem RoomI.take {m t many c x : Nat} {b : St} (h : RoomI m t many c b) (hv : Iv b) (ht : t ≤ 1000) (hm : many < m) : offer b (t : Int) (sp1 0 x) = (offered (at_ b t) (sp1 0 x), 1, 0) ∧ RoomI m t (many + 1) (c + 1) (offered (at_ b t) (sp1 0 x)) :=
  ⟨offer_taken h.time (by omega) (by rw [h.K]; rfl) (by rw [h.sp, h.tot_]; exact hm), h.K, h.sp, h.wait, by rw [tot_offered (hv.at_ h.time (by omega))]; show tot b.L + 1 = _; rw [h.tot_], Nat.le_refl _, by have := came_offered (at_ b t) (sp1 0 x); have h2 : (at_ b t).came = b.came := rfl; have := h.came; omega⟩
theorem RoomI.busy {m t many c x : Nat} {b : St} (h : RoomI m t many c b) (ht : t ≤ 1000) (hm : many = m) : offer b (t : Int) (sp1 0 x) = (at_ b t, 2, 0) ∧ RoomI m t many (c + 1) (at_ b t) :=
  ⟨offer_busy h.time (by omega) (by rw [h.K]; rfl) (by rw [h.sp, h.tot_]; exact hm), h.K, h.sp, h.wait, h.tot_, Nat.le_refl _, Nat.le_succ_of_le h.came⟩
theorem RoomI.due {m t many c : Nat} {b : St} (h : RoomI m t many c b) (hv : Iv b) : dueL ((t + 4 : Nat) : Int) b.L = b.L ∧ RoomI m (t + 10) 0 c (dued (at_ b (t + 4)) ((t + 4 : Nat) : Int)) := by
  obtain ⟨h1, h2⟩ := due_all (now := ((t + 4 : Nat) : Int)) (L := b.L) fun g hg => by
    have := (hv.L.ok g hg).2.1
    have h3 := h.time
    have h4 := h.wait
    omega
  exact ⟨h1, h.K, h.sp, h.wait, by show tot (lateL _ b.L) = 0; rw [h2]; rfl, by show t + 4 ≤ t + 10; omega, h.came⟩

set_option linter.unusedSimpArgs false in
set_option maxRecDepth 100000 in
set_option maxHeartbeats 2000000 in
theorem tailRoom_walk (cn : UInt8) (A0 : Option Addr) (cs : List UInt8) (cap : Nat) (w : World) (hH : Holds8 w.heap.size w A0 cs) (hcap : cs.length ≤ cap) :
    Calls Try.prog 9 #[.int .u8 (cn.toNat : Int), .slice A0 cs.length cap] w fun e w' => e = .returned (.bool true) ∧ Below w.heap.size w w' := by
  obtain ⟨N, hN⟩ : ∃ N, cs.length = N := ⟨_, rfl⟩
  rw [hN] at hcap ⊢
  obtain ⟨m, hm, hm1, hm2⟩ : ∃ m : Nat, (1 : Int) + (cn.toNat : Int) % 20 = (m : Int) ∧ 1 ≤ m ∧ m ≤ 20 := ⟨1 + cn.toNat % 20, by omega, by omega, by omega⟩
  have HNEW := Lib.hid (own_new m 4 1 w (by omega) (by omega) (by omega))
  have hTake : ∀ S bs W b t many c x, Ob w W S b bs → RoomI m t many c b → t ≤ 1000 → c ≤ 1000 → many < m → x ≤ 256 → Calls Try.prog 12 #[.pointer (some ⟨S, 0, none⟩), .int .i64 (t : Int), spV (sp1 0 x)] W fun e w' => e = .returned (.tuple #[.int .u8 1, .int .u16 0]) ∧ ∃ bs' b', Hid (Ob w w' S b' bs' ∧ RoomI m t (many + 1) (c + 1) b') := fun S bs W b t many c x h hR ht hc hm hx =>
    (h.offer (t : Int) (sp1 0 x) ⟨by show 0 < 18446744073709551616; decide, by show x < 18446744073709551616; omega⟩ (by have := hR.came; omega) _ (hR.take h.1.iv ht hm).1).mono fun e w' ⟨a, bs', y, _⟩ => ⟨a, bs', _, Lib.hid ⟨y.out, (hR.take h.1.iv ht hm).2⟩⟩
  have hBusy : ∀ S bs W b t many c x, Ob w W S b bs → RoomI m t many c b → t ≤ 1000 → c ≤ 1000 → many = m → x ≤ 256 → Calls Try.prog 12 #[.pointer (some ⟨S, 0, none⟩), .int .i64 (t : Int), spV (sp1 0 x)] W fun e w' => e = .returned (.tuple #[.int .u8 2, .int .u16 0]) ∧ ∃ bs' b', Hid (Ob w w' S b' bs' ∧ RoomI m t many (c + 1) b') := fun S bs W b t many c x h hR ht hc hm hx =>
    (h.offer (t : Int) (sp1 0 x) ⟨by show 0 < 18446744073709551616; decide, by show x < 18446744073709551616; omega⟩ (by have := hR.came; omega) _ (hR.busy ht hm).1).mono fun e w' ⟨a, bs', y, _⟩ => ⟨a, bs', _, Lib.hid ⟨y.out, (hR.busy (x := x) ht hm).2⟩⟩
  have hDue : ∀ S bs W b (t many c t4 : Nat), t4 = t + 4 → Ob w W S b bs → RoomI m t many c b → t ≤ 1000 → c ≤ 1000 → Calls Try.prog 13 #[.pointer (some ⟨S, 0, none⟩), .int .i64 (t4 : Int)] W fun e w' => ∃ V n, e = .returned (.tuple #[.slice V n n, .int .u16 0]) ∧ ∃ bs' b', Hid (Ob w w' S b' bs' ∧ RoomI m (t + 10) 0 c b') := fun S bs W b t many c t4 h4 h hR ht hc => by
    subst h4
    exact (h.due (t + 4) (by have := hR.time; omega) (by omega) (by have := hR.came; omega) _ _ _ rfl rfl rfl).mono fun e w' ⟨V, l, a, _, _, bs', y, _⟩ => ⟨V, _, a, bs', _, Lib.hid ⟨y.out, (hR.due h.1.iv).2⟩⟩
  unfold spV sp1 at hTake hBusy
  have HTAKE := Lib.hid hTake
  have HBUSY := Lib.hid hBusy
  have HDUE := Lib.hid hDue
  have HH := Lib.hid hH
  have HN := Lib.hid hN
  clear hTake hBusy hDue hH hN
  go_enter Try.func9, Try.ntmps9
  go_wp2_with fail
  refine HNEW.out.mono ?_
  rintro e w1 ⟨S, bs, rfl, HO⟩
  by_cases hlong : 60 < N
  · have t1 : decide ((60 : Int) < (N : Int)) = true := by simp; omega
    have HK := Lib.hid (own_known HO.out)
    go_wp2_with fail
    refine HK.out.mono ?_
    rintro e w2 ⟨rfl, HO2, _⟩
    have HE := Lib.hid HO2.out.2.1
    go_wp2_with fail
    go_ret
    exact ⟨rfl, HE.out⟩
  · have t1 : decide ((60 : Int) < (N : Int)) = false := by simp; omega
    have hN60 : N ≤ 60 := by omega
    clear hlong HNEW
    go_wp2_with fail
    go_loopw [7] (fun kv wr => ∃ (k : Nat) (bs : List Nat) (b : St), kv = .int .i64 (k : Int) ∧ k ≤ 3 ∧ Hid (Ob w wr S b bs ∧ RoomI m (10 * k) 0 (60 * k) b)) (fun kv _ => 3 - (intOf kv).toNat)
    case atStart => exact ⟨0, bs, _, rfl, by omega, Lib.hid ⟨HO.out, rfl, rfl, rfl, rfl, Nat.le_refl _, Nat.le_refl _⟩⟩
    case round =>
      clear HO t1
      obtain ⟨k, bs1, b1, rfl, hk, HB⟩ := hrel
      by_cases hlt : k < 3
      · have dl : decide ((k : Int) < 3) = true := by simp; omega
        obtain ⟨t, ht, ht0⟩ : ∃ t : Nat, (10 : Int) * (k : Int) = (t : Int) ∧ t = 10 * k := ⟨10 * k, by omega, rfl⟩
        obtain ⟨t4, ht4, ht40⟩ : ∃ t4 : Nat, (t : Int) + 4 = (t4 : Int) ∧ t4 = t + 4 := ⟨t + 4, by omega, rfl⟩
        have HT := Lib.hid (show t = 10 * k ∧ t4 = t + 4 from ⟨ht0, ht40⟩)
        rw [← ht0] at HB
        have ht20 : t ≤ 20 := by omega
        clear ht0 ht40
        go_wp2_with fail
        go_loopw [9, 8] (fun iv mv wr => ∃ (i many : Nat) (bs : List Nat) (b : St), iv = .int .i64 (i : Int) ∧ mv = .int .i64 (many : Int) ∧ i ≤ N ∧ many ≤ m ∧ Hid (Ob w wr S b bs ∧ RoomI m t many (60 * k + i) b)) (fun iv _ _ => N - (intOf iv).toNat)
        case atStart => exact ⟨0, 0, bs1, b1, rfl, rfl, by omega, by omega, HB⟩
        case round =>
          clear HB
          obtain ⟨i, many, bs2, b2, rfl, rfl, hi, hmany, HB⟩ := hrel
          by_cases hin : i < N
          · have di : decide ((i : Int) < (N : Int)) = true := by simp; omega
            obtain ⟨b0, o0, rfl, hb0, hc0⟩ := HH.out (by rw [HN.out]; omega)
            obtain ⟨x, hx⟩ : ∃ x : UInt8, cs.getD i 0 = x := ⟨_, rfl⟩
            have hcell := (HB.out.1.2.1.cell (p := ⟨b0, o0 + i, none⟩) hb0).trans (hc0 i (by rw [HN.out]; exact hin))
            rw [hx] at hcell
            have hcell' : wr.cell? ⟨b0, o0 + i, none⟩ = some (.int .u8 (x.toNat : Int)) := hcell
            have hx1 := x.toNat_lt
            obtain ⟨y, hy, hy2⟩ : ∃ y : Nat, (x.toNat : Int) + 1 = (y : Int) ∧ y ≤ 256 := ⟨x.toNat + 1, by omega, by omega⟩
            clear hcell hx hc0
            by_cases hroom : many < m
            · have dr : decide ((many : Int) < (m : Int)) = true := by simp; omega
              have HC := Lib.hid (HTAKE.out S bs2 wr b2 t many (60 * k + i) y HB.out.1 HB.out.2 (by omega) (by omega) hroom hy2)
              go_wp2_with fail
              refine HC.out.mono ?_
              rintro e w2 ⟨rfl, bs3, b3, HB3⟩
              have HLEN := Lib.hid (own_len HB3.out.1 (many + 1) HB3.out.2.tot_)
              go_wp2_with fail
              refine HLEN.out.mono ?_
              rintro e w3 ⟨rfl, rfl⟩
              go_wp2_with fail
              go_roundw
              case rel => exact ⟨i + 1, many + 1, bs3, b3, by simp, by simp, by omega, by omega, HB3⟩
              case measure => simp [intOf]; omega
            · have dr : decide ((many : Int) < (m : Int)) = false := by simp; omega
              have HC := Lib.hid (HBUSY.out S bs2 wr b2 t many (60 * k + i) y HB.out.1 HB.out.2 (by omega) (by omega) (by omega) hy2)
              go_wp2_with fail
              refine HC.out.mono ?_
              rintro e w2 ⟨rfl, bs3, b3, HB3⟩
              have HLEN := Lib.hid (own_len HB3.out.1 many HB3.out.2.tot_)
              go_wp2_with fail
              refine HLEN.out.mono ?_
              rintro e w3 ⟨rfl, rfl⟩
              go_wp2_with fail
              go_roundw
              case rel => exact ⟨i + 1, many, bs3, b3, by simp, rfl, by omega, by omega, HB3⟩
              case measure => simp [intOf]; omega
          · obtain rfl : i = N := by omega
            have di : decide ((i : Int) < (i : Int)) = false := by simp
            have HC := Lib.hid (HDUE.out S bs2 wr b2 t many (60 * k + i) t4 HT.out.2 HB.out.1 HB.out.2 (by omega) (by omega))
            go_wp2_with fail
            refine HC.out.mono ?_
            rintro e w2 ⟨V, nV, rfl, bs3, b3, HB3⟩
            have HLEN := Lib.hid (own_len HB3.out.1 0 HB3.out.2.tot_)
            have hnx : RoomI m (10 * (k + 1)) 0 (60 * (k + 1)) b3 := by
              have h3 := HB3.out.2
              have e : t + 10 = 10 * (k + 1) := by have := HT.out.1; omega
              exact ⟨h3.K, h3.sp, h3.wait, h3.tot_, by have := h3.time; omega, by have := h3.came; omega⟩
            have HNX := Lib.hid hnx
            clear hnx
            go_wp2_with fail
            refine HLEN.out.mono ?_
            rintro e w3 ⟨rfl, rfl⟩
            go_wp2_with fail
            go_roundw
            case rel => exact ⟨k + 1, bs3, b3, by simp, by omega, Lib.hid ⟨HB3.out.1, HNX.out⟩⟩
            case measure => simp [intOf]; omega
      · obtain rfl : k = 3 := by omega
        have HK := Lib.hid (own_known HB.out.1)
        go_wp2_with fail
        refine HK.out.mono ?_
        rintro e w2 ⟨rfl, HO2, _⟩
        have HE := Lib.hid HO2.out.2.1
        go_wp2_with fail
        go_ret
        exact ⟨rfl, HE.out⟩
namespace TailRoom
set_option linter.unusedSimpArgs false in
set_option maxRecDepth 100000 in
theorem lifted (os : Os) (started : os.Started) (H : Type) (enc : TypeId × Value → H) :
    ReturnsInHanded {} Try.checked os 9 .any (Rows.tailRoomSpec.pre6 enc Try.prog Try.f9 Rows.tailRoomRow.domain false) (Rows.tailRoomSpec.post enc Try.prog Try.f9 false true false false) := by
  refine returnsInHanded_of_change (C := Try.checked) own started (by kernel_rfl) Try.func9
    (ChangeSpec.witness6 (enc := enc) (C := Try.checked) false ⟨#[], #[.int .u8 0, .slice none 0 0], []⟩ 8 (by kernel_rfl) (by kernel_rfl) (by kernel_rfl) (by kernel_rfl)) ?_
  intro W base args ds gs before hval0 hW _ _
  have hval : ∀ (j : Nat) t v, Try.f9.params[j]? = some t → args[j]? = some v → Value.okWide Try.prog W .any base t v := hval0
  have hW' := hW
  obtain ⟨p, q, hA0, hV, rfl, _, _⟩ := hW
  have hA : DataW.TrodAll enc Try.prog W 0 (fun _ => true) true Try.f9.params.toList args.toList ds p := hA0
  rw [Try.params9] at hA hval
  obtain ⟨v0, vs0, d0, ds0, p0, q0, hargs, rfl, rfl, h0, r0⟩ := trodAll_cons hA
  obtain ⟨v1, vs1, d1, ds1, p1, q1, rfl, rfl, rfl, h1, r1⟩ := trodAll_cons r0
  obtain ⟨rfl, rfl, rfl⟩ := trodAll_nil r1
  obtain rfl : args = #[v0, v1] := by cases args; simp_all
  obtain ⟨rfl, rfl⟩ := trodVars_none hV
  obtain ⟨a0, rfl, rfl, rfl, w0⟩ := open_int Try.underlying5 (hval 0 5 v0 rfl rfl) h0
  have k0 := wf_u8 w0
  obtain ⟨n0, rfl⟩ : ∃ u : UInt8, a0 = (u.toNat : Int) := ⟨UInt8.ofNat a0.toNat, by simp; omega⟩
  obtain ⟨A1, cs1, cap1, rfl, l1, m1, b1, again1⟩ := arg_bytes (hval 1 22 v1 rfl rfl) h1
  have x1 := arg_extra h1
  clear hA0 hval0
  simp only [List.append_nil] at hW'
  refine (tailRoom_walk n0 A1 cs1 cap1 W b1 l1).mono fun e W' ⟨he, hg⟩ => ?_
  subst he
  exact ⟨_, rfl, true_last hW' rfl (by kernel_rfl) Try.underlying4 rfl rfl rfl (of_decide_eq_true (by kernel_rfl)) hg⟩

/-- **TailRoom, at every input.** -/
theorem proved : Rows.TailRoomSaid :=
  OpenClaim.holds_of_wide 9 Try.f9 rfl rfl rfl rfl rfl rfl rfl ⟨rfl, rfl, rfl, rfl, rfl⟩ rfl rfl rfl rfl rfl (by kernel_rfl) Try.func9 (by kernel_rfl)
    (of_decide_eq_true (by kernel_rfl)) (by unfold Func.isWrapper; first | (rw [if_pos (by decide +kernel)]; kernel_rfl) | (rw [if_neg (by decide +kernel)]; exact ⟨rfl, rfl⟩))
    (fun os started H enc _ => lifted os started H enc)
end TailRoom

end Go.Proofs.Ytbmhhidlmdhacaa
