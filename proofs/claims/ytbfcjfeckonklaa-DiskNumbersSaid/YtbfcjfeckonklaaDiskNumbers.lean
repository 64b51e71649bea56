/-
  DiskNumbers: files are told by rising numbers, each once, and no others: whatever is written, and taken away; no condition.
-/
import Derived.Test.YtbfcjfeckonklaaDkNos
import Derived.Test.YtbfcjfeckonklaaDkKnown
namespace Go.Proofs.Ytbfcjfeckonklaa
open Go.ChangeShapes Go.WideShapes Go.ChangeAt Go.RowKit Go.Maps Go.Proofs.DiskMath

def zeT : Array Value := Array.replicate 256 (.int .i64 0)
set_option maxRecDepth 100000 in
theorem zero_tab (W : World) : (zeroValue 57).run Try.prog W = .ok (.agg zeT) W := by kernel_rfl
theorem th_start : Th zeT [] := ⟨by simp [zeT], fun j hj => by simp [zeT, hj, hasno]⟩
/-- What the law knows while it writes. -/
structure Nm (w W : World) (S T : Nat) (s : List Fi) (bs : List Nat) (C : Array Value) (i : Nat) : Prop where
  db : Db w W S s bs
  bd : Bd (i + 1) s
  blk : Blk W T C 57
  th : Th C s
  far : T ∉ bs
  low : w.heap.size ≤ T
  small : ∀ f ∈ s, f.no < 256
theorem Nm.next {w W W2 : World} {S T : Nat} {s : List Fi} {bs bs2 : List Nat} {C : Array Value} {i no : Nat} (h : Nm w W S T s bs C i) (hd : Db w W2 S (write s no [1]) bs2) (hm : Mut bs (W.alloc (.cells #[.int .u8 1] 5)) W2 ∧ Ext (W.alloc (.cells #[.int .u8 1] 5)) bs bs2) (hn : no < 256) :
    (∃ v, W2.cell? ⟨T, no, none⟩ = some (.int .i64 v)) ∧ W2.frozen? ⟨T, no, none⟩ = false ∧ Nm w (W2.setCell ⟨T, no, none⟩ (.int .i64 1)) S T (write s no [1]) bs2 (C.setIfInBounds no (.int .i64 1)) (i + 1) := by
  have h2 := (h.blk.later (box_below (.cells #[.int .u8 1] 5))).mut hm.1 h.far
  have hlt := (h.blk.later (box_below (.cells #[.int .u8 1] 5))).lt
  have hf2 : T ∉ bs2 := hm.2.not h.far hlt
  refine ⟨⟨_, h2.cell no (h.th.at_ no hn)⟩, h2.free no, ⟨hd.beside (cs := [T]) ((Mut.refl [T] W2).setCell (by simp) _) (fun k hk => ?_), h.bd.write no [1] (by omega) (by simp), h2.set no _, h.th.put hn [1], hf2, h.low, write_small h.small hn [1]⟩⟩
  obtain rfl : k = T := by simpa using hk
  exact ⟨hf2, h.low⟩

set_option linter.unusedSimpArgs false in
set_option maxRecDepth 100000 in
set_option maxHeartbeats 4000000 in
theorem diskNumbers_walk (A0 : Option Addr) (cs0 : List UInt8) (cap0 : Nat) (u : UInt8) (w : World) (b0 : Holds8 w.heap.size w A0 cs0) :
    Calls Try.prog 8 #[.slice A0 cs0.length cap0, .int .u8 (u.toNat : Int)] w fun e w' => e = .returned (.bool true) ∧ Below w.heap.size w w' := by
  obtain ⟨N, hN⟩ : ∃ N, cs0.length = N := ⟨_, rfl⟩
  obtain ⟨gone, hgo⟩ : ∃ x, u.toNat = x := ⟨_, rfl⟩
  have hgl : gone ≤ 255 := by have := u.toNat_lt; omega
  rw [hN, hgo]
  have HN := Lib.hid (Db.new (Below.refl w.heap.size w))
  have HK := Lib.hid known_any
  have HH := Lib.hid b0
  have HL := Lib.hid hN
  clear b0 hN hgo
  by_cases hlong : 60 < N
  · have t1 : decide ((60 : Int) < (N : Int)) = true := by simp; omega
    have t1n : decide (60 < N) = true := by simp; omega
    clear hlong
    go_enter Try.func8, Try.ntmps8
    go_wp2_with fail
    refine HN.out.mono ?_
    rintro e w1 ⟨S, bs1, rfl, HD1, _⟩
    go_wp2_with fail
    refine (HK.out w1).mono ?_
    rintro e w2 ⟨rfl, HB2⟩
    have HE := Lib.hid ((HD1.out.later HB2.out).2.1)
    clear HN HK HD1 HB2
    go_wp2_with fail
    go_ret
    exact ⟨rfl, HE.out⟩
  · have t1 : decide ((60 : Int) < (N : Int)) = false := by simp; omega
    have t1n : decide (60 < N) = false := by simp; omega
    have hN60 : N ≤ 60 := by omega
    clear hlong
    go_enter Try.func8, Try.ntmps8
    go_wp2_with fail
    refine HN.out.mono ?_
    rintro e w1 ⟨S, bs1, rfl, HD1, _⟩
    have hzt := zero_tab
    have HNM := Lib.hid (show Nm w (w1.alloc (.cells zeT 57)) S w1.heap.size [] bs1 zeT 0 from ⟨HD1.out.later (box_below _), Bd.nil _, blk_new _ _ _, th_start, fun hm => Nat.lt_irrefl _ (HD1.out.1.lt _ hm), HD1.out.2.1.size, by simp⟩)
    clear HN HD1
    go_wp2_with fail
    clear hzt
    generalize w1.heap.size = T at HNM ⊢
    generalize w1.alloc (.cells zeT 57) = wa at HNM ⊢
    go_loopw [7] (fun iv wr => ∃ (i : Nat) (s : List Fi) (bs : List Nat) (C : Array Value), iv = .int .i64 (i : Int) ∧ i ≤ N ∧ Hid (Nm w wr S T s bs C i)) (fun iv _ => N - (intOf iv).toNat)
    case atStart => exact ⟨0, [], bs1, zeT, rfl, by omega, HNM⟩
    case round =>
      obtain ⟨i, s, bs, C, rfl, hi, HM⟩ := hrel
      by_cases hin : i < N
      · have t2 : decide ((i : Int) < (N : Int)) = true := by simp; omega
        obtain ⟨g, off, rfl, hg, hc⟩ := HH.out (by rw [HL.out]; omega)
        obtain ⟨x, hx⟩ : ∃ x, (cs0.getD i 0).toNat = x := ⟨_, rfl⟩
        have hx5 : x ≤ 255 := by have := (cs0.getD i 0).toNat_lt; omega
        have k0 : ∀ W, Below w.heap.size w W → W.cell? ⟨g, off + i, none⟩ = some (.int .u8 (x : Int)) := fun W hW => by
          rw [hW.cell (p := ⟨g, off + i, none⟩) hg, hc i (by rw [HL.out]; exact hin), b8, hx]
        have KK := Lib.hid k0
        have k1 := k0 wr HM.out.db.2.1
        have hbb : Below w.heap.size w (wr.alloc (.cells #[.int .u8 1] 5)) := (HM.out.db.later (box_below _)).2.1
        have k2 := k0 _ hbb
        have hw1 : IntKind.i64.wrap (x : Int) = (x : Int) := by rw [IntKind.wrap_i64]; omega
        have HC := Lib.hid ((HM.out.db.later (box_below (.cells #[.int .u8 1] 5))).write x _ 1 1 [1] (src_new (W := wr) (bs := bs) (C := #[.int .u8 1]) (ys := [1]) HM.out.db.1.lt rfl) rfl (by omega) (i + 1) HM.out.bd (by omega) _ rfl)
        clear k0 hc hx hbb
        go_wp2_with fail
        refine HC.out.mono ?_
        rintro e w2 ⟨rfl, bs2, HD2, HM2⟩
        obtain ⟨⟨v, e1⟩, e2, e3⟩ := HM.out.next HD2.out HM2.out (show x < 256 by omega)
        have k3 := KK.out w2 HD2.out.2.1
        have HM3 := Lib.hid e3
        have hx6 : decide ((x : Int) < 256) = true := by simp; omega
        have hx7 : decide (x < 256) = true := by simp; omega
        clear HC HD2 HM2 HM e3 k1 k2
        go_wp2_with fail
        go_roundw
        case rel => exact ⟨i + 1, _, bs2, _, by simp, by omega, HM3⟩
        case measure => simp [intOf]; omega
      · obtain rfl : N = i := by omega
        have t2 : decide ((N : Int) < (N : Int)) = false := by simp
        have hw1 : IntKind.i64.wrap (gone : Int) = (gone : Int) := by rw [IntKind.wrap_i64]; omega
        obtain ⟨er, her⟩ : ∃ er, (if (seek (gone : Int) s).isSome then 0 else 71) = er := ⟨_, rfl⟩
        obtain ⟨q, hq⟩ : ∃ q, remove s (gone : Int) = q := ⟨_, rfl⟩
        have HC := Lib.hid (HM.out.db.remove (gone : Int) (by omega) (by omega) q hq er her)
        obtain ⟨wa2, hwa2⟩ : ∃ v : Int, (if hasno s gone then 1 else 0) = v := ⟨_, rfl⟩
        have HQ := Lib.hid (And.intro hq (And.intro her hwa2))
        clear hq her hwa2 hi hin HH HL
        go_wp2_with fail
        refine HC.out.mono ?_
        rintro e w2 ⟨rfl, bs2, HD2, HM2⟩
        have hb2 : Blk w2 T C 57 := HM.out.blk.mut HM2.out.1 HM.out.far
        have hf2 : T ∉ bs2 := HM2.out.2.not HM.out.far HM.out.blk.lt
        have k1 : w2.cell? ⟨T, gone, none⟩ = some (.int .i64 wa2) := hb2.cell gone (by rw [HM.out.th.at_ gone (by omega), HQ.out.2.2])
        have k2 : w2.frozen? ⟨T, gone, none⟩ = false := hb2.free gone
        have HM3 := Lib.hid (show Db w (w2.setCell ⟨T, gone, none⟩ (.int .i64 0)) S q bs2 ∧ Blk (w2.setCell ⟨T, gone, none⟩ (.int .i64 0)) T (C.setIfInBounds gone (.int .i64 0)) 57 ∧ Th (C.setIfInBounds gone (.int .i64 0)) q ∧ q.length ≤ N + 1 ∧ (∀ f ∈ q, f.no < 256) from by
          refine ⟨HD2.out.beside (cs := [T]) ((Mut.refl [T] w2).setCell (by simp) _) (fun k hk => ?_), hb2.set gone _, ?_, ?_, ?_⟩
          · obtain rfl : k = T := by simpa using hk
            exact ⟨hf2, HM.out.low⟩
          · rw [← HQ.out.1]; exact HM.out.th.rem (by omega)
          · rw [← HQ.out.1]; exact (HM.out.bd.remove gone).1
          · rw [← HQ.out.1]; exact fun f hf => HM.out.small f (List.mem_filter.1 hf).1)
        have hx6 : decide ((gone : Int) < 256) = true := by simp; omega
        have hx7 : decide (gone < 256) = true := by simp; omega
        have HS := Lib.hid (show (er = 0 ∧ wa2 = 1) ∨ (er = 71 ∧ wa2 = 0) from by
          obtain ⟨_, h1, h2⟩ := HQ.out
          rw [seek_hasno] at h1
          cases hh : hasno s gone with
          | true => rw [hh] at h1 h2; exact .inl ⟨h1.symm, h2.symm⟩
          | false => rw [hh] at h1 h2; exact .inr ⟨h1.symm, h2.symm⟩)
        clear HC HD2 HM2 hb2 HQ HM
        go_wp2_with fail
        generalize w2.setCell ⟨T, gone, none⟩ (.int .i64 0) = w3 at HM3 ⊢
        generalize C.setIfInBounds gone (.int .i64 0) = C3 at HM3
        obtain ⟨n, hn⟩ : ∃ n, q.length = n := ⟨_, rfl⟩
        have hn6 : n ≤ 61 := by have := HM3.out.2.2.2.1; omega
        have HF := Lib.hid (HM3.out.1.files n hn (by omega))
        obtain ⟨L, hL⟩ : ∃ L, q.map (·.no) = L := ⟨_, rfl⟩
        have HLL := Lib.hid (show L.length = n ∧ L.Pairwise (· < ·) ∧ (∀ x ∈ L, x < 256) ∧ ∀ x, hasno q x = true ↔ x ∈ L from by
          rw [← hL]
          refine ⟨by rw [List.length_map, hn], by rw [List.pairwise_map]; exact HM3.out.1.iv.rise, fun x hx => ?_, fun x => hasno_mem q x⟩
          obtain ⟨f, hf, rfl⟩ := List.mem_map.1 hx
          exact HM3.out.2.2.2.2 f hf)
        have hf3 : w3.heap.size = w3.heap.size := rfl
        rw [hL] at HF
        clear hn hL k1 k2 hf2 hf3
        refine HF.out.mono ?_
        rintro e w4 ⟨A4, rfl, HN4, HB4, HD4⟩
        have HT := Lib.hid (show ∀ j, j < 256 → w4.cell? ⟨T, j, none⟩ = some (.int .i64 (if hasno q j then 1 else 0)) from fun j hj => (HM3.out.2.1.later HB4.out).cell j (HM3.out.2.2.1.at_ j hj))
        have HD := Lib.hid HD4.out
        clear HF HM3 HB4 HD4
        go_wp2_with fail
        go_loopw [12, 11] (fun iv kv wq => ∃ i k : Nat, iv = .int .i64 (i : Int) ∧ kv = .int .i64 (k : Int) ∧ i ≤ 256 ∧ Hid (cntL L i = k) ∧ Hid (w4 = wq)) (fun iv _ _ => 256 - (intOf iv).toNat)
        case atStart => exact ⟨0, 0, rfl, rfl, by omega, Lib.hid (cntL_zero L), Lib.hid rfl⟩
        case round =>
          obtain ⟨i, k, rfl, rfl, hi, HC, HW⟩ := hrel
          obtain rfl := HW.out
          by_cases hin : i < 256
          · have t4 : decide ((i : Int) < 256) = true := by simp; omega
            have t4n : decide (i < 256) = true := by simp; omega
            have kt := HT.out i hin
            have hkb : k ≤ n := by have := cntL_le L i; have := HC.out; have := HLL.out.1; omega
            cases hh : hasno q i with
            | false =>
              rw [hh] at kt
              have HC2 := Lib.hid (show cntL L (i + 1) = k from by rw [cntL_out (fun hm => by rw [(HLL.out.2.2.2 i).2 hm] at hh; cases hh), HC.out])
              simp only [Bool.false_eq_true, if_false] at kt
              clear hh HC
              go_wp2_with fail
              go_roundw
              case rel => exact ⟨i + 1, k, by simp, rfl, by omega, HC2, Lib.hid trivial⟩
              case measure => simp [intOf]; omega
            | true =>
              rw [hh] at kt
              simp only [if_true] at kt
              obtain ⟨h1, h2⟩ := cntL_in HLL.out.2.1 ((HLL.out.2.2.2 i).1 hh)
              rw [HC.out] at h1 h2
              have hkn : k < n := by have := (List.getElem?_eq_some_iff.1 h1).1; have := HLL.out.1; omega
              obtain ⟨g, rfl, -, hg, hc⟩ := HN4.out (by have := HLL.out.1; omega)
              have kc : w4.cell? ⟨g, k, none⟩ = some (.int .i64 (i : Int)) := by
                rw [hc k (by have := HLL.out.1; omega)]
                simp [List.getD, h1]
              have HC2 := Lib.hid h2
              have t5 : decide ((n : Int) ≤ (k : Int)) = false := by simp; omega
              have t5n : decide (n ≤ k) = false := by simp; omega
              clear hh HC h1 h2 hc
              go_wp2_with fail
              go_roundw
              case rel => exact ⟨i + 1, k + 1, by simp, by simp, by omega, HC2, Lib.hid trivial⟩
              case measure => simp [intOf]; omega
          · obtain rfl : i = 256 := by omega
            have t4 : decide ((256 : Int) < 256) = false := by decide
            obtain rfl : n = k := by rw [← HC.out, cntL_all HLL.out.2.2.1, HLL.out.1]
            clear HC HT hin hi
            rcases HS.out with ⟨rfl, rfl⟩ | ⟨rfl, rfl⟩
            · go_wp2_with fail
              refine (HK.out w4).mono ?_
              rintro e w5 ⟨rfl, HB5⟩
              have HE := Lib.hid ((HD.out.later HB5.out).2.1)
              clear HK HB5 HD
              go_wp2_with fail
              go_ret
              exact ⟨rfl, HE.out⟩
            · go_wp2_with fail
              refine (HK.out w4).mono ?_
              rintro e w5 ⟨rfl, HB5⟩
              have HE := Lib.hid ((HD.out.later HB5.out).2.1)
              clear HK HB5 HD
              go_wp2_with fail
              go_ret
              exact ⟨rfl, HE.out⟩
namespace DiskNumbers
set_option linter.unusedSimpArgs false in
set_option maxRecDepth 100000 in
theorem lifted (os : Os) (started : os.Started) (H : Type) (enc : TypeId × Value → H) :
    ReturnsInHanded {} Try.checked os 8 .any (Rows.diskNumbersSpec.pre6 enc Try.prog Try.f8 Rows.diskNumbersRow.domain false) (Rows.diskNumbersSpec.post enc Try.prog Try.f8 false true false false) := by
  refine returnsInHanded_of_change (C := Try.checked) own started (by kernel_rfl) Try.func8
    (ChangeSpec.witness6 (enc := enc) (C := Try.checked) false ⟨#[], #[.slice none 0 0, .int .u8 0], []⟩ 8 (by kernel_rfl) (by kernel_rfl) (by kernel_rfl) (by kernel_rfl)) ?_
  intro W base args ds gs before hval0 hW _ _
  have hval : ∀ (j : Nat) t v, Try.f8.params[j]? = some t → args[j]? = some v → Value.okWide Try.prog W .any base t v := hval0
  have hW' := hW
  obtain ⟨p, q, hA0, hV, rfl, _, _⟩ := hW
  have hA : DataW.TrodAll enc Try.prog W 0 (fun _ => true) true Try.f8.params.toList args.toList ds p := hA0
  rw [Try.params8] at hA hval
  obtain ⟨v0, vs0, d0, ds0, p0, q0, hargs, rfl, rfl, h0, r0⟩ := trodAll_cons hA
  obtain ⟨v1, vs1, d1, ds1, p1, q1, rfl, rfl, rfl, h1, r1⟩ := trodAll_cons r0
  obtain ⟨rfl, rfl, rfl⟩ := trodAll_nil r1
  obtain rfl : args = #[v0, v1] := by cases args; simp_all
  obtain ⟨rfl, rfl⟩ := trodVars_none hV
  obtain ⟨A0, cs0, cap0, rfl, l0, m0, b0, again0⟩ := arg_bytes (hval 0 22 v0 rfl rfl) h0
  have x0 := arg_extra h0
  obtain ⟨a1, rfl, rfl, rfl, w1⟩ := open_int Try.underlying5 (hval 1 5 v1 rfl rfl) h1
  have k1 := wf_u8 w1
  obtain ⟨n1, rfl⟩ : ∃ u : UInt8, a1 = (u.toNat : Int) := ⟨UInt8.ofNat a1.toNat, by simp; omega⟩
  clear hA0 hval0
  simp only [List.append_nil] at hW'
  refine (diskNumbers_walk A0 cs0 cap0 n1 W b0).mono fun e W' ⟨he, hg⟩ => ?_
  subst he
  exact ⟨_, rfl, true_last hW' rfl (by kernel_rfl) Try.underlying4 rfl rfl rfl (of_decide_eq_true (by kernel_rfl)) hg⟩

/-- **DiskNumbers, at every input.** -/
theorem proved : Rows.DiskNumbersSaid :=
  OpenClaim.holds_of_wide 8 Try.f8 rfl rfl rfl rfl rfl rfl rfl ⟨rfl, rfl, rfl, rfl, rfl⟩ rfl rfl rfl rfl rfl (by kernel_rfl) Try.func8 (by kernel_rfl)
    (of_decide_eq_true (by kernel_rfl)) (by unfold Func.isWrapper; first | (rw [if_pos (by decide +kernel)]; kernel_rfl) | (rw [if_neg (by decide +kernel)]; exact ⟨rfl, rfl⟩))
    (fun os started H enc _ => lifted os started H enc)
end DiskNumbers

end Go.Proofs.Ytbfcjfeckonklaa
