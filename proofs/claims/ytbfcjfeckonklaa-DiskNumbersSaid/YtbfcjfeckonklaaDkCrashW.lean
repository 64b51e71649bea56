/-
  What a disk's Crash does.
-/
import Derived.Test.YtbfcjfeckonklaaDkCrash
namespace Go.Proofs.Ytbfcjfeckonklaa
open Go.RowKit Go.Maps Go.Proofs.DiskMath

/-- One file has crashed. -/
theorem crash_upd {w w1 : World} {S M : Nat} {A B : List Fe} {x : Fe} {s : List Fi} (hk : Dk w S M (A ++ x :: B) s) {k g : Nat} (hkl : k ≤ x.f.bs.length) (hf : Fok w1 ⟨⟨x.f.no, x.f.bs.take k, k⟩, x.p, .slice (some ⟨g, 0, none⟩) k k⟩) (hm : Mut [x.p] w w1) (hg : w.heap.size ≤ g) :
    Dk w1 S M (A ++ ⟨⟨x.f.no, x.f.bs.take k, k⟩, x.p, .slice (some ⟨g, 0, none⟩) k k⟩ :: B) (A.map (·.f) ++ ⟨x.f.no, x.f.bs.take k, k⟩ :: B.map (·.f)) ∧ Mut (core S M (A ++ x :: B)) w w1 ∧ Ext w (core S M (A ++ x :: B)) (core S M (A ++ ⟨⟨x.f.no, x.f.bs.take k, k⟩, x.p, .slice (some ⟨g, 0, none⟩) k k⟩ :: B)) := by
  have hm2 : Mut x.own w w1 := hm.wider (by simp [Fe.own])
  have hv : ∀ g', (Value.slice (some ⟨g, 0, none⟩) k k).ownBlock = some g' → (Value.slice (some ⟨g, 0, none⟩) k k).ownBlock = x.v.ownBlock ∨ w.heap.size ≤ g' := fun g' h => by
    simp [Value.ownBlock] at h
    exact .inr (by omega)
  exact ⟨hk.upd hm2 ⟨⟨x.f.no, x.f.bs.take k, k⟩, x.p, .slice (some ⟨g, 0, none⟩) k k⟩ rfl rfl hf hv (by simp; omega), hm2.wider core_in, core_mid rfl hv⟩

set_option linter.unusedSimpArgs false in
set_option maxRecDepth 100000 in
set_option maxHeartbeats 2000000 in
theorem crash_any {bs : List Nat} {S : Nat} {s : List Fi} (draw : Nat) (w : World) (h : Dd w bs S s) (hd : draw < 18446744073709551616) (N : Nat) (hN : Bd N s) (hN2 : N ≤ 100000) :
    Calls Try.prog 14 #[.pointer (some ⟨S, 0, none⟩), .int .u64 (draw : Int)] w fun e w' => e = .returned (.tuple #[]) ∧ DdTo w bs S (crash draw s) w' := by
  obtain ⟨n, hn⟩ : ∃ n, s.length = n := ⟨_, rfl⟩
  have hn2 : n ≤ 100000 := by have := hN.1; omega
  have HF := Lib.hid (files_any w h n hn hn2)
  have HIV := Lib.hid h.iv
  have HD := Lib.hid h
  have HN := Lib.hid hn
  have HB := Lib.hid hN.2
  clear h hn hN
  go_enter Try.func14, Try.ntmps14
  go_wp2_with fail
  refine HF.out.mono ?_
  rintro e wf ⟨A, rfl, hnos, hbel⟩
  have HDf := Lib.hid (HD.out.later hbel)
  have HNO := Lib.hid hnos
  have HBL := Lib.hid hbel
  have HLT := Lib.hid HD.out.lt
  clear hnos hbel HF HD
  go_wp2_with fail
  go_loopw [10, 1] (fun iv dv wr => ∃ (i dr : Nat) (P : List Fi) (bs' : List Nat), iv = .int .i64 (i : Int) ∧ dv = .int .u64 (dr : Int) ∧ i ≤ n ∧ dr < 18446744073709551616 ∧ Hid (crash draw s = P ++ crash dr (s.drop i)) ∧ Hid (Dd wr bs' S (P ++ s.drop i)) ∧ Hid (Mut bs wf wr ∧ Ext wf bs bs') ∧ Hid (Nos wr w.heap.size A (s.map (·.no))))
    (fun iv _ _ => n - (intOf iv).toNat)
  case atStart => exact ⟨0, draw, [], bs, rfl, rfl, by omega, hd, Lib.hid rfl, HDf, Lib.hid ⟨Mut.refl _ _, Ext.refl _ _⟩, HNO⟩
  case round =>
    obtain ⟨i, dr, P, bs', rfl, rfl, hi, hdr, HE, HDr, HM, HNr⟩ := hrel
    by_cases hin : i < n
    · have t1 : decide ((i : Int) < (n : Int)) = true := by simp; omega
      have hil : i < s.length := by rw [HN.out]; exact hin
      obtain ⟨f, hfe⟩ : ∃ f, s[i] = f := ⟨_, rfl⟩
      have hdrop : s.drop i = f :: s.drop (i + 1) := by rw [List.drop_eq_getElem_cons hil, hfe]
      have hfm : f ∈ s := hfe ▸ List.getElem_mem hil
      have hfok := HIV.out.ok f hfm
      have hfl2 := HB.out f hfm
      obtain ⟨g, rfl, hgB, hgl, hcells⟩ := HNr.out (by rw [List.length_map]; omega)
      have c9 : wr.cell? ⟨g, i, none⟩ = some (.int .i64 (f.no : Int)) := by
        rw [hcells i (by rw [List.length_map]; exact hil)]
        simp [hil, hfe]
      obtain ⟨M, F, hk, rfl⟩ := HDr.out
      have hgn : g ∉ core S M F := fun hm => by
        rcases HM.out.2 g hm with e | e
        · have := HLT.out g e; omega
        · obtain ⟨g', e1, _, e2, _⟩ := HNO.out (by rw [List.length_map]; omega)
          injection e1 with e1
          injection e1 with e1
          omega
      have hfl := hk.fl
      rw [hdrop] at hfl
      obtain ⟨A0, F2, rfl, e1, e2⟩ := List.map_eq_append_iff.1 hfl
      obtain ⟨x, B, rfl, rfl, e3⟩ := List.map_eq_cons_iff.1 e2
      have c0 : wr.cell? ⟨S, 0, none⟩ = some (.map (some M)) := hk.blk.cell 0 rfl
      have l0 := hk.find1 0
      change Sem.run _ _ wr = .ok _ wr at l0
      obtain ⟨k, hkk⟩ : ∃ k, crash1 dr x.f = k := ⟨_, rfl⟩
      obtain ⟨q, hqq⟩ : ∃ q, left1 dr x.f = q := ⟨_, rfl⟩
      have hkb : k ≤ x.f.bs.length := hkk ▸ (crash1_le hfok.2).2
      have hq64 : q < 18446744073709551616 := by
        rw [← hqq]; unfold left1
        exact Nat.lt_of_le_of_lt (Nat.div_le_self _ _) hdr
      have HC := Lib.hid (fcrash_any dr wr (hk.each x (by simp)) hdr hfok.2 (by omega) k q hkk hqq)
      have HE2 := Lib.hid (show crash draw s = (P ++ kept1 x.f k) ++ crash q (s.drop (i + 1)) from by
        rw [HE.out, hdrop, crash, hkk, hqq, List.append_assoc])
      have HK := Lib.hid hk
      have HG := Lib.hid hgn
      have HP := Lib.hid (And.intro e1 e3)
      have HKB := Lib.hid hkb
      have HNO5 := Lib.hid (show x.f.no ≤ 1099511627776 from hfok.1)
      obtain ⟨no, hno⟩ : ∃ no, x.f.no = no := ⟨_, rfl⟩
      obtain ⟨p, hp⟩ : ∃ p, x.p = p := ⟨_, rfl⟩
      have HXX := Lib.hid (And.intro hno hp)
      rw [hno] at l0 c9
      rw [hp] at l0 HC
      clear hk hgn e1 e3 e2 hfl hkb hkk hqq hfok hfl2 hcells hdrop hfe hfm HDr hno hp
      go_wp2_with fail
      refine HC.out.mono ?_
      rintro e w1 ⟨g2, rfl, hg2, hf5, hm5⟩
      have hm5' : Mut [x.p] wr w1 := by rw [HXX.out.2]; exact hm5
      obtain ⟨hk1, hm1, hx1⟩ := crash_upd HK.out HKB.out (by rw [HXX.out.2]; exact hf5) hm5' hg2
      have c0' : w1.cell? ⟨S, 0, none⟩ = some (.map (some M)) := hk1.blk.cell 0 rfl
      have c2 : w1.cell? ⟨p, 0, none⟩ = some (.slice (some ⟨g2, 0, none⟩) k k) := hf5.blk.cell 0 rfl
      have HK1 := Lib.hid hk1
      have HMM := Lib.hid (show Mut bs wf w1 ∧ Ext wf bs (core S M (A0 ++ ⟨⟨x.f.no, x.f.bs.take k, k⟩, x.p, .slice (some ⟨g2, 0, none⟩) k k⟩ :: B)) ∧ Nos w1 w.heap.size (some ⟨g, 0, none⟩) (s.map (·.no)) ∧ g ∉ core S M (A0 ++ ⟨⟨x.f.no, x.f.bs.take k, k⟩, x.p, .slice (some ⟨g2, 0, none⟩) k k⟩ :: B) from by
        refine ⟨HM.out.1.onto hm1 HM.out.2, HM.out.2.trans hx1 HM.out.1.size, HNr.out.mut hm1 fun g' hg' => ?_, fun hm => ?_⟩
        · simp at hg'
          subst hg'
          exact HG.out
        · rcases hx1 g hm with e | e
          · exact HG.out e
          · omega)
      clear hf5 hm5 hm5' hk1 hm1 hx1 HC HK HNr c9 l0 c0
      by_cases hk0 : k = 0
      · subst hk0
        have HMP := Lib.hid HK1.out.map
        have HFE := Lib.hid (show fE (A0 ++ ⟨⟨x.f.no, x.f.bs.take 0, 0⟩, x.p, .slice (some ⟨g2, 0, none⟩) 0 0⟩ :: B) = fE A0 ++ (kl (no : Int), .pointer (some ⟨x.p, 0, none⟩)) :: fE B by rw [fE_append, fE_cons, HXX.out.1])
        have HKI := Lib.hid (key_int (a := (no : Int)) (by omega) (by have := HNO5.out; have := HXX.out.1; omega))
        go_wp2_with (refine wpList_am_del rfl _ _ rfl law_int Try.underlying59 rfl HMP.out HFE.out rfl HKI.out ?_)
        intro w2 ha hg
        have hk2 := HK1.out.rem ((mut_map hg).wider (by simp)) ha
        have HR := Lib.hid (show Dd w2 (core S M (A0 ++ B)) S ((P ++ kept1 x.f 0) ++ s.drop (i + 1)) ∧ (Mut bs wf w2 ∧ Ext wf bs (core S M (A0 ++ B))) ∧ Nos w2 w.heap.size (some ⟨g, 0, none⟩) (s.map (·.no)) from by
          have hme : Mut (core S M (A0 ++ ⟨⟨x.f.no, x.f.bs.take 0, 0⟩, x.p, .slice (some ⟨g2, 0, none⟩) 0 0⟩ :: B)) w1 w2 := (mut_map hg).wider (by simp [core])
          refine ⟨⟨M, _, ?_, rfl⟩, ⟨HMM.out.1.onto hme HMM.out.2.1, HMM.out.2.1.trans core_less HMM.out.1.size⟩, HMM.out.2.2.1.mut hme fun g' hg' => ?_⟩
          · rw [HP.out.1, HP.out.2] at hk2
            simpa [kept1] using hk2
          · simp at hg'
            subst hg'
            exact HMM.out.2.2.2)
        clear ha hg hk2 HMP HMM HK1 c0' c2
        go_wp2_with fail
        go_roundw
        case rel => exact ⟨i + 1, q, P ++ kept1 x.f 0, _, by simp, rfl, by omega, hq64, HE2, Lib.hid HR.out.1, Lib.hid HR.out.2.1, Lib.hid HR.out.2.2⟩
        case measure => simp [intOf]; omega
      · have t3 : ((k : Int) == 0) = false := by simp; omega
        have t3n : (k == 0) = false := by simp; omega
        have HR := Lib.hid (show Dd w1 (core S M (A0 ++ ⟨⟨x.f.no, x.f.bs.take k, k⟩, x.p, .slice (some ⟨g2, 0, none⟩) k k⟩ :: B)) S ((P ++ kept1 x.f k) ++ s.drop (i + 1)) from by
          refine ⟨M, _, ?_, rfl⟩
          have hk2 := HK1.out
          rw [HP.out.1, HP.out.2] at hk2
          simpa [kept1, hk0] using hk2)
        have hk0' : ¬ (k : Int) = 0 := by omega
        clear HK1 c0'
        go_wp2_with fail
        go_roundw
        case rel => exact ⟨i + 1, q, P ++ kept1 x.f k, _, by simp, rfl, by omega, hq64, HE2, HR, Lib.hid ⟨HMM.out.1, HMM.out.2.1⟩, Lib.hid HMM.out.2.2.1⟩
        case measure => simp [intOf]; omega
    · obtain rfl : n = i := by omega
      have t1 : decide ((n : Int) < (n : Int)) = false := by simp
      have HX := Lib.hid (show DdTo w bs S (crash draw s) wr from by
        have hd1 := HDr.out
        have he := HE.out
        rw [List.drop_of_length_le (by rw [HN.out]; exact Nat.le_refl _)] at hd1 he
        rw [he]
        refine ⟨bs', by simpa [crash] using hd1, (Mut.of_below HBL.out).trans HM.out.1, fun k hk => ?_⟩
        rcases HM.out.2 k hk with e | e
        · exact .inl e
        · exact .inr (Nat.le_trans HBL.out.size e))
      clear HDr HE HM HNr
      go_wp2_with fail
      go_end0
      exact ⟨rfl, HX.out⟩
end Go.Proofs.Ytbfcjfeckonklaa
