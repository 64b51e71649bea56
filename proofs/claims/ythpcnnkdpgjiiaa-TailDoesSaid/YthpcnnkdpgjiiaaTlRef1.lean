/-
  The document's first: where times rise it is the one at the front.
-/
import Derived.Test.YthpcnnkdpgjiiaaTlRef0
namespace Go.Proofs.Ythpcnnkdpgjiiaa
open Go.RowKit Go.Maps Go.Proofs.HeapMath Go.Proofs.TailMath

variable {P : Nat → Prop}

set_option linter.unusedSimpArgs false in
set_option maxRecDepth 100000 in
set_option maxHeartbeats 2000000 in
theorem refFirst_any (w : World) (b : St) (r : Rf) (h : RfIn P w b r) (hso : b.L.Pairwise fun a b => a.due ≤ b.due) (hn2 : r.n ≤ 5000) :
    Calls Try.prog 38 #[rfV b r] w fun e w' => e = .returned (.int .i64 (if r.n = 0 then -1 else 0)) ∧ Hid (Below w.heap.size w w') := by
  obtain ⟨A, n, cap, B, m, capB⟩ := r
  have HR := Lib.hid h
  have HSO := Lib.hid hso
  simp only at hn2
  obtain ⟨nr, hnr⟩ : ∃ x, w.heap.size = x := ⟨_, rfl⟩
  have hbk := hnr ▸ blk_new w (rfC b ⟨A, n, cap, B, m, capB⟩) 50
  have hbl : Below w.heap.size w (w.alloc (.cells (rfC b ⟨A, n, cap, B, m, capB⟩) 50)) := box_below _
  unfold rfC at hbk hbl
  unfold rfV
  have HBK := Lib.hid hbk
  have HBL := Lib.hid hbl
  clear hbk hbl h hso
  go_enter Try.func38, Try.ntmps38
  go_wp2_with fail
  clear hnr
  generalize w.alloc (.cells #[.int .i64 (b.sp : Int), .int .i64 (b.wait : Int), .int .i64 (b.most : Int), .int .i64 (b.time : Int), .int .i64 (b.came : Int), .slice A n cap, .slice B m capB] 50) = Wo at HBK HBL ⊢
  have HX := Lib.hid (show Blk Wo nr _ _ ∧ Below w.heap.size w Wo from ⟨HBK.out, HBL.out⟩)
  clear HBK HBL
  go_loopw [4, 3] (fun iv kv wq => ∃ i : Nat, iv = .int .i64 (i : Int) ∧ i ≤ n ∧ Hid ((i = 0 ∧ kv = .int .i64 (-1)) ∨ (0 < i ∧ kv = .int .i64 0)) ∧ Hid (Below Wo.heap.size Wo wq)) (fun iv _ _ => n - (intOf iv).toNat)
  case atStart => exact ⟨0, rfl, by omega, Lib.hid (.inl ⟨rfl, rfl⟩), Lib.hid (Below.refl _ _)⟩
  case round =>
    obtain ⟨i, rfl, hi, HK, HW⟩ := hrel
    have c5 : wr.cell? ⟨nr, 5, none⟩ = some (.slice A n cap) := (HW.out.cell (p := ⟨nr, 5, none⟩) HX.out.1.lt).trans (HX.out.1.cell 5 rfl)
    by_cases hin : i < n
    · have di : decide ((i : Int) < (n : Int)) = true := by simp; omega
      obtain ⟨g, A1, c1, e1, hib, hc1, hce⟩ := HR.out.at_ hin
      simp only at e1
      subst e1
      have hbw : Below w.heap.size w wr := HX.out.2.trans (HW.out.mono HX.out.2.size)
      obtain ⟨q0, q4⟩ := hce wr hbw
      rcases HK.out with ⟨hi0, rfl⟩ | ⟨hi0, rfl⟩
      · have HI0 := Lib.hid hi0
        clear hi0 HK q4 hce hbw
        go_wp2_with fail
        go_quiet (fail)
        have HW2 := Lib.hid (Below.drewN' HW.out nq)
        clear q0 c5
        go_wp2_with fail
        go_roundw
        case rel => exact ⟨i + 1, by simp, by omega, Lib.hid (.inr ⟨by omega, by rw [HI0.out]; rfl⟩), HW2⟩
        case measure => simp [intOf]; omega
      · obtain ⟨g2, A2, c2, e2, hib2, hc2, hce2⟩ := HR.out.at_ (i := 0) (show 0 < n by omega)
        simp only at e2
        injection e2 with e2
        injection e2 with e2
        subst e2
        obtain ⟨p0, p4⟩ := hce2 wr hbw
        have hle := List.pairwise_iff_getElem.1 HSO.out 0 i hib2 hib hi0
        obtain ⟨da, hda⟩ : ∃ x, b.L[i].due = x := ⟨_, rfl⟩
        obtain ⟨db, hdb⟩ : ∃ x, b.L[0].due = x := ⟨_, rfl⟩
        rw [hda] at q0 hle
        rw [hdb] at p0 hle
        have t1 : decide ((da : Int) < (db : Int)) = false := by simp; omega
        have t2 : decide (da < db) = false := by simp; omega
        have p0' : wr.cell? ⟨g, 0, none⟩ = some (.int .i64 (db : Int)) := by simpa using p0
        clear hda hdb hle q4 p4 hce hce2 hbw HK
        go_wp2_with fail
        go_quiet (fail)
        have HW2 := Lib.hid (Below.drewN' HW.out nq)
        clear q0 c5 p0 p0'
        go_wp2_with fail
        go_roundw
        case rel => exact ⟨i + 1, by simp, by omega, Lib.hid (.inr ⟨by omega, rfl⟩), HW2⟩
        case measure => simp [intOf]; omega
    · obtain rfl : n = i := by omega
      have di : decide ((n : Int) < (n : Int)) = false := by simp
      have HE := Lib.hid (HX.out.2.trans (HW.out.mono HX.out.2.size))
      rcases HK.out with ⟨hi0, rfl⟩ | ⟨hi0, rfl⟩
      · have hr : (if n = 0 then (-1 : Int) else 0) = -1 := if_pos hi0
        clear hi0 HK
        go_wp2_with fail
        go_ret
        exact ⟨rfl, HE⟩
      · have hr : (if n = 0 then (-1 : Int) else 0) = 0 := if_neg (by omega)
        clear hi0 HK
        go_wp2_with fail
        go_ret
        exact ⟨rfl, HE⟩
end Go.Proofs.Ythpcnnkdpgjiiaa
