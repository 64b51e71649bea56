/-
  The document's Next.
-/
import Derived.Test.YthpcnnkdpgjiiaaTlRef1
namespace Go.Proofs.Ythpcnnkdpgjiiaa
open Go.RowKit Go.Maps Go.Proofs.HeapMath Go.Proofs.TailMath

variable {P : Nat → Prop}

set_option linter.unusedSimpArgs false in
set_option maxRecDepth 100000 in
set_option maxHeartbeats 2000000 in
theorem refNext_any (w : World) (b : St) (r : Rf) (h : RfIn P w b r) (hso : b.L.Pairwise fun a b => a.due ≤ b.due) (hn2 : r.n ≤ 5000) :
    Calls Try.prog 19 #[rfV b r] w fun e w' => e = .returned (.tuple #[.int .i64 ((nextOf b.L).1 : Int), .bool (nextOf b.L).2]) ∧ Hid (Below w.heap.size w w') := by
  have hF := fun W (hB : Below w.heap.size w W) => refFirst_any W b r (h.later hB) hso hn2
  obtain ⟨A, n, cap, B, m, capB⟩ := r
  have HR := Lib.hid h
  have hnl := h.n
  simp only at hn2 hF hnl
  obtain ⟨nr, hnr⟩ : ∃ x, w.heap.size = x := ⟨_, rfl⟩
  have hbk := hnr ▸ blk_new w (rfC b ⟨A, n, cap, B, m, capB⟩) 50
  have hbl : Below w.heap.size w (w.alloc (.cells (rfC b ⟨A, n, cap, B, m, capB⟩) 50)) := box_below _
  unfold rfC at hbk hbl
  unfold rfV at hF ⊢
  have HBK := Lib.hid hbk
  have HBL := Lib.hid hbl
  have HF := Lib.hid hF
  have HNL := Lib.hid hnl
  clear hbk hbl h hso hF hnl
  go_enter Try.func19, Try.ntmps19
  have HC := Lib.hid (HF.out _ HBL.out)
  by_cases hn : n = 0
  · have e : (if n = 0 then (-1 : Int) else 0) = -1 := if_pos hn
    have hC := HC.out
    rw [e] at hC
    have HC1 := Lib.hid hC
    have hL : b.L = [] := List.eq_nil_of_length_eq_zero (by rw [HNL.out]; exact hn)
    rw [hL]
    clear hn e hC HC
    go_wp2_with fail
    refine HC1.out.mono ?_
    rintro e w2 ⟨rfl, HB2⟩
    have HE := Lib.hid (HBL.out.trans (HB2.out.mono HBL.out.size))
    go_wp2_with fail
    exact bodyPost_ret (v := .tuple #[.int .i64 0, .bool false]) (by simp [results, Try.results19, go_sem]) rfl ⟨rfl, HE⟩
  · have e : (if n = 0 then (-1 : Int) else 0) = 0 := if_neg hn
    have hC := HC.out
    rw [e] at hC
    have HC1 := Lib.hid hC
    obtain ⟨g, A1, c1, e1, hib, hc1, hce⟩ := HR.out.at_ (i := 0) (show 0 < n by omega)
    simp only at e1
    subst e1
    obtain ⟨g0, L1, hL⟩ : ∃ g0 L1, b.L = g0 :: L1 := by
      cases hL : b.L with
      | nil => rw [hL] at hib; exact absurd hib (by simp)
      | cons a l => exact ⟨a, l, rfl⟩
    have hd : b.L[0] = g0 := by simp [hL]
    rw [hL]
    have hn1 : 1 ≤ n := by omega
    have dn : decide ((0 : Int) < (n : Int)) = true := by simp; omega
    have HCE := Lib.hid hce
    have HD := Lib.hid hd
    clear hn e hC HC hce hd hL hc1
    go_wp2_with fail
    refine HC1.out.mono ?_
    rintro e w2 ⟨rfl, HB2⟩
    have hbw := HBL.out.trans (HB2.out.mono HBL.out.size)
    have HE := Lib.hid hbw
    have c5 : w2.cell? ⟨nr, 5, none⟩ = some (.slice (some ⟨g, 0, none⟩) n cap) := (HB2.out.cell (p := ⟨nr, 5, none⟩) HBK.out.lt).trans (HBK.out.cell 5 rfl)
    obtain ⟨p0, _⟩ := HCE.out w2 hbw
    rw [HD.out] at p0
    have p0' : w2.cell? ⟨g, 0, none⟩ = some (.int .i64 (g0.due : Int)) := by simpa using p0
    clear hbw HC1
    go_wp2_with fail
    exact bodyPost_ret (v := .tuple #[.int .i64 (g0.due : Int), .bool true]) (by simp [results, Try.results19, go_sem]) rfl ⟨rfl, HE⟩
end Go.Proofs.Ythpcnnkdpgjiiaa
