/-
  The document's Due.
-/
import Derived.Test.YthpcnnkdpgjiiaaTlRef10
import Derived.Test.YthpcnnkdpgjiiaaTlRef1
namespace Go.Proofs.Ythpcnnkdpgjiiaa
open Go.RowKit Go.Maps Go.Proofs.HeapMath Go.Proofs.TailMath

variable {P : Nat → Prop}
def lenV : Value → Nat
  | .slice _ n _ => n
  | _ => 0

set_option linter.unusedSimpArgs false in
set_option maxRecDepth 100000 in
set_option maxHeartbeats 4000000 in
theorem refDue_no (now : Int) (w : World) (b : St) (r : Rf) (h : RfIn P w b r) (ht : okT b now = false) :
    Calls Try.prog 33 #[rfV b r, .int .i64 now] w (DuTo P w b [] 60) := by
  have h2 : now < (b.time : Int) ∨ 1099511627776 < now := by simp [okT] at ht; omega
  obtain ⟨A, n, cap, B, m, capB⟩ := r
  have HI := Lib.hid (show Below w.heap.size w ((w.alloc (.cells #[.int .i64 (b.sp : Int), .int .i64 (b.wait : Int), .int .i64 (b.most : Int), .int .i64 (b.time : Int), .int .i64 (b.came : Int), .slice A n cap, .slice B m capB] 50)).alloc (.cells #[.int .i64 (b.sp : Int), .int .i64 (b.wait : Int), .int .i64 (b.most : Int), .int .i64 (b.time : Int), .int .i64 (b.came : Int), .slice A n cap, .slice B m capB] 50)) ∧ Blk ((w.alloc (.cells #[.int .i64 (b.sp : Int), .int .i64 (b.wait : Int), .int .i64 (b.most : Int), .int .i64 (b.time : Int), .int .i64 (b.came : Int), .slice A n cap, .slice B m capB] 50)).alloc (.cells #[.int .i64 (b.sp : Int), .int .i64 (b.wait : Int), .int .i64 (b.most : Int), .int .i64 (b.time : Int), .int .i64 (b.came : Int), .slice A n cap, .slice B m capB] 50)) (w.heap.size + 1) (rfC b ⟨A, n, cap, B, m, capB⟩) 50 from ⟨(box_below _).alloc (by simp) _, by
    have := blk_new (w.alloc (.cells #[.int .i64 (b.sp : Int), .int .i64 (b.wait : Int), .int .i64 (b.most : Int), .int .i64 (b.time : Int), .int .i64 (b.came : Int), .slice A n cap, .slice B m capB] 50)) #[.int .i64 (b.sp : Int), .int .i64 (b.wait : Int), .int .i64 (b.most : Int), .int .i64 (b.time : Int), .int .i64 (b.came : Int), .slice A n cap, .slice B m capB] 50
    rw [World.size_alloc] at this
    exact this⟩)
  have HR := Lib.hid h
  obtain ⟨tm, htm⟩ : ∃ x, b.time = x := ⟨_, rfl⟩
  have HTM := Lib.hid htm
  unfold rfV
  rw [htm] at h2 HI
  rw [htm]
  clear h ht htm
  have fin : DuTo P w b [] 60 (.returned (.tuple #[rfV b ⟨A, n, cap, B, m, capB⟩, .slice none 0 0, .int .i64 60])) ((w.alloc (.cells #[.int .i64 (b.sp : Int), .int .i64 (b.wait : Int), .int .i64 (b.most : Int), .int .i64 (tm : Int), .int .i64 (b.came : Int), .slice A n cap, .slice B m capB] 50)).alloc (.cells #[.int .i64 (b.sp : Int), .int .i64 (b.wait : Int), .int .i64 (b.most : Int), .int .i64 (tm : Int), .int .i64 (b.came : Int), .slice A n cap, .slice B m capB] 50)) := ⟨⟨A, n, cap, B, m, capB⟩, none, 0, 0, [], rfl, Lib.hid (HR.out.later HI.out.1), Lib.hid ⟨fun h => absurd h (by simp), by simp [FarT]⟩, Lib.hid rfl, rfl, Nat.le_refl _, Lib.hid HI.out.1⟩
  have FIN := Lib.hid fin
  clear fin
  by_cases h3 : now < (tm : Int)
  · have t1 : decide (now < (tm : Int)) = true := by simpa using h3
    clear h2 h3
    go_enter Try.func33, Try.ntmps33
    go_wp2_with fail
    exact bodyPost_ret (du_results (b := b) (r := ⟨A, n, cap, B, m, capB⟩) rfl HI.out.2 rfl rfl rfl) rfl FIN.out
  · have t1 : decide (now < (tm : Int)) = false := by simpa using h3
    have t2 : decide ((1099511627776 : Int) < now) = true := by simp; omega
    clear h2 h3
    go_enter Try.func33, Try.ntmps33
    go_wp2_with fail
    exact bodyPost_ret (du_results (b := b) (r := ⟨A, n, cap, B, m, capB⟩) rfl HI.out.2 rfl rfl rfl) rfl FIN.out

set_option linter.unusedSimpArgs false in
set_option maxRecDepth 100000 in
set_option maxHeartbeats 8000000 in
theorem refDue_ok (t : Nat) (w : World) (b : St) (r : Rf) (h : RfIn P w b r) (hiv : Iv b) (ht1 : b.time ≤ t) (ht2 : t ≤ 1099511627776) (hn2 : r.n ≤ 5000) (hP : ∀ k, w.heap.size ≤ k → P k) :
    Calls Try.prog 33 #[rfV b r, .int .i64 (t : Int)] w (DuTo P w (dued (TailMath.at_ b t) (t : Int)) (dueL (t : Int) b.L) 0) := by
  obtain ⟨A, n, cap, B, m, capB⟩ := r
  obtain ⟨l0, hl0, htr, hfar⟩ := h.L
  have hln : l0.length = n := by have := h.n; simp only at this; rw [← this, ← hl0, List.length_map]
  have hok : ∀ x ∈ l0, OkT w x := fun x hx => by
    obtain ⟨i, hi, rfl⟩ := List.getElem_of_mem hx
    obtain ⟨g, _, _, hc⟩ := htr (by omega)
    obtain ⟨_, _, _, _, _, a5, a6⟩ := hc i hi
    exact ⟨a5, a6⟩
  simp only at hn2
  have hcap0 : n ≤ cap := h.cap
  obtain ⟨n0, hn0⟩ : ∃ x, w.heap.size = x := ⟨_, rfl⟩
  have hd0 : DlI P n0 w ((w.alloc (.cells #[.int .i64 (b.sp : Int), .int .i64 (b.wait : Int), .int .i64 (b.most : Int), .int .i64 (t : Int), .int .i64 (b.came : Int), .slice A n cap, .slice B m capB] 50)).alloc (.cells #[.int .i64 0, .int .i64 0, .int .i64 0, .int .i64 0, .int .i64 0, .slice none 0 0, .slice none 0 0] 50)) (TailMath.at_ b t) l0 ⟨A, n, cap, B, m, capB⟩ 0 none 0 := by
    subst hn0
    have b0 := blk_new w (rfC (TailMath.at_ b t) ⟨A, n, cap, B, m, capB⟩) 50
    have b1 := blk_new (w.alloc (.cells (rfC (TailMath.at_ b t) ⟨A, n, cap, B, m, capB⟩) 50)) (rfC (new 0 0 0) rf0) 50
    rw [World.size_alloc] at b1
    have hb : Below w.heap.size w ((w.alloc (.cells #[.int .i64 (b.sp : Int), .int .i64 (b.wait : Int), .int .i64 (b.most : Int), .int .i64 (t : Int), .int .i64 (b.came : Int), .slice A n cap, .slice B m capB] 50)).alloc (.cells #[.int .i64 0, .int .i64 0, .int .i64 0, .int .i64 0, .int .i64 0, .slice none 0 0, .slice none 0 0] 50)) := (box_below _).alloc (by simp) _
    exact ⟨hb, b0.later (box_below _), b1, by rw [List.drop_zero]; exact htr.later hb, ⟨rfl, .inl ⟨rfl, rfl⟩⟩, fun _ => rfl, by rw [List.drop_zero]; exact hfar.1⟩
  have HD0 := Lib.hid hd0
  have HR := Lib.hid h
  have HL0 := Lib.hid hl0
  have HLN := Lib.hid hln
  have HOK := Lib.hid hok
  have HN0 := Lib.hid hn0
  have HP := Lib.hid (show ∀ k, n0 ≤ k → P k from fun k hk => hP k (by rw [hn0]; exact hk))
  have HFAR := Lib.hid hfar
  have HSO := Lib.hid (show b.L.Pairwise (fun a b => a.due ≤ b.due) from hiv.L.so.imp fun h => h.2)
  have HF := Lib.hid (show ∀ W j q A' c' A2 c2, DlI P n0 w W (TailMath.at_ b t) l0 ⟨A', q, c', B, m, capB⟩ j A2 c2 → j + q = n → q ≤ c' → Calls Try.prog 38 #[rfV (TailMath.at_ b t) ⟨A', q, c', B, m, capB⟩] W fun e w' => e = .returned (.int .i64 (if q = 0 then -1 else 0)) ∧ Hid (Below W.heap.size W w') from fun W j q A' c' A2 c2 hd hj hc => by
    have hrf := hd.rf hn0 h hl0 hj hc rfl rfl _ rfl hfar
    have := refFirst_any W { TailMath.at_ b t with L := b.L.drop j } ⟨A', q, c', B, m, capB⟩ hrf (HSO.out.sublist (List.drop_sublist _ _)) (by show q ≤ 5000; omega)
    exact this)
  have tm1 : decide ((t : Int) < (b.time : Int)) = false := by simp; omega
  have tm1n : decide (t < b.time) = false := by simp; omega
  have tm2 : decide ((1099511627776 : Int) < (t : Int)) = false := by simp; omega
  have tm2n : decide (1099511627776 < t) = false := by simp; omega
  obtain ⟨k0, hk0⟩ : ∃ x : Int, (if n = 0 then -1 else 0) = x := ⟨_, rfl⟩
  have HC0 := HF.out ((w.alloc (.cells #[.int .i64 (b.sp : Int), .int .i64 (b.wait : Int), .int .i64 (b.most : Int), .int .i64 (t : Int), .int .i64 (b.came : Int), .slice A n cap, .slice B m capB] 50)).alloc (.cells #[.int .i64 0, .int .i64 0, .int .i64 0, .int .i64 0, .int .i64 0, .slice none 0 0, .slice none 0 0] 50)) 0 n A cap none 0 hd0 (by omega) hcap0
  rw [hk0] at HC0
  unfold rfV at HC0 ⊢
  have HC1 := Lib.hid HC0
  have HK0 := Lib.hid hk0
  obtain ⟨i0, hi0, hz0, hz1, hz2⟩ := info_parts info_gp
  have HI := Lib.hid (And.intro hi0 (And.intro hz0 (And.intro hz1 hz2)))
  obtain ⟨i1, hi1, hy0, hy1, hy2⟩ := info_parts info_dt
  have HI1 := Lib.hid (And.intro hi1 (And.intro hy0 (And.intro hy1 hy2)))
  clear h hP hfar hiv hl0 htr hln hok hd0 HC0 hk0 hi0 hz0 hz1 hz2 hi1 hy0 hy1 hy2
  go_enter Try.func33, Try.ntmps33
  go_wp2_with fail
  refine HC1.out.mono ?_
  rintro e w2 ⟨rfl, HB2⟩
  have HD1 := Lib.hid (HD0.out.later HB2.out)
  clear hn0 tm1 tm1n tm2 tm2n HC1 HB2 HD0
  go_wp2_with fail
  go_loopw [8, 7] (fun kv ov wq => ∃ (kk : Int) (j q : Nat) (A' : Option Addr) (c' : Nat) (A2 : Option Addr) (c2 : Nat), kv = .int .i64 kk ∧ ov = .slice A2 j c2 ∧ j + q = n ∧ q ≤ c' ∧ Hid ((if q = 0 then -1 else 0) = kk) ∧ Hid (∀ i (h : i < b.L.length), i < j → b.L[i].due ≤ t) ∧ Hid (DlI P n0 w wq (TailMath.at_ b t) l0 ⟨A', q, c', B, m, capB⟩ j A2 c2)) (fun _ ov _ => n - lenV ov)
  case atStart => exact ⟨k0, 0, n, A, cap, none, 0, rfl, rfl, by omega, hcap0, HK0, Lib.hid (fun i _ hi => absurd hi (by omega)), HD1⟩
  case round =>
    obtain ⟨kk, j, q, A', c', A2, c2, rfl, rfl, hjq, hqc, HK, HDU, HD⟩ := hrel
    by_cases hq0 : q = 0
    · obtain rfl : kk = -1 := by have := HK.out; rw [if_pos hq0] at this; exact this.symm
      have HC := Lib.hid (due_cut (t := t) (L := b.L) (j := j) HDU.out (by rw [← HL0.out, List.length_map, HLN.out]; omega) (fun h => by rw [← HL0.out, List.length_map, HLN.out] at h; omega))
      clear HK HDU hq0 HI HI1 HF
      have HE := Lib.hid (HD.out.close (b' := dued (TailMath.at_ b t) (t : Int)) HN0.out HR.out HL0.out HOK.out hjq hqc rfl rfl (by show dued _ _ = _; unfold dued; rw [show (TailMath.at_ b t).L = b.L from rfl, HC.out.2]) HFAR.out HP.out)
      have HB1 := Lib.hid HD.out.blk1
      have HB0 := Lib.hid HD.out.blk
      clear HD
      go_wp2_with (first
        | (with_reducible refine wpList_load_row rfl 50 (.tmp 2) rfl n0 (by with_unfolding_all exact rfl) 50 (rfC (TailMath.at_ b t) ⟨A', q, c', B, m, capB⟩) (0, 0) _ (by with_unfolding_all exact HB0.out) Try.underlying50 (by with_unfolding_all exact rfl) (by kernel_rfl) ?_)
        | (with_reducible refine wpList_store_row rfl 50 (.tmp 4) _ rfl (n0 + 1) (rfC (TailMath.at_ b t) ⟨A', q, c', B, m, capB⟩) (by with_unfolding_all exact rfl) (by with_unfolding_all exact rfl) 50 (rfC (new 0 0 0) rf0) (by with_unfolding_all exact HB1.out) (by kernel_rfl) (by with_unfolding_all exact rfl) (rfC_one _ _) ?_)
        | fail)
      refine bodyPost_ret (du_results (b := TailMath.at_ b t) (r := ⟨A', q, c', B, m, capB⟩) rfl HE.out.1 rfl rfl rfl) rfl ?_
      exact ⟨⟨A', q, c', B, m, capB⟩, A2, j, c2, l0.take j, by rw [rfV_dued]; rfl, Lib.hid HE.out.2.1, Lib.hid ⟨HE.out.2.2.1, HE.out.2.2.2.1⟩, Lib.hid (by rw [HC.out.1, List.map_take, HL0.out]), by rw [List.length_take, HLN.out]; omega, HE.out.2.2.2.2.1, Lib.hid (by rw [HN0.out]; exact HE.out.2.2.2.2.2)⟩
    · obtain ⟨p, rfl⟩ : ∃ p, q = p + 1 := ⟨q - 1, by omega⟩
      obtain rfl : kk = 0 := by have := HK.out; rw [if_neg hq0] at this; exact this.symm
      have hjl : j < l0.length := by rw [HLN.out]; omega
      obtain ⟨g, e1, hg, hne, hc5, hcr⟩ := HD.out.front hjl
      simp only at e1
      subst e1
      obtain ⟨x, hx⟩ : ∃ y, l0[j] = y := ⟨_, rfl⟩
      have hbl : ∃ h : j < b.L.length, b.L[j] = x.1 := by
        have hh : j < b.L.length := by rw [← HL0.out, List.length_map]; exact hjl
        refine ⟨hh, ?_⟩
        have : b.L[j] = (l0[j]).1 := by simp [← HL0.out]
        rw [this, hx]
      rw [hx] at hc5
      have HX := Lib.hid (And.intro hjl hx)
      obtain ⟨⟨du, nu, gh, gl, sps⟩, gs, cs⟩ := x
      have HBL := Lib.hid hbl
      obtain ⟨sl, hsl⟩ : ∃ x, sps.length = x := ⟨_, rfl⟩
      have p0 : wr.cell? ⟨g, 0, none⟩ = some (.int .i64 (du : Int)) := hc5 0 (by omega)
      have p1 : wr.cell? ⟨g, 1, none⟩ = some (.int .i64 (nu : Int)) := hc5 1 (by omega)
      have p2 : wr.cell? ⟨g, 2, none⟩ = some (.int .u64 (gh : Int)) := hc5 2 (by omega)
      have p3 : wr.cell? ⟨g, 3, none⟩ = some (.int .u64 (gl : Int)) := hc5 3 (by omega)
      have p4 : wr.cell? ⟨g, 4, none⟩ = some (.slice gs sl cs) := hsl ▸ hc5 4 (by omega)
      have c5 : wr.cell? ⟨n0, 5, none⟩ = some (.slice (some ⟨g, 0, none⟩) (p + 1) c') := HD.out.blk.cell 5 rfl
      have tp : decide ((0 : Int) < ((p + 1 : Nat) : Int)) = true := by simp <;> omega
      have hp5 : p ≤ 5000 := by omega
      by_cases hdu : t < du
      · have t5 : decide ((du : Int) ≤ (t : Int)) = false := by simp; omega
        have t5n : decide (du ≤ t) = false := by simp; omega
        have HC := Lib.hid (due_cut (t := t) (L := b.L) (j := j) HDU.out (by rw [← HL0.out, List.length_map, HLN.out]; omega) (fun h => by rw [hbl.2]; exact hdu))
        clear HK HDU hq0 HI HI1 HF HX hbl hx hjl hc5 hcr hne
        have HE := Lib.hid (HD.out.close (b' := dued (TailMath.at_ b t) (t : Int)) HN0.out HR.out HL0.out HOK.out hjq hqc rfl rfl (by show dued _ _ = _; unfold dued; rw [show (TailMath.at_ b t).L = b.L from rfl, HC.out.2]) HFAR.out HP.out)
        have HB1 := Lib.hid HD.out.blk1
        have HB0 := Lib.hid HD.out.blk
        clear HD
        go_wp2_with (first
          | (with_reducible refine wpList_load_row rfl 50 (.tmp 2) rfl n0 (by with_unfolding_all exact rfl) 50 (rfC (TailMath.at_ b t) ⟨some ⟨g, 0, none⟩, p + 1, c', B, m, capB⟩) (0, 0) _ (by with_unfolding_all exact HB0.out) Try.underlying50 (by with_unfolding_all exact rfl) (by kernel_rfl) ?_)
          | (with_reducible refine wpList_store_row rfl 50 (.tmp 4) _ rfl (n0 + 1) (rfC (TailMath.at_ b t) ⟨some ⟨g, 0, none⟩, p + 1, c', B, m, capB⟩) (by with_unfolding_all exact rfl) (by with_unfolding_all exact rfl) 50 (rfC (new 0 0 0) rf0) (by with_unfolding_all exact HB1.out) (by kernel_rfl) (by with_unfolding_all exact rfl) (rfC_one _ _) ?_)
          | fail)
        refine bodyPost_ret (du_results (b := TailMath.at_ b t) (r := ⟨some ⟨g, 0, none⟩, p + 1, c', B, m, capB⟩) rfl HE.out.1 rfl rfl rfl) rfl ?_
        exact ⟨⟨some ⟨g, 0, none⟩, p + 1, c', B, m, capB⟩, A2, j, c2, l0.take j, by rw [rfV_dued]; rfl, Lib.hid HE.out.2.1, Lib.hid ⟨HE.out.2.2.1, HE.out.2.2.2.1⟩, Lib.hid (by rw [HC.out.1, List.map_take, HL0.out]), by rw [List.length_take, HLN.out]; omega, HE.out.2.2.2.2.1, Lib.hid (by rw [HN0.out]; exact HE.out.2.2.2.2.2)⟩
      · have t5 : decide ((du : Int) ≤ (t : Int)) = true := by simp; omega
        have t5n : decide (du ≤ t) = true := by simp; omega
        obtain ⟨n1, hn1⟩ : ∃ x, wr.heap.size = x := ⟨_, rfl⟩
        have HOW := Lib.hid ((HD.out.own.alloc (.cells #[.int .i64 (du : Int), .int .i64 (nu : Int), .int .u64 (gh : Int), .int .u64 (gl : Int), .slice gs sl cs] 102)).alloc (.cells #[.int .u64 (gh : Int), .int .u64 (gl : Int), .slice gs sl cs] 41))
        have hbx := blk_new (wr.alloc (.cells #[.int .i64 (du : Int), .int .i64 (nu : Int), .int .u64 (gh : Int), .int .u64 (gl : Int), .slice gs sl cs] 102)) #[.int .u64 (gh : Int), .int .u64 (gl : Int), .slice gs sl cs] 41
        rw [World.size_alloc, hn1] at hbx
        have HBX := Lib.hid hbx
        have HB1 := Lib.hid (show Below wr.heap.size wr ((wr.alloc (.cells #[.int .i64 (du : Int), .int .i64 (nu : Int), .int .u64 (gh : Int), .int .u64 (gl : Int), .slice gs sl cs] 102)).alloc (.cells #[.int .u64 (gh : Int), .int .u64 (gl : Int), .slice gs sl cs] 41)) from (box_below _).alloc (by simp) _)
        have HSZ := Lib.hid (show n0 + 2 ≤ ((wr.alloc (.cells #[.int .i64 (du : Int), .int .i64 (nu : Int), .int .u64 (gh : Int), .int .u64 (gl : Int), .slice gs sl cs] 102)).alloc (.cells #[.int .u64 (gh : Int), .int .u64 (gl : Int), .slice gs sl cs] 41)).heap.size from by have := HD.out.size; simp; omega)
        have HSL := Lib.hid hsl
        have HNE := Lib.hid hne
        have HCR := Lib.hid hcr
        have HGL := Lib.hid hg
        have hdu' : du ≤ t := by omega
        clear hbx hq0 hbl hx hc5 hcr hne hsl hg hdu
        go_wp2_with (first
          | (refine app_one Try.underlying36 HI.out.1 HI.out.2.1 HI.out.2.2.1 HI.out.2.2.2 rfl (by decide) rfl _ _ rfl (n0 + 2) A2 j c2 _ (gpL (⟨du, nu, gh, gl, sps⟩, gs, cs)) (n1 + 1) 1 rfl HOW.out rfl rfl (fun jj uu hj => ?_) (gpL_one _) (by omega) (by omega) HSZ.out ?_)
          | fail)
        · first
            | (refine HBX.out.cell jj ?_; rw [← hj])
            | rw [← hj]
          have hsl := HSL.out
          match jj with
          | 0 => rfl
          | 1 => rfl
          | 2 => simp [gpL, hsl]
          | _ + 3 => simp [gpL]
        · intro g2 c2' w2 ho2 hg2 _
          have hown1 := HOW.out.lt
          have m2 : Mut (Value.slice A2 j c2).ownBlock.toList ((wr.alloc (.cells #[.int .i64 (du : Int), .int .i64 (nu : Int), .int .u64 (gh : Int), .int .u64 (gl : Int), .slice gs sl cs] 102)).alloc (.cells #[.int .u64 (gh : Int), .int .u64 (gl : Int), .slice gs sl cs] 41)) w2 := ⟨hg2.os, hg2.tape, hg2.output, hg2.size, fun k hk hn => hg2.block k hk fun e => hn (by rw [← e]; simp)⟩
          have hb2 : Blk w2 n0 (rfC (TailMath.at_ b t) ⟨some ⟨g, 0, none⟩, p + 1, c', B, m, capB⟩) 50 := ((HD.out.later HB1.out).blk).mut m2 (fun hm => by have := (hown1 n0 (by simpa using hm)).1; omega)
          have c52 : w2.cell? ⟨n0, 5, none⟩ = some (.slice (some ⟨g, 0, none⟩) (p + 1) c') := hb2.cell 5 rfl
          have hcut0 := cut_none g (p + 1) c'
          have HSZ2 := Lib.hid (show n0 + 2 ≤ w2.heap.size from Nat.le_trans HSZ.out hg2.size)
          have HM2 := Lib.hid (And.intro m2 (And.intro hb2 (And.intro hg2 ho2)))
          clear c5 p0 p1 p2 p3 p4 hown1 m2 hb2 hg2 ho2 hn1 HBX
          go_wp2_with (first
            | (refine app_more Try.underlying47 HI1.out.1 HI1.out.2.1 HI1.out.2.2.1 HI1.out.2.2.2 rfl (by decide) rfl _ _ rfl (n0 + 2) ⟨g, 0, none⟩ 0 c' [] rfl rfl rfl (fun jj uu hj => by simp at hj) (by simp) (by omega) (by omega) HSZ2.out ?_)
            | fail)
          intro A3 c3 w3 ho3 hg3 hA3 hc3
          subst hA3 hc3
          have b3 : Below w2.heap.size w2 w3 := ⟨hg3.os, hg3.tape, hg3.output, hg3.size, fun k hk => hg3.block k hk (by simp)⟩
          have c53 : w3.cell? ⟨n0, 5, none⟩ = some (.slice (some ⟨g, 0, none⟩) (p + 1) c') := (HM2.out.2.1.later b3).cell 5 rfl
          obtain ⟨oo, cc, hoo, hcut1⟩ := cut_one g p c' hqc
          have HOO := Lib.hid hoo
          have HSZ3 := Lib.hid (show n0 + 2 ≤ w3.heap.size from Nat.le_trans HSZ2.out hg3.size)
          have HM3 := Lib.hid (And.intro hg3 b3)
          clear c52 hcut0 ho3 hg3 b3 hoo
          go_wp2_with (first
            | (refine app_more Try.underlying47 HI1.out.1 HI1.out.2.1 HI1.out.2.2.1 HI1.out.2.2.2 rfl (by decide) rfl _ _ rfl (n0 + 2) ⟨g, oo, none⟩ p cc (dtC (l0.drop (j + 1))) rfl rfl ?_ (fun jj uu hj => ?_) (dtC_ones _) (by omega) (by omega) HSZ3.out ?_)
            | fail)
          · rw [dtC_length, List.length_drop, HLN.out]
            have : n - (j + 1) = p := by omega
            rw [this]
          · have hil : jj < (dtC (l0.drop (j + 1))).length := (List.getElem?_eq_some_iff.1 hj).1
            rw [dtC_length, List.length_drop, HLN.out] at hil
            have ho5 : oo = 5 := by
              rcases HOO.out with h | h
              · subst h
                have : n - (j + 1) = 0 := by omega
                rw [this] at hil
                omega
              · exact h
            subst ho5
            rw [Addr.add_lit]
            have h1 := HCR.out jj uu hj
            have hgw : g < ((wr.alloc (.cells #[.int .i64 (du : Int), .int .i64 (nu : Int), .int .u64 (gh : Int), .int .u64 (gl : Int), .slice gs sl cs] 102)).alloc (.cells #[.int .u64 (gh : Int), .int .u64 (gl : Int), .slice gs sl cs] 41)).heap.size := Nat.lt_of_lt_of_le HGL.out HB1.out.size
            have e1 : ((wr.alloc (.cells #[.int .i64 (du : Int), .int .i64 (nu : Int), .int .u64 (gh : Int), .int .u64 (gl : Int), .slice gs sl cs] 102)).alloc (.cells #[.int .u64 (gh : Int), .int .u64 (gl : Int), .slice gs sl cs] 41)).cell? ⟨g, 5 + jj, none⟩ = some uu := (HB1.out.cell (p := ⟨g, 5 + jj, none⟩) HGL.out).trans h1
            have e2 : w2.cell? ⟨g, 5 + jj, none⟩ = some uu := (World.cell?_of_block (HM2.out.1.block g hgw (fun hm => HNE.out (by simpa using hm)))).trans e1
            exact (HM3.out.2.cell (p := ⟨g, 5 + jj, none⟩) (Nat.lt_of_lt_of_le hgw HM2.out.1.size)).trans e2
          · intro A4 c4 w4 ho4 hg4 _ hpc
            have hjl := HX.out.1
            have hbb4 : Below w3.heap.size w3 w4 := ⟨hg4.os, hg4.tape, hg4.output, hg4.size, fun k hk => hg4.block k hk (by simp)⟩
            have hb4 : Blk w4 n0 (rfC (TailMath.at_ b t) ⟨some ⟨g, 0, none⟩, p + 1, c', B, m, capB⟩) 50 := (HM2.out.2.1.later HM3.out.2).later hbb4
            have c54 : w4.cell? ⟨n0, 5, none⟩ = some (.slice (some ⟨g, 0, none⟩) (p + 1) c') := hb4.cell 5 rfl
            have f5 : w4.frozen? ⟨n0, 5, none⟩ = false := hb4.free 5
            have HDN := Lib.hid (HD.out.step HN0.out HOK.out hjl (q := p) (by rw [HLN.out]; omega) HB1.out HM2.out.2.2.1 (by rw [HX.out.2]; exact HM2.out.2.2.2) HM3.out.1 hg4 ho4 HP.out)
            obtain ⟨k1, hk1⟩ : ∃ x : Int, (if p = 0 then -1 else 0) = x := ⟨_, rfl⟩
            have hcn := HF.out (w4.setCell ⟨n0, 5, none⟩ (.slice A4 p c4)) (j + 1) p A4 c4 _ c2' HDN.out (by omega) hpc
            rw [hk1] at hcn
            have HCN := Lib.hid (show Calls Try.prog 38 #[.agg (rfC (TailMath.at_ b t) ⟨A4, p, c4, B, m, capB⟩)] (w4.setCell ⟨n0, 5, none⟩ (.slice A4 p c4)) (fun e w' => e = .returned (.int .i64 k1) ∧ Hid (Below (w4.setCell ⟨n0, 5, none⟩ (.slice A4 p c4)).heap.size (w4.setCell ⟨n0, 5, none⟩ (.slice A4 p c4)) w')) from hcn)
            have HK1 := Lib.hid hk1
            have HBN := Lib.hid HDN.out.blk
            have HDU1 := Lib.hid (show ∀ i (h : i < b.L.length), i < j + 1 → b.L[i].due ≤ t from fun i h hi => by
              by_cases e : i = j
              · subst e
                rw [HBL.out.2]
                exact hdu'
              · exact HDU.out i h (by omega))
            clear hcn hk1 hbb4 hb4 ho4 hg4 c53 hcut1 HM2 HM3 HB1 HOW HSZ HSZ2 HSZ3 HCR HNE HD HI HI1 HF HX HBL HDU
            go_wp2_with (first
              | (with_reducible refine wpList_load_row rfl 50 (.tmp 2) rfl n0 (by with_unfolding_all exact rfl) 50 (rfC (TailMath.at_ b t) ⟨A4, p, c4, B, m, capB⟩) (0, 0) _ (by with_unfolding_all exact HBN.out) Try.underlying50 (by with_unfolding_all exact rfl) (by kernel_rfl) ?_)
              | fail)
            refine HCN.out.mono ?_
            rintro e w6 ⟨rfl, HB6⟩
            have HDM := Lib.hid (HDN.out.later HB6.out)
            clear c54 f5 HCN HBN HDN HB6
            go_wp2_with fail
            go_roundw
            case rel => exact ⟨k1, j + 1, p, A4, c4, _, c2', rfl, rfl, by omega, hpc, HK1, HDU1, HDM⟩
            case measure => simp [lenV]; omega
end Go.Proofs.Ythpcnnkdpgjiiaa
