/-
  The document's own Drop and Pop of timers.
-/
import Derived.Test.YtlbopajnnbnolaaHpRefPush
namespace Go.Proofs.Ytlbopajnnbnolaa
open Go.RowKit Go.Maps Go.Proofs.HeapMath

theorem drop_doc {w W2 w8 : World} {n0 n i cap8 g : Nat} {A8 : Option Addr} {s : List Tm} {bs : List Nat} {no : Int} {u v : Value} (hn0 : w.heap.size = n0) (hB : Below n0 w W2) (hg : n0 ≤ g ∧ g < n0 + 2) (h8 : Below (n0 + 2) W2 w8 ∧ n0 + 2 ≤ w8.heap.size)
    (ho : w8.ownsRow (n0 + 2) 31 2 (.slice A8 (n - 1) cap8) (n - 1) (cl (([] ++ s.take i) ++ s.drop (i + 1)))) (hl : s.length = n) (hn : Nn s) (hi : i < n) (hno : (at_ s i).2 = no) (h5 : n ≤ 5000) (hbs : ∀ k ∈ bs, k < w.heap.size) :
    Below w.heap.size w ((w8.setCell ⟨g, 0, none⟩ u).setCell ⟨g, 1, none⟩ v) ∧ Dc ((w8.setCell ⟨g, 0, none⟩ u).setCell ⟨g, 1, none⟩ v) A8 (n - 1) cap8 (del no s) bs := by
  refine ⟨hn0 ▸ ((hB.trans (h8.1.mono (by omega))).setCell (by simp; omega) _).setCell (by simp; omega) _, ?_⟩
  have e : ([] ++ s.take i) ++ s.drop (i + 1) = del no s := by rw [← hno, ← del_at hn (by omega)]; simp
  rw [e] at ho
  have hlen : (del no s).length = n - 1 := by
    have := del_len hn (isin_true.2 ⟨_, at_mem (by omega : i < s.length), hno⟩)
    omega
  refine row_dc (row_same ho fun x hx => ?_) hlen (by omega) (fun k hk => by have := hbs k hk; omega)
  have := (ho.lt x hx).1
  rw [Below.heap_setCell _ _ _ _ (by simp; omega), Below.heap_setCell _ _ _ _ (by simp; omega)]

set_option maxRecDepth 100000 in
set_option maxHeartbeats 4000000 in
theorem refDrop_any {A : Option Addr} {n cap most : Nat} {s : List Tm} {bs : List Nat} (no : Int) (w : World) (h : Dc w A n cap s bs) (hn : Nn s) (hbs : ∀ k ∈ bs, k < w.heap.size) :
    Calls Try.prog 29 #[.agg #[.slice A n cap, .int .i64 (most : Int)], .int .i64 no] w (DocE w most bs (del no s) (.bool (isin no s))) := by
  obtain ⟨n0, hn0⟩ : ∃ n0, w.heap.size = n0 := ⟨_, rfl⟩
  have hl := h.len
  have h5 := h.five
  obtain ⟨hncap, hcap63⟩ := h.cap_
  have hB : Below n0 w ((w.alloc (.cells #[.slice A n cap, .int .i64 (most : Int)] 40)).alloc (.cells #[.slice none 0 0, .int .i64 0] 40)) := by
    rw [← hn0]
    exact (box_below _).alloc (by simp) _
  have hk0 := blk_new w #[.slice A n cap, .int .i64 (most : Int)] 40
  have hk2 := blk_new (w.alloc (.cells #[.slice A n cap, .int .i64 (most : Int)] 40)) #[.slice none 0 0, .int .i64 0] 40
  simp only [World.size_alloc, hn0] at hk0 hk2
  have hk0' := hk0.later (box_below (.cells #[.slice none 0 0, .int .i64 0] 40))
  obtain ⟨W2, hW2⟩ : ∃ W2, (w.alloc (.cells #[.slice A n cap, .int .i64 (most : Int)] 40)).alloc (.cells #[.slice none 0 0, .int .i64 0] 40) = W2 := ⟨_, rfl⟩
  have hs2 : W2.heap.size = n0 + 2 := by rw [← hW2]; simp [hn0]
  rw [hW2] at hB hk0' hk2
  have hPl := refPlace_any (most := most) no W2 (h.later (hn0 ▸ hB)) hn
  have HB := Lib.hid hB
  have HK2 := Lib.hid hk2
  have HS2 := Lib.hid hs2
  have HD := Lib.hid h
  have HPL := Lib.hid hPl
  have k0 := hk0'.cell 0 rfl
  have k1 := hk0'.cell 1 rfl
  have HK0 := Lib.hid hk0'
  have HN0 := Lib.hid hn0
  have HN := Lib.hid hn
  have HBS := Lib.hid hbs
  have HL := Lib.hid hl
  clear hB hk2 hs2 h hPl hk0' hk0 hn hbs hl
  go_enter Try.func29, Try.ntmps29
  go_wp2_with fail
  refine HPL.out.mono ?_
  rintro e w4 ⟨p, rfl, HP⟩
  clear hW2 k0 k1
  have hb4 : Below (n0 + 2) W2 w4 := HS2.out ▸ HP.out.1
  have k0 := (HK0.out.same (hb4.block _ (by omega))).cell 0 rfl
  have k1 := (HK0.out.same (hb4.block _ (by omega))).cell 1 rfl
  have hk2 := HK2.out.same (hb4.block _ (by omega))
  have r0 := hk2.cell 0 rfl
  have r1 := hk2.cell 1 rfl
  have f0 := hk2.free 0
  have f1 := hk2.free 1
  have q0 := Lib.hid (((hk2.set 0 (.slice A n cap)).set 1 (.int .i64 (most : Int))).cell 0 rfl)
  have q1 := Lib.hid (((hk2.set 0 (.slice A n cap)).set 1 (.int .i64 (most : Int))).cell 1 rfl)
  have HB4 := Lib.hid hb4
  by_cases hi : isin no s = true
  · obtain ⟨i, hin, hat, rfl⟩ := HP.out.2.2 hi
    have HAT := Lib.hid hat
    have HII := Lib.hid hi
    clear hat hi hb4 hk2 r0 r1 f0 f1 q0 q1 k0 k1 HP
    obtain ⟨hrd1, _⟩ := HD.out.wide (HN0.out ▸ HB.out.trans (HB4.out.mono (by omega))) i (by omega)
    obtain ⟨_, A2, hcut, hA2, hrd2⟩ := HD.out.wide (HN0.out ▸ HB.out.trans (HB4.out.mono (by omega))) (i + 1) (by omega)
    have hAi : A = none → cap = 0 ∧ i = 0 := fun h => ⟨HD.out.nil_ h, by have := HD.out.nil_ h; have := HD.out.cap_.1; omega⟩
    have HRD1 := Lib.hid hrd1
    have HRD2 := Lib.hid (show ∀ W, Below (n0 + 2) W2 W → Rd W A2 (n - (i + 1)) (s.drop (i + 1)) from fun W hW => hrd2 W (HN0.out ▸ HB.out.trans (hW.mono (by omega))))
    have HAI := Lib.hid hAi
    have HA2 := Lib.hid hA2
    have hcut2 : ∀ W'', (Instr.slice 38 (.slice A n cap) (some (.int .i64 ((i : Int) + 1))) none none).run Try.prog W'' = .ok (.slice A2 (n - (i + 1)) (cap - (i + 1))) W'' := hcut
    have HBX : Hid (Below (n0 + 2) W2 w4 ∧ n0 + 2 ≤ w4.heap.size) := Lib.hid ⟨HB4.out, by have := HB4.out.size; have := HS2.out; omega⟩
    have HKF : Hid (∀ W, Below (n0 + 2) W2 W → W.cell? ⟨n0, 0, none⟩ = some (.slice A n cap) ∧ W.cell? ⟨n0, 1, none⟩ = some (.int .i64 (most : Int))) := Lib.hid fun W hW => ⟨(HK0.out.same (hW.block _ (by omega))).cell 0 rfl, (HK0.out.same (hW.block _ (by omega))).cell 1 rfl⟩
    obtain ⟨x0, _⟩ := HKF.out _ HBX.out.1
    clear hrd1 hrd2 hAi hA2 hcut
    go_wp2_with (first
      | (at_builtin; refine app_tms rfl (.tmp 14) (.tmp 18) rfl (n0 + 2) none A 0 0 i cap i (Nat.zero_add _) [] (s.take i) rfl (World.ownsRow_nil _ _ _ _) rfl HRD1.out HAI.out (by omega) HBX.out.2 ?_; intro A1 cap1 w6 hown6 hgr6 hl6; have hb6 := grown_below HBX.out.1 HBX.out.2 hgr6 (fun g hg => by simp [Value.ownBlock] at hg); have HB6 := Lib.hid hb6; have HO6 := Lib.hid hown6; obtain ⟨y0, y1⟩ := HKF.out _ hb6.1; clear hb6 hown6 hgr6 hl6)
      | (at_builtin; refine app_tms rfl (.tmp 20) (.tmp 25) rfl (n0 + 2) A1 A2 i cap1 (n - (i + 1)) (cap - (i + 1)) (n - 1) (by omega) ([] ++ s.take i) (s.drop (i + 1)) rfl HO6.out rfl (HRD2.out _ HB6.out.1) HA2.out (by omega) HB6.out.2 ?_; intro A8 cap8 w8 hown8 hgr8 hl8; have hb8 := grown_below HB6.out.1 HB6.out.2 hgr8 (fun g hg => (HO6.out.lt g hg).1); have HB8 := Lib.hid hb8; have HO8 := Lib.hid hown8; obtain ⟨_, p1⟩ := HKF.out _ hb8.1; have hk8 := HK2.out.same (hb8.1.block _ (by omega)); have r0 := hk8.cell 0 rfl; have r1 := hk8.cell 1 rfl; have f0 := hk8.free 0; have f1 := hk8.free 1; have HK8 := Lib.hid hk8; clear hb8 hown8 hgr8 hl8 y0 y1 hk8))
    have q0 := ((HK8.out.set 0 (.slice A8 (n - 1) cap8)).set 1 (.int .i64 (most : Int))).cell 0 rfl
    have q1 := ((HK8.out.set 0 (.slice A8 (n - 1) cap8)).set 1 (.int .i64 (most : Int))).cell 1 rfl
    refine bodyPost_ret (v := .tuple #[.agg #[.slice A8 (n - 1) cap8, .int .i64 (most : Int)], .bool true]) (by simp [results, Try.results29, go_sem, q0, q1]) rfl ⟨A8, n - 1, cap8, by rw [HII.out], Lib.hid ?_⟩
    exact drop_doc HN0.out HB.out (by omega) HB8.out HO8.out HL.out HN.out hin HAT.out h5 HBS.out
  · have hi2 : isin no s = false := by simpa using hi
    obtain rfl : p = -1 := HP.out.2.1 hi2
    have hx : Below n0 w ((w4.setCell ⟨n0 + 1, 0, none⟩ (.slice A n cap)).setCell ⟨n0 + 1, 1, none⟩ (.int .i64 (most : Int))) := ((HB.out.trans (hb4.mono (by omega))).setCell (by simp) _).setCell (by simp) _
    have HX := Lib.hid hx
    have HII := Lib.hid hi2
    clear hb4 hk2 hx hi hi2 HP
    go_wp2_with fail
    have z0 := q0.out
    have z1 := q1.out
    refine bodyPost_ret (v := .tuple #[.agg #[.slice A n cap, .int .i64 (most : Int)], .bool false]) (by simp [results, Try.results29, go_sem, z0, z1]) rfl ⟨A, n, cap, by rw [HII.out], Lib.hid (by rw [HN0.out, del_none HII.out]; exact ⟨HX.out, HD.out.later (HN0.out ▸ HX.out)⟩)⟩
end Go.Proofs.Ytlbopajnnbnolaa
