/-
  The document's Kept.
-/
import Derived.Test.YthpcnnkdpgjiiaaTlRef0
namespace Go.Proofs.Ythpcnnkdpgjiiaa
open Go.RowKit Go.Maps Go.Proofs.HeapMath Go.Proofs.TailMath

variable {P : Nat → Prop}

theorem askK_drop {hi lo : Nat} {K : List Kn} {i : Nat} (h : i < K.length) : askK hi lo (K.drop i) = if K[i].hi = hi ∧ K[i].lo = lo then some K[i] else askK hi lo (K.drop (i + 1)) := by
  rw [List.drop_eq_getElem_cons h]
  unfold askK
  rw [List.find?_cons]
  by_cases e : K[i].hi = hi ∧ K[i].lo = lo
  · rw [if_pos e]
    have : (K[i].hi == hi && K[i].lo == lo) = true := by simp [e.1, e.2]
    rw [this]
  · rw [if_neg e]
    have : (K[i].hi == hi && K[i].lo == lo) = false := by
      simp
      exact fun h1 h2 => e ⟨h1, h2⟩
    rw [this]
set_option linter.unusedSimpArgs false in
set_option maxRecDepth 100000 in
set_option maxHeartbeats 2000000 in
theorem refKept_any (hi lo : Nat) (w : World) (b : St) (r : Rf) (h : RfIn P w b r) (hm2 : r.m ≤ 5000) (X : Option Kn) (hX : askK hi lo b.K = X) (v1 v2 : Bool) (hv1 : ((X.map (·.ay)).getD 0 == 4) = v1) (hv2 : X.isSome = v2) :
    Calls Try.prog 36 #[rfV b r, .int .u64 (hi : Int), .int .u64 (lo : Int)] w fun e w' => e = .returned (.tuple #[.bool v1, .bool v2]) ∧ Hid (Below w.heap.size w w') := by
  obtain ⟨A, n, cap, B, m, capB⟩ := r
  have hml := h.m
  have hcb := h.capB
  have hat : ∀ i, i < m → ∃ g o kh kl ka : Nat, B = some ⟨g, o, none⟩ ∧ (∃ hl : i < b.K.length, b.K[i] = ⟨kh, kl, ka⟩) ∧ ∀ W, Below w.heap.size w W → W.cell? ⟨g, o + i * 3, none⟩ = some (.int .u64 (kh : Int)) ∧ W.cell? ⟨g, o + i * 3 + 1, none⟩ = some (.int .u64 (kl : Int)) ∧ W.cell? ⟨g, o + i * 3 + 2, none⟩ = some (.bool (ka == 4)) := fun i hi => by
    simp only at hml
    have hl : i < b.K.length := by omega
    obtain ⟨g, o, e, hg, hc⟩ := h.K (by omega)
    obtain ⟨a1, a2, a3⟩ := hc i hl
    exact ⟨g, o, _, _, _, e, ⟨hl, rfl⟩, fun W hW => ⟨(hW.cell (p := ⟨g, o + i * 3, none⟩) hg).trans a1, (hW.cell (p := ⟨g, o + i * 3 + 1, none⟩) hg).trans a2, (hW.cell (p := ⟨g, o + i * 3 + 2, none⟩) hg).trans a3⟩⟩
  have HAT := Lib.hid hat
  simp only at hm2 hml hcb
  have HML := Lib.hid hml
  have HXX := Lib.hid (show askK hi lo b.K = X ∧ ((X.map (·.ay)).getD 0 == 4) = v1 ∧ X.isSome = v2 from ⟨hX, hv1, hv2⟩)
  obtain ⟨nr, hnr⟩ : ∃ x, w.heap.size = x := ⟨_, rfl⟩
  have hbk := hnr ▸ blk_new w (rfC b ⟨A, n, cap, B, m, capB⟩) 50
  have hbl : Below w.heap.size w (w.alloc (.cells (rfC b ⟨A, n, cap, B, m, capB⟩) 50)) := box_below _
  unfold rfC at hbk hbl
  unfold rfV
  have HBK := Lib.hid hbk
  have HBL := Lib.hid hbl
  clear hbk hbl h hat hml hX hv1 hv2
  go_enter Try.func36, Try.ntmps36
  go_wp2_with fail
  clear hnr
  generalize w.alloc (.cells #[.int .i64 (b.sp : Int), .int .i64 (b.wait : Int), .int .i64 (b.most : Int), .int .i64 (b.time : Int), .int .i64 (b.came : Int), .slice A n cap, .slice B m capB] 50) = Wo at HBK HBL ⊢
  have c6 := HBK.out.cell 6 rfl
  go_loopw [8] (fun iv wq => ∃ i : Nat, iv = .int .i64 (i : Int) ∧ i ≤ m ∧ Hid (askK hi lo (b.K.drop i) = askK hi lo b.K) ∧ Hid (Wo = wq)) (fun iv _ => m - (intOf iv).toNat)
  case atStart => exact ⟨0, rfl, by omega, Lib.hid rfl, Lib.hid rfl⟩
  case round =>
    obtain ⟨i, rfl, hi9, HK, HW⟩ := hrel
    obtain rfl := HW.out
    by_cases him : i < m
    · have di : decide ((i : Int) < (m : Int)) = true := by simp; omega
      obtain ⟨g, o, kh, kl, ka, rfl, hkk, hc⟩ := HAT.out i him
      obtain ⟨p0, p1, p2⟩ := hc Wo HBL.out
      have HKK := Lib.hid hkk
      clear hkk hc
      by_cases he : kh = hi ∧ kl = lo
      · obtain ⟨rfl, rfl⟩ := he
        have hv : (ka == 4) = v1 ∧ true = v2 := by
          obtain ⟨hl, e⟩ := HKK.out
          have h1 := HK.out
          rw [askK_drop hl, e] at h1
          simp only [and_self, if_true] at h1
          rw [HXX.out.1] at h1
          obtain ⟨_, h2, h3⟩ := HXX.out
          rw [← h1] at h2 h3
          exact ⟨h2, h3⟩
        obtain ⟨hv1, rfl⟩ := hv
        rw [hv1] at p2
        clear hv1
        go_wp2_with fail
        exact bodyPost_ret (v := .tuple #[.bool v1, .bool true]) (by simp [results, Try.results36, go_sem]) rfl ⟨rfl, HBL⟩
      · have HNX := Lib.hid (show askK hi lo (b.K.drop (i + 1)) = askK hi lo b.K from by
          obtain ⟨hl, e⟩ := HKK.out
          have h1 := HK.out
          rw [askK_drop hl, e, if_neg he] at h1
          exact h1)
        by_cases e1 : kh = hi
        · subst e1
          have e2 : ¬ kl = lo := fun h => he ⟨rfl, h⟩
          have e3 : ¬ (kl : Int) = (lo : Int) := by omega
          have e4 : ((kl : Int) == (lo : Int)) = false := by simpa using e3
          clear he
          go_wp2_with fail
          go_roundw
          case rel => exact ⟨i + 1, by simp, by omega, HNX, Lib.hid trivial⟩
          case measure => simp [intOf]; omega
        · have e3 : ¬ (kh : Int) = (hi : Int) := by omega
          have e4 : ((kh : Int) == (hi : Int)) = false := by simpa using e3
          clear he
          go_wp2_with fail
          go_roundw
          case rel => exact ⟨i + 1, by simp, by omega, HNX, Lib.hid trivial⟩
          case measure => simp [intOf]; omega
    · obtain rfl : m = i := by omega
      have di : decide ((m : Int) < (m : Int)) = false := by simp
      have hv : false = v1 ∧ false = v2 := by
        have h1 := HK.out
        rw [List.drop_of_length_le (by rw [HML.out]; exact Nat.le_refl _)] at h1
        obtain ⟨h0, h2, h3⟩ := HXX.out
        rw [h0] at h1
        rw [← h1] at h2 h3
        exact ⟨h2, h3⟩
      obtain ⟨rfl, rfl⟩ := hv
      go_wp2_with fail
      exact bodyPost_ret (v := .tuple #[.bool false, .bool false]) (by simp [results, Try.results36, go_sem]) rfl ⟨rfl, HBL⟩
end Go.Proofs.Ythpcnnkdpgjiiaa
