/-
  Bytes as the law's choices say.
-/
import Derived.Test.YtbfcjfeckonklaaArr0
import Derived.Test.YtbfcjfeckonklaaDkTwo
namespace Go.Proofs.Ytbfcjfeckonklaa
open Go.RowKit Go.Maps Go.Proofs.DiskMath

def bytesOf (b n : UInt8) : List UInt8 := (List.range (n.toNat % 9)).map fun i => b + UInt8.ofNat i
theorem bytesOf_length (b n : UInt8) : (bytesOf b n).length = n.toNat % 9 := by simp [bytesOf]
set_option linter.unusedSimpArgs false in
set_option maxRecDepth 100000 in
set_option maxHeartbeats 1000000 in
theorem bytes_any (b n : UInt8) (w : World) : Calls Try.prog 16 #[.int .u8 (b.toNat : Int), .int .u8 (n.toNat : Int)] w fun e w' => e = .returned (.slice (some ⟨w.heap.size, 0, none⟩) (n.toNat % 9) (n.toNat % 9)) ∧ Hid (Below w.heap.size w w' ∧ Holds8 w'.heap.size w' (some ⟨w.heap.size, 0, none⟩) (bytesOf b n)) := by
  obtain ⟨m, hm⟩ : ∃ m, n.toNat % 9 = m := ⟨_, rfl⟩
  have hm9 : m ≤ 8 := by omega
  obtain ⟨nn, hnn⟩ : ∃ nn, n.toNat = nn := ⟨_, rfl⟩
  obtain ⟨bb, hbb⟩ : ∃ bb, b.toNat = bb := ⟨_, rfl⟩
  have hnl : nn ≤ 255 := by have := n.toNat_lt; omega
  have hbl : bb ≤ 255 := by have := b.toNat_lt; omega
  have HL := Lib.hid (show (bytesOf b n).length = m by rw [bytesOf_length, hm])
  have HV := Lib.hid (show ∀ i, i < m → (bytesOf b n).getD i 0 = b + UInt8.ofNat i from fun i hi => by
    simp [bytesOf, hm, hi])
  have HA := Lib.hid (show ∀ i, i < m → IntKind.u8.wrap ((bb : Int) + (i : Int)) = ((b + UInt8.ofNat i).toNat : Int) from fun i hi => by
    rw [IntKind.wrap_u8', UInt8.toNat_add, hbb]
    have : (UInt8.ofNat i).toNat = i := by simp; omega
    rw [this]
    simp)
  rw [hm, hnn, hbb]
  rw [hnn] at hm
  have h1 : (nn : Int) % 9 = (m : Int) := by omega
  have h2 : (nn : Int).tmod 9 = (m : Int) := by rw [Int.tmod_eq_emod_of_nonneg (by omega)]; exact h1
  have hw1 : IntKind.i64.wrap (m : Int) = (m : Int) := by rw [IntKind.wrap_i64]; omega
  have hw2 : IntKind.u8.wrap (m : Int) = (m : Int) := by rw [IntKind.wrap_u8']; omega
  have hmk := fun W => make_u8s m (by omega) W
  obtain ⟨n0, hn0⟩ : ∃ n0, w.heap.size = n0 := ⟨_, rfl⟩
  have hB : Below n0 w (w.alloc (.cells (zeB m) 5)) := hn0 ▸ box_below _
  have HR0 := Lib.hid (show Arr (w.alloc (.cells (zeB m) 5)) n0 m (fun j => if j < 0 then b + UInt8.ofNat j else 0) ∧ Below n0 w (w.alloc (.cells (zeB m) 5)) from ⟨arr_new w hn0 (fun j hj => by unfold zeB; simp [madeCells, hj, Nat.mod_one]) _ (by simp), hB⟩)
  rw [hn0]
  clear hB hm hnn hbb
  go_enter Try.func16, Try.ntmps16
  go_wp2_with fail
  go_loopw [6] (fun iv wr => ∃ i : Nat, iv = .int .i64 (i : Int) ∧ i ≤ m ∧ Hid (Arr wr n0 m (fun j => if j < i then b + UInt8.ofNat j else 0) ∧ Below n0 w wr)) (fun iv _ => m - (intOf iv).toNat)
  case atStart => exact ⟨0, rfl, by omega, HR0⟩
  case round =>
    obtain ⟨i, rfl, hi, HR⟩ := hrel
    by_cases hin : i < m
    · have t1 : decide ((i : Int) < (m : Int)) = true := by simp; omega
      have hwi : IntKind.u8.wrap (i : Int) = (i : Int) := by rw [IntKind.wrap_u8']; omega
      have ha := HA.out i hin
      obtain ⟨v, hv⟩ : ∃ v, (b + UInt8.ofNat i).toNat = v := ⟨_, rfl⟩
      rw [hv] at ha
      obtain ⟨k0, f0⟩ := HR.out.1.2 i hin
      have HN := Lib.hid (show Arr (wr.setCell ⟨n0, i, none⟩ (.int .u8 (v : Int))) n0 m (fun j => if j < i + 1 then b + UInt8.ofNat j else 0) ∧ Below n0 w (wr.setCell ⟨n0, i, none⟩ (.int .u8 (v : Int))) from by
        refine ⟨?_, HR.out.2.setCell (by simp) _⟩
        have := HR.out.1.set (g := fun j => if j < i + 1 then b + UInt8.ofNat j else 0) hin (x := b + UInt8.ofNat i) (by simp) (fun j hj => by
          by_cases h : j < i
          · rw [if_pos (by omega), if_pos h]
          · rw [if_neg (by omega), if_neg h])
        unfold b8 at this
        rw [hv] at this
        exact this)
      clear HR hv
      go_wp2_with fail
      go_roundw
      case rel => exact ⟨i + 1, by simp, by omega, HN⟩
      case measure => simp [intOf]; omega
    · obtain rfl : m = i := by omega
      have t1 : decide ((m : Int) < (m : Int)) = false := by simp
      have HE := Lib.hid (show Below n0 w wr ∧ Holds8 wr.heap.size wr (some ⟨n0, 0, none⟩) (bytesOf b n) from ⟨HR.out.2, HR.out.1.holds HR.out.1.1 (by rw [HL.out]; exact Nat.le_refl _) (fun j hj => by
        rw [HL.out] at hj
        rw [HV.out j hj, if_pos hj])⟩)
      clear HR
      go_wp2_with fail
      go_ret
      exact ⟨rfl, HE⟩
end Go.Proofs.Ytbfcjfeckonklaa
