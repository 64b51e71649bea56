/-
  slices.Index and Contains over attributes.
-/
import Derived.Laws.StructEq
import Derived.Test.YtmjbdjcpjaeemaaDoorPoFn
namespace Go.Proofs.YtmjbdjcpjaeemaaDoor
open Go.RowKit

theorem attr_eq (a b c d : ByteArray) (w : World) : (binOp .eql 65 (.agg #[.string a, .string b]) (.agg #[.string c, .string d])).run Tryd.prog w = .ok (.bool (eqT a c && eqT b d)) w := by
  have u3 := Tryd.underlying9
  have hS : Tryd.prog.underlying 65 = some (.struct (Tryd.prog.fieldsOf 65)) := by kernel_rfl
  have hp : Tryd.prog.stoodInHeld 65 = false := by kernel_rfl
  rw [run_eql_struct, show (10000 : Nat) = 9999 + 1 from rfl, run_equalIn_agg w 9999 65 _ _ hS hp]
  simp only [Program.fieldsOf, Tryd.underlying65]
  go_simp
  unfold eqT
  by_cases h1 : a.toList = c.toList <;> by_cases h2 : b.toList = d.toList <;> simp [h1, h2]

/-- Is an attribute the one that is looked for? -/
def isM (k v : ByteArray) (t : Attr) : Bool := eqT k t.1 && eqT v t.2
theorem isM_at (r : Ru) : isM r.key r.val = attrM r := by
  funext t
  unfold isM attrM eqT
  rw [Bool.eq_iff_iff]
  simp only [Bool.and_eq_true, beq_iff_eq]
  exact ⟨fun h => ⟨h.1.symm, h.2.symm⟩, fun h => ⟨h.1.symm, h.2.symm⟩⟩
set_option linter.unusedSimpArgs false in
set_option maxRecDepth 100000 in
set_option maxHeartbeats 2000000 in
theorem indexA_any (A : Option Addr) (l : List Attr) (n cap : Nat) (k v : ByteArray) (w : World) (hn : l.length = n) (hn2 : n ≤ 9223372036854775807) (hr : HoldsA w.heap.size w A l) :
    Calls Tryd.prog 50 #[.slice A n cap, .agg #[.string k, .string v]] w fun e w' => e = .returned (.int .i64 (idx (isM k v) l)) ∧ Below w.heap.size w w' := by
  have HR := Lib.hid hr
  have HN := Lib.hid hn
  have hB0 := box_below (W := w) (.cells #[.string k, .string v] 65)
  have hk := blk_new w #[.string k, .string v] 65
  obtain ⟨n0, hn0⟩ : ∃ n0, w.heap.size = n0 := ⟨_, rfl⟩
  rw [hn0] at hk
  have HK := Lib.hid hk
  have HB0 := Lib.hid hB0
  clear hr hn hk hB0
  go_enter Tryd.func50, Tryd.ntmps50
  go_wp2_with fail
  go_loopw [8] (fun iv wr => ∃ i : Nat, iv = .int .i64 (i : Int) ∧ i ≤ n ∧ Hid (∀ j, j < i → isM k v (l.getD j (none8, none8)) = false) ∧ Hid (Below w.heap.size w wr ∧ Blk wr n0 #[.string k, .string v] 65)) (fun iv _ => n - (intOf iv).toNat)
  case atStart => exact ⟨0, rfl, by omega, Lib.hid fun j hj => absurd hj (by omega), Lib.hid ⟨HB0.out, HK.out⟩⟩
  case round =>
    obtain ⟨i, rfl, hi, HI, HBW⟩ := hrel
    by_cases hlt : i < n
    · obtain ⟨b, off, rfl, hb, hc⟩ := HR.out (by rw [HN.out]; omega)
      obtain ⟨h0, h1⟩ := hc i (by rw [HN.out]; omega)
      have t : ∀ k, wr.cell? ⟨b, k, none⟩ = w.cell? ⟨b, k, none⟩ := fun k => HBW.out.1.cell (p := ⟨b, k, none⟩) hb
      rw [← t] at h0 h1
      obtain ⟨r, hpr⟩ : ∃ r, isM k v (l.getD i (none8, none8)) = r := ⟨_, rfl⟩
      have HP := Lib.hid hpr
      obtain ⟨⟨x0, x1⟩, hx⟩ : ∃ s, l.getD i (none8, none8) = s := ⟨_, rfl⟩
      rw [hx] at h0 h1 hpr
      dsimp only at h0 h1
      have heq := attr_eq k v x0 x1
      rw [show (eqT k x0 && eqT v x1) = r from hpr] at heq
      have ti : decide ((i : Int) < (n : Int)) = true := by simp; omega
      have q0 := HBW.out.2.cell 0 rfl
      have q1 := HBW.out.2.cell 1 rfl
      have HB2 : Hid (∀ q, Below w.heap.size w (wr.drewN q) ∧ Blk (wr.drewN q) n0 #[.string k, .string v] 65) := Lib.hid fun q => ⟨draws HBW.out.1 q, HBW.out.2.same rfl⟩
      clear t hc hpr hx HBW
      go_wp2_with fail
      go_quiet (fail)
      clear q0 q1 h0 h1 heq
      cases r with
      | true =>
        go_wp2_with fail
        go_ret
        exact ⟨by rw [idx_at (none8, none8) (by rw [HN.out]; exact hlt) HI.out HP.out]; rfl, (HB2.out _).1⟩
      | false =>
        go_wp2_with fail
        go_roundw
        case rel => exact ⟨i + 1, by simp, by omega, Lib.hid fun j hj => by
          rcases Nat.lt_or_ge j i with h | h
          · exact HI.out j h
          · rw [show j = i by omega]; exact HP.out, Lib.hid (HB2.out _)⟩
        case measure => simp [intOf]; omega
    · have hie : i = n := by omega
      subst hie
      have ti : decide ((i : Int) < (i : Int)) = false := by simp
      clear hlt
      go_wp2_with fail
      go_ret
      exact ⟨by rw [idx_none (none8, none8) (fun j hj => HI.out j (by rw [← HN.out]; exact hj))]; rfl, HBW.out.1⟩
set_option maxRecDepth 100000 in
set_option maxHeartbeats 1000000 in
theorem containsA_any (A : Option Addr) (l : List Attr) (n cap : Nat) (k v : ByteArray) (w : World) (hn : l.length = n) (hn2 : n ≤ 9223372036854775807) (hr : HoldsA w.heap.size w A l) :
    Calls Tryd.prog 47 #[.slice A n cap, .agg #[.string k, .string v]] w fun e w' => e = .returned (.bool (l.any (isM k v))) ∧ Below w.heap.size w w' := by
  obtain ⟨j, hj⟩ : ∃ j, idx (isM k v) l = j := ⟨_, rfl⟩
  obtain ⟨b, hb⟩ : ∃ b, decide (0 ≤ j) = b := ⟨_, rfl⟩
  have HE : Hid (l.any (isM k v) = b) := Lib.hid (by rw [← idx_any, hj, hb])
  have hB0 := box_below (W := w) (.cells #[.string k, .string v] 65)
  have H : Hid (Calls Tryd.prog 50 #[.slice A n cap, .agg #[.string k, .string v]] (w.alloc (.cells #[.string k, .string v] 65)) fun e w' => e = .returned (.int .i64 j) ∧ Below w.heap.size w w') := Lib.hid (by
    rw [← hj]
    exact (indexA_any A l n cap k v _ hn hn2 (hr.later hB0)).mono fun e w' ⟨he, hb2⟩ => ⟨he, hB0.trans (hb2.mono hB0.size)⟩)
  clear hj hr hn hB0
  go_enter Tryd.func47, Tryd.ntmps47
  go_wp2_with fail
  refine H.out.mono ?_
  rintro e w2 ⟨rfl, hb2⟩
  go_wp2_with fail
  go_ret
  exact ⟨ret_b HE.out.symm, hb2⟩
end Go.Proofs.YtmjbdjcpjaeemaaDoor
