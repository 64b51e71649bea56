/-
  The chapter's example, as the laws ask it: the function returns true, and nothing that lay has turned. No condition.
-/
import Derived.Test.YtklgggolkclebaaItemDecode
namespace Go.Proofs.Ytklgggolkclebaa
open Go.RowKit Go.Proofs.NumMath Go.Proofs.ItemMath

def exLog : Lg := ⟨⟨#[107]⟩, 1, 0, ⟨#[]⟩⟩
theorem ex_enc : (2 : UInt8) :: encLog exLog = [2, 3, 1, 107, 4, 1] := by
  simp [encLog, exLog, fieldT, fieldN, put_lt]
theorem ex_right : rightLog exLog = true := by decide +kernel
theorem ex_read : readLog [2, 3, 1, 107, 4, 1] = exLog := by
  rw [← ex_enc]
  exact readLog_enc 2 exLog (by decide) (by decide) (by decide) (by decide)
/-- A row of bytes that was made last. -/
theorem holds_new {w : World} {o : Obj} {t : TypeId} {fr : Nat × Nat} (cs : List UInt8) (ho : o = .cells (cs.map b8).toArray t fr) : Holds8 (w.alloc o).heap.size (w.alloc o) (some ⟨w.heap.size, 0, none⟩) cs := fun _ =>
  ⟨w.heap.size, 0, rfl, by simp, fun j hj => by
    subst ho
    have h := heap_last' w (.cells (cs.map b8).toArray t fr)
    simp only [World.cell?, h]
    simp [hj]⟩
theorem decode_k (w : World) (o : Obj) (t : TypeId) (ho : o = .cells (([2, 3, 1, 107, 4, 1] : List UInt8).map b8).toArray t) :
    Calls Try.prog 20 #[.slice (some ⟨w.heap.size, 0, none⟩) 6 6] (w.alloc o) fun e w' => e = .returned (.tuple #[.agg #[.int .u8 2, .int .u64 0, .int .u64 0, .int .u64 0, .int .u64 0, .string ⟨#[]⟩, .int .i64 0, .int .i64 0, .bool false, .slice none 0 0, .int .u64 0, .string ⟨#[107]⟩, .int .u64 1, .int .i64 0, .string ⟨#[]⟩], .int .u16 0]) ∧ Below (w.alloc o).heap.size (w.alloc o) w' := by
  have h := decode_log (some ⟨w.heap.size, 0, none⟩) [2, 3, 1, 107, 4, 1] 6 6 (w.alloc o) rfl (by omega) (by omega) (by omega) (holds_new _ ho) rfl (by rw [ex_read]; exact ex_right) (by rw [ex_read]; exact ex_enc)
  rw [ex_read] at h
  exact h
theorem encode_k (w : World) : Calls Try.prog 19 #[.agg #[.int .u8 2, .int .u64 0, .int .u64 0, .int .u64 0, .int .u64 0, .string ⟨#[]⟩, .int .i64 0, .int .i64 0, .bool false, .slice none 0 0, .int .u64 0, .string ⟨#[107]⟩, .int .u64 1, .int .i64 0, .string ⟨#[]⟩]] w fun e w' => ∃ A' c', e = .returned (.tuple #[.slice A' 6 c', .int .u16 0]) ∧ Holds8 w'.heap.size w' A' [2, 3, 1, 107, 4, 1] ∧ Below w.heap.size w w' :=
  (encode_log ⟨#[107]⟩ ⟨#[]⟩ 1 0 w ex_right [2, 3, 1, 107, 4, 1] 6 ex_enc rfl).mono fun _ _ ⟨A', c', he, ho, hb⟩ => ⟨A', c', he, (own_facts (cs := [2, 3, 1, 107, 4, 1]) ho).2.2, hb⟩
theorem encode_z (w : World) : Calls Try.prog 19 #[.agg #[.int .u8 0, .int .u64 0, .int .u64 0, .int .u64 0, .int .u64 0, .string ⟨#[]⟩, .int .i64 0, .int .i64 0, .bool false, .slice none 0 0, .int .u64 0, .string ⟨#[]⟩, .int .u64 0, .int .i64 0, .string ⟨#[]⟩]] w fun e w' => e = .returned (.tuple #[.slice none 0 0, .int .u16 40]) ∧ Below w.heap.size w w' :=
  encode_kind 0 0 0 0 0 0 ⟨#[]⟩ 0 0 false none [] 0 0 ⟨#[]⟩ ⟨#[]⟩ 0 0 w (by omega) (by omega) (by omega)

set_option maxRecDepth 100000 in
set_option maxHeartbeats 2000000 in
/-- **The chapter's example.** -/
theorem known_any (w : World) : Calls Try.prog 12 #[] w fun e w' => e = .returned (.bool true) ∧ Below w.heap.size w w' := by
  go_enter Try.func12, Try.ntmps12
  go_wp2_with fail
  refine (encode_k w).mono ?_
  rintro e w1 ⟨A1, c1, rfl, hr1, hb1⟩
  have hz1 := hb1.size
  go_wp2_with fail
  refine (decode_k w1 _ _ rfl).mono ?_
  rintro e w2 ⟨rfl, hb2⟩
  have hB2 : Below w.heap.size w w2 := (hb1.alloc hz1 _).trans (hb2.mono (by simp; omega))
  have hb12 : Below w1.heap.size w1 w2 := ((Below.refl _ w1).alloc (Nat.le_refl _) _).trans (hb2.mono (by simp))
  have HR2 := Lib.hid (hr1.later hb12)
  clear hb1 hb2 hr1 hb12 hz1
  go_wp2_with fail
  generalize hX : w2.alloc (.cells #[.int .u8 2, .int .u64 0, .int .u64 0, .int .u64 0, .int .u64 0, .string ⟨#[]⟩, .int .i64 0, .int .i64 0, .bool false, .slice none 0 0, .int .u64 0, .string ⟨#[107]⟩, .int .u64 1, .int .i64 0, .string ⟨#[]⟩] 38) = X
  have hb3 : Below w2.heap.size w2 X := by rw [← hX]; exact (Below.refl _ w2).alloc (Nat.le_refl _) _
  have hBX : Below w.heap.size w X := hB2.trans (hb3.mono hB2.size)
  have k0 : X.cell? ⟨w2.heap.size, 0, none⟩ = some (.int .u8 2) := by rw [← hX]; exact World.cell?_alloc_mark _ _ _ _ _
  have k11 : X.cell? ⟨w2.heap.size, 11, none⟩ = some (.string ⟨#[107]⟩) := by rw [← hX]; exact World.cell?_alloc_mark _ _ _ _ _
  have hlt : w2.heap.size < X.heap.size := by rw [← hX]; simp
  have HRX := Lib.hid (HR2.out.later hb3)
  clear hX
  refine (decode_nil none 0 X).mono ?_
  rintro e w4 ⟨rfl, hb4⟩
  have k0' := (hb4.cell (p := ⟨w2.heap.size, 0, none⟩) hlt).trans k0
  have k11' := (hb4.cell (p := ⟨w2.heap.size, 11, none⟩) hlt).trans k11
  have hB4 := hBX.trans (hb4.mono hBX.size)
  have HR4 := Lib.hid (HRX.out.later hb4)
  have hlt4 : w2.heap.size < w4.heap.size := by have := hb4.size; omega
  clear hb4 k0 k11
  go_wp2_with fail
  generalize hX5 : w4.alloc _ = X5
  have hb5 : Below w4.heap.size w4 X5 := by rw [← hX5]; exact (Below.refl _ w4).alloc (Nat.le_refl _) _
  have hB5 : Below w.heap.size w X5 := hB4.trans (hb5.mono hB4.size)
  have j0 := (hb5.cell (p := ⟨w2.heap.size, 0, none⟩) hlt4).trans k0'
  have j11 := (hb5.cell (p := ⟨w2.heap.size, 11, none⟩) hlt4).trans k11'
  have HR5 := Lib.hid (HR4.out.later hb5)
  have hlt5 : w2.heap.size < X5.heap.size := by have := hb5.size; omega
  clear hX5 hb5 k0' k11'
  refine (encode_z X5).mono ?_
  rintro e w6 ⟨rfl, hb6⟩
  have j0' := (hb6.cell (p := ⟨w2.heap.size, 0, none⟩) hlt5).trans j0
  have j11' := (hb6.cell (p := ⟨w2.heap.size, 11, none⟩) hlt5).trans j11
  have hB6 := hB5.trans (hb6.mono hB5.size)
  have hcv := text_run A1 [2, 3, 1, 107, 4, 1] 6 c1 w6 _ rfl (HR5.out.later hb6)
  have hcv' : (convert 22 9 (.slice A1 6 c1)).run Try.prog w6 = .ok (.string ⟨#[2, 3, 1, 107, 4, 1]⟩) w6 := hcv
  clear hb6 hcv j0 j11
  go_wp2_with fail
  go_ret
  exact ⟨rfl, hB6⟩

end Go.Proofs.Ytklgggolkclebaa
