/-
  The document's sameness of spans: a span without attributes is the same as itself.
-/
import Derived.Deep.DeepCutAuto
import Derived.Test.YthpcnnkdpgjiiaaTlRow
namespace Go.Proofs.Ythpcnnkdpgjiiaa
open Go.RowKit Go.Maps Go.Proofs.HeapMath Go.Proofs.TailMath

set_option linter.unusedSimpArgs false in
set_option maxRecDepth 100000 in
set_option maxHeartbeats 2000000 in
theorem sameSpan_self (s : Sp) (w : World) : Calls Try.prog 46 #[spV s, spV s] w fun e w' => e = .returned (.bool true) ∧ Hid (Below w.heap.size w w') := by
  obtain ⟨hi, lo, id, pa, nm, st, en, bad, rv⟩ := s
  have hbl : Below w.heap.size w ((w.alloc (.cells #[.int .u64 (hi : Int), .int .u64 (lo : Int), .int .u64 (id : Int), .int .u64 (pa : Int), .string nm, .int .i64 st, .int .i64 en, .bool bad, .slice none 0 0, .int .u64 (rv : Int)] 35)).alloc (.cells #[.int .u64 (hi : Int), .int .u64 (lo : Int), .int .u64 (id : Int), .int .u64 (pa : Int), .string nm, .int .i64 st, .int .i64 en, .bool bad, .slice none 0 0, .int .u64 (rv : Int)] 35)) := (box_below _).trans ((box_below _).mono (by rw [World.size_alloc]; exact Nat.le_succ _))
  have HBL := Lib.hid hbl
  unfold spV
  obtain ⟨nr, hnr⟩ : ∃ x, w.heap.size = x := ⟨_, rfl⟩
  have h1 := blk_new w #[.int .u64 (hi : Int), .int .u64 (lo : Int), .int .u64 (id : Int), .int .u64 (pa : Int), .string nm, .int .i64 st, .int .i64 en, .bool bad, .slice none 0 0, .int .u64 (rv : Int)] 35
  have h2 := blk_new (w.alloc (.cells #[.int .u64 (hi : Int), .int .u64 (lo : Int), .int .u64 (id : Int), .int .u64 (pa : Int), .string nm, .int .i64 st, .int .i64 en, .bool bad, .slice none 0 0, .int .u64 (rv : Int)] 35)) #[.int .u64 (hi : Int), .int .u64 (lo : Int), .int .u64 (id : Int), .int .u64 (pa : Int), .string nm, .int .i64 st, .int .i64 en, .bool bad, .slice none 0 0, .int .u64 (rv : Int)] 35
  have h3 := h1.same (Below.heap_alloc _ (.cells #[.int .u64 (hi : Int), .int .u64 (lo : Int), .int .u64 (id : Int), .int .u64 (pa : Int), .string nm, .int .i64 st, .int .i64 en, .bool bad, .slice none 0 0, .int .u64 (rv : Int)] 35) _ h1.lt)
  rw [World.size_alloc, hnr] at h2
  rw [hnr] at h3
  have H2 := Lib.hid h2
  have H3 := Lib.hid h3
  clear hbl h1 h2 h3
  go_enter Try.func46, Try.ntmps46
  go_wp2_with fail
  clear hnr
  generalize (w.alloc (.cells #[.int .u64 (hi : Int), .int .u64 (lo : Int), .int .u64 (id : Int), .int .u64 (pa : Int), .string nm, .int .i64 st, .int .i64 en, .bool bad, .slice none 0 0, .int .u64 (rv : Int)] 35)).alloc (.cells #[.int .u64 (hi : Int), .int .u64 (lo : Int), .int .u64 (id : Int), .int .u64 (pa : Int), .string nm, .int .i64 st, .int .i64 en, .bool bad, .slice none 0 0, .int .u64 (rv : Int)] 35) = Wo at HBL H2 H3 ⊢
  have a0 := H3.out.cell 0 rfl
  have a1 := H3.out.cell 1 rfl
  have a2 := H3.out.cell 2 rfl
  have a3 := H3.out.cell 3 rfl
  have a4 := H3.out.cell 4 rfl
  have a5 := H3.out.cell 5 rfl
  have a6 := H3.out.cell 6 rfl
  have a7 := H3.out.cell 7 rfl
  have a8 := H3.out.cell 8 rfl
  have a9 := H3.out.cell 9 rfl
  have b0 := H2.out.cell 0 rfl
  have b1 := H2.out.cell 1 rfl
  have b2 := H2.out.cell 2 rfl
  have b3 := H2.out.cell 3 rfl
  have b4 := H2.out.cell 4 rfl
  have b5 := H2.out.cell 5 rfl
  have b6 := H2.out.cell 6 rfl
  have b7 := H2.out.cell 7 rfl
  have b9 := H2.out.cell 9 rfl
  go_loopw [5] (fun iv wq => iv = .int .i64 0 ∧ Hid (Wo = wq)) (fun _ _ => 0)
  case atStart => exact ⟨rfl, Lib.hid rfl⟩
  case round =>
    obtain ⟨rfl, HW⟩ := hrel
    obtain rfl := HW.out
    go_wp2_with fail
    go_ret
    exact ⟨rfl, HBL⟩
end Go.Proofs.Ythpcnnkdpgjiiaa
