/-
  The chapter's examples, as the laws ask them: the function returns true, and nothing that lay has turned. No condition.
-/
import Derived.Lib.SlBytesConst
import Derived.Laws.OwnMore
import Derived.Test.YtdjejkjkcahdgaaFrameTake
namespace Go.Proofs.Ytdjejkjkcahdgaa
open Go.RowKit Go.Proofs.NumMath Go.Proofs.FrameMath

theorem sum_123 : sum [49, 50, 51, 52, 53, 54, 55, 56, 57] = 3421780262 := by decide +kernel
theorem sum_nil : sum [] = 0 := by decide
theorem put_0 : put 0 = [0] := by rw [put_lt (by omega)]; rfl
theorem frame_nil : frame [] = [0, 0, 0, 0, 0] := by unfold frame; rw [sum_nil, List.length_nil, put_0]; decide
theorem take_07 : take [0, 0, 0, 0, 0, 7] 0 = ([], 5, 0) := by
  have h := take_frame [] [] [7] (by simp)
  rw [frame_nil] at h
  simpa using h

/-- A row of bytes that was made last. -/
theorem holds_new {w : World} {o : Obj} {t : TypeId} {fr : Nat × Nat} (cs : List UInt8) (ho : o = .cells (cs.map b8).toArray t fr) : Holds8 (w.alloc o).heap.size (w.alloc o) (some ⟨w.heap.size, 0, none⟩) cs := fun _ =>
  ⟨w.heap.size, 0, rfl, by simp, fun j hj => by
    subst ho
    have h := heap_last w (.cells (cs.map b8).toArray t fr)
    simp only [World.cell?, h]
    simp [hj]⟩

theorem frame_k (w : World) : Calls Try.prog 14 #[.slice none 0 0] w fun e w' => ∃ A' c', e = .returned (.tuple #[.slice A' 5 c', .int .u16 0]) ∧ Below w.heap.size w w' :=
  (frame_fits none [] 0 0 5 w rfl (by rw [frame_nil]; rfl) (by omega) (fun h => absurd h (by simp)) (fun _ => rfl)).mono fun _ _ ⟨A', c', he, _, hb⟩ => ⟨A', c', he, hb⟩
theorem take_k (w : World) (o : Obj) (t : TypeId) (ho : o = .cells (([0, 0, 0, 0, 0, 7] : List UInt8).map b8).toArray t) :
    Calls Try.prog 31 #[.slice (some ⟨w.heap.size, 0, none⟩) 6 6, .int .i64 0] (w.alloc o) fun e w' => ∃ A' c', e = .returned (.tuple #[.slice A' 0 c', .int .i64 5, .int .u16 0]) ∧ Below (w.alloc o).heap.size (w.alloc o) w' := by
  have h := take_any (some ⟨w.heap.size, 0, none⟩) [0, 0, 0, 0, 0, 7] 6 0 (w.alloc o) (by simp) (by omega) (holds_new _ ho)
  rw [take_07] at h
  exact h.mono fun _ _ ⟨A', c', he, _, hb⟩ => ⟨A', c', he, hb⟩
theorem sum_k (w : World) (o : Obj) (t : TypeId) (fr : Nat × Nat) (ho : o = .cells (([49, 50, 51, 52, 53, 54, 55, 56, 57] : List UInt8).map b8).toArray t fr) :
    Calls Try.prog 32 #[.slice (some ⟨w.heap.size, 0, none⟩) 9 9] (w.alloc o) fun e w' => e = .returned (.int .u32 3421780262) ∧ w.alloc o = w' := by
  have h := sum_any (some ⟨w.heap.size, 0, none⟩) [49, 50, 51, 52, 53, 54, 55, 56, 57] 9 (w.alloc o) (by simp) (holds_new _ ho)
  rw [sum_123] at h
  exact h

/-- Take of a frame's own bytes. -/
theorem take_own (A : Option Addr) (cs : List UInt8) (fl len cap : Nat) (w : World) (hfl : (frame cs).length = fl) (hlen : cs.length = len) (hl : len ≤ 4096) (hc : fl ≤ cap) (hm : cap ≤ 9223372036854775807) (hr : Holds8 w.heap.size w A (frame cs)) :
    Calls Try.prog 31 #[.slice A fl cap, .int .i64 0] w fun e w' => ∃ A' c', e = .returned (.tuple #[.slice A' len c', .int .i64 (fl : Int), .int .u16 0]) ∧ w'.ownsRow w.heap.size 5 1 (.slice A' len c') cs.length (cs.map b8) ∧ Below w.heap.size w w' := by
  have h := take_any A (frame cs) cap 0 w (by omega) hm hr
  have e : take (frame cs) 0 = (cs, fl, 0) := by
    have := take_frame [] cs [] (by omega)
    rw [hfl] at this
    simpa using this
  rw [e, hfl] at h
  rw [hlen] at h ⊢
  exact h

/-- A byte of the call's own turned: what lies below is as it was. -/
theorem below_set {B : Nat} {w w' : World} (h : Below B w w') {g off : Nat} (hg : B ≤ g) (u : Value) : Below B w (w'.setCell ⟨g, off, none⟩ u) := h.setCell (p := ⟨g, off, none⟩) hg u
theorem own_parts {W : World} {base : Nat} {A : Option Addr} {k cap : Nat} {cs : List UInt8} {e : TypeId} (h : W.ownsRow base e 1 (.slice A k cap) cs.length (cs.map b8)) (h0 : 0 < cs.length) :
    ∃ g, A = some ⟨g, 0, none⟩ ∧ base ≤ g ∧ (∀ j, j < cs.length → W.cell? ⟨g, j, none⟩ = some (b8 (cs.getD j 0))) ∧ (∀ j, j < cs.length → W.frozen? ⟨g, j, none⟩ = false) := by
  rcases h.2 with ⟨hv, hn⟩ | ⟨g, c, cur, hv, hb, hg, hn, hc, hs, ht⟩
  · omega
  · injection hv with e1 e2 e3
    subst e1 e2 e3
    refine ⟨g, rfl, hb, fun j hj => ?_, fun j hj => ?_⟩
    · have := h.cellAt j (by simpa using hj)
      rw [this]
      simp [hj]
    · simp [World.frozen?, hg]
/-- A byte of an own row turned. -/
theorem own_set {W w : World} {base g k cap : Nat} {cs : List UInt8} (h : W.ownsRow base 5 1 (.slice (some ⟨g, 0, none⟩) k cap) cs.length (cs.map b8)) (hk : k = cs.length) (hg : base ≤ g) (hb : Below base w W) (j : Nat) (y : UInt8) :
    (W.setCell ⟨g, j, none⟩ (.int .u8 (y.toNat : Int))).ownsRow base 5 1 (.slice (some ⟨g, 0, none⟩) k cap) (cs.set j y).length ((cs.set j y).map b8) ∧ Below base w (W.setCell ⟨g, j, none⟩ (.int .u8 (y.toNat : Int))) := by
  subst hk
  obtain ⟨h1, _⟩ := h.stored j (b8 y)
  refine ⟨?_, hb.setCell (p := ⟨g, j, none⟩) hg _⟩
  rw [List.length_set, List.map_set]
  exact h1

set_option maxRecDepth 100000 in
set_option maxHeartbeats 1000000 in
theorem known_any (w : World) : Calls Try.prog 13 #[] w fun e w' => e = .returned (.bool true) ∧ Below w.heap.size w w' := by
  go_enter Try.func13, Try.ntmps13
  go_wp2_with fail
  refine (frame_k w).mono ?_
  rintro e w1 ⟨A1, c1, rfl, hb1⟩
  have hz1 := hb1.size
  go_wp2_with fail
  refine (take_k w1 _ _ rfl).mono ?_
  rintro e w2 ⟨A2, c2, rfl, hb2⟩
  have hB2 : Below w.heap.size w w2 := (hb1.alloc hz1 _).trans (hb2.mono (by simp; omega))
  have hz2 := hB2.size
  clear hb1 hb2 hz1
  have hcv := Lib.run_convert_bytes_const (P := Try.prog) w2 22 5 #[.int .u8 49, .int .u8 50, .int .u8 51, .int .u8 52, .int .u8 53, .int .u8 54, .int .u8 55, .int .u8 56, .int .u8 57] 9 9 Try.underlying22 Try.underlying5
  go_wp2_with fail
  refine (sum_k w2 _ _ _ rfl).mono ?_
  rintro e w3 ⟨rfl, rfl⟩
  go_wp2_with fail
  go_ret
  exact ⟨rfl, hB2.alloc hz2 _⟩

end Go.Proofs.Ytdjejkjkcahdgaa
