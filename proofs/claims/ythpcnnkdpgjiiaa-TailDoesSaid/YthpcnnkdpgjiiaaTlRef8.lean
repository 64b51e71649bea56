/-
  The document's Offer.
-/
import Derived.Test.YthpcnnkdpgjiiaaTlRef7
import Derived.Test.YthpcnnkdpgjiiaaTlRef3
namespace Go.Proofs.Ythpcnnkdpgjiiaa
open Go.RowKit Go.Maps Go.Proofs.HeapMath Go.Proofs.TailMath

variable {P : Nat → Prop}

/-- The three blocks, new. -/
theorem three_new (w : World) (C1 C2 C3 : Array Value) : Below w.heap.size w (((w.alloc (.cells C1 50)).alloc (.cells C2 35)).alloc (.cells C3 50)) ∧ Blk (((w.alloc (.cells C1 50)).alloc (.cells C2 35)).alloc (.cells C3 50)) (w.heap.size + 1 + 1) C3 50 := by
  have b2 := blk_new ((w.alloc (.cells C1 50)).alloc (.cells C2 35)) C3 50
  rw [World.size_alloc, World.size_alloc] at b2
  exact ⟨((box_below _).alloc (by simp) _).alloc (by simp; omega) _, b2⟩

theorem of_start (w : World) (n0 : Nat) (hn0 : w.heap.size = n0) (C1 C2 C3 : Array Value) (b : St) (r : Rf) (s : Sp) (h1 : C1 = rfC b r) (h2 : C2 = spA s) (h3 : C3 = rfC (new 0 0 0) rf0) : OfI n0 w (((w.alloc (.cells C1 50)).alloc (.cells C2 35)).alloc (.cells C3 50)) b r s := by
  subst hn0 h1 h2 h3
  have b0 := blk_new w (rfC b r) 50
  have b1 := blk_new (w.alloc (.cells (rfC b r) 50)) (spA s) 35
  have b2 := blk_new ((w.alloc (.cells (rfC b r) 50)).alloc (.cells (spA s) 35)) (rfC (new 0 0 0) rf0) 50
  rw [World.size_alloc] at b1
  rw [World.size_alloc, World.size_alloc] at b2
  exact ⟨((box_below _).alloc (by simp) _).alloc (by simp; omega) _, (b0.same (Below.heap_alloc _ _ _ (by simp))).same (Below.heap_alloc _ _ _ (by simp; omega)), b1.same (Below.heap_alloc _ _ _ (by simp)), b2⟩
theorem of_results {D : World} {f : Func} {tmps : Array Value} {g a q : Nat} {b : St} {r : Rf} {x y : Value} (hr : f.results = #[.cell 6 50, .tmp 7, .tmp 8]) (hb : Blk D g (rfC b r) 50) (h6 : tmps.getD 6 undef = .pointer (some ⟨g, 0, none⟩)) (h7 : tmps.getD 7 undef = x) (h8 : tmps.getD 8 undef = y) (_ : a = q) :
    (results f tmps).run Try.prog D = .ok (.tuple #[rfV b r, x, y]) D := by
  have q0 := hb.cell 0 rfl
  have q1 := hb.cell 1 rfl
  have q2 := hb.cell 2 rfl
  have q3 := hb.cell 3 rfl
  have q4 := hb.cell 4 rfl
  have q5 := hb.cell 5 rfl
  have q6 := hb.cell 6 rfl
  simp at h6 h7 h8
  simp [results, hr, go_sem, h6, h7, h8, q0, q1, q2, q3, q4, q5, q6]
  rfl

set_option linter.unusedSimpArgs false in
set_option maxRecDepth 100000 in
set_option maxHeartbeats 4000000 in
theorem refOffer_no (now : Int) (s : Sp) (w : World) (b : St) (r : Rf) (h : RfIn P w b r) (ht : okT b now = false) :
    Calls Try.prog 32 #[rfV b r, .int .i64 now, spV s] w (OfTo P w (offer b now s)) := by
  have e : offer b now s = (b, 0, 60) := by unfold offer; rw [ht]; rfl
  rw [e]
  have h2 : now < (b.time : Int) ∨ 1099511627776 < now := by simp [okT] at ht; omega
  obtain ⟨A, n, cap, B, m, capB⟩ := r
  obtain ⟨n0, hn0⟩ : ∃ x, w.heap.size = x := ⟨_, rfl⟩
  have HI := Lib.hid (show Below w.heap.size w (((w.alloc (.cells #[.int .i64 (b.sp : Int), .int .i64 (b.wait : Int), .int .i64 (b.most : Int), .int .i64 (b.time : Int), .int .i64 (b.came : Int), .slice A n cap, .slice B m capB] 50)).alloc (.cells #[.int .u64 (s.hi : Int), .int .u64 (s.lo : Int), .int .u64 (s.id : Int), .int .u64 (s.parent : Int), .string s.name, .int .i64 s.start, .int .i64 s.stop, .bool s.bad, .slice none 0 0, .int .u64 (s.rv : Int)] 35)).alloc (.cells #[.int .i64 (b.sp : Int), .int .i64 (b.wait : Int), .int .i64 (b.most : Int), .int .i64 (b.time : Int), .int .i64 (b.came : Int), .slice A n cap, .slice B m capB] 50)) ∧ Blk (((w.alloc (.cells #[.int .i64 (b.sp : Int), .int .i64 (b.wait : Int), .int .i64 (b.most : Int), .int .i64 (b.time : Int), .int .i64 (b.came : Int), .slice A n cap, .slice B m capB] 50)).alloc (.cells #[.int .u64 (s.hi : Int), .int .u64 (s.lo : Int), .int .u64 (s.id : Int), .int .u64 (s.parent : Int), .string s.name, .int .i64 s.start, .int .i64 s.stop, .bool s.bad, .slice none 0 0, .int .u64 (s.rv : Int)] 35)).alloc (.cells #[.int .i64 (b.sp : Int), .int .i64 (b.wait : Int), .int .i64 (b.most : Int), .int .i64 (b.time : Int), .int .i64 (b.came : Int), .slice A n cap, .slice B m capB] 50)) (w.heap.size + 1 + 1) (rfC b ⟨A, n, cap, B, m, capB⟩) 50 from three_new w _ _ _)
  have HR := Lib.hid h
  have HN0 := Lib.hid hn0
  obtain ⟨tm, htm⟩ : ∃ x, b.time = x := ⟨_, rfl⟩
  have HTM := Lib.hid htm
  unfold rfV spV
  rw [htm] at h2 HI
  rw [htm]
  clear h ht e hn0 htm
  by_cases h3 : now < (tm : Int)
  · have t1 : decide (now < (tm : Int)) = true := by simpa using h3
    clear h2 h3
    go_enter Try.func32, Try.ntmps32
    go_wp2_with fail
    refine bodyPost_ret (of_results (b := b) (r := ⟨A, n, cap, B, m, capB⟩) rfl ?_ rfl rfl rfl (rfl : 0 = 0)) rfl ⟨⟨A, n, cap, B, m, capB⟩, rfl, Lib.hid (HR.out.later (HI.out.1)), Lib.hid HI.out.1⟩
    exact HI.out.2
  · have t1 : decide (now < (tm : Int)) = false := by simpa using h3
    have t2 : decide ((1099511627776 : Int) < now) = true := by simp; omega
    clear h2 h3
    go_enter Try.func32, Try.ntmps32
    go_wp2_with fail
    refine bodyPost_ret (of_results (b := b) (r := ⟨A, n, cap, B, m, capB⟩) rfl ?_ rfl rfl rfl (rfl : 0 = 0)) rfl ⟨⟨A, n, cap, B, m, capB⟩, rfl, Lib.hid (HR.out.later (HI.out.1)), Lib.hid HI.out.1⟩
    exact HI.out.2
end Go.Proofs.Ythpcnnkdpgjiiaa
