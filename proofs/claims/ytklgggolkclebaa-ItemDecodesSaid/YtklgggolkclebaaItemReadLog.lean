/-
  What the reader of package item does with a log. No condition.
-/
import Derived.Test.YtklgggolkclebaaItemGot
namespace Go.Proofs.Ytklgggolkclebaa
open Go.RowKit Go.Proofs.NumMath Go.Proofs.ItemMath

theorem readN_lt (cs : List UInt8) (k i : Nat) : (readN cs k i).1 < 18446744073709551616 := by
  unfold readN
  split
  · exact getAt_cs_bounds.1
  · simp
theorem i64_wrap {n : Nat} (h : n < 18446744073709551616) : IntKind.i64.wrap (n : Int) = ItemMath.i64 n := by
  rw [IntKind.wrap_i64]
  unfold ItemMath.i64
  split <;> omega
theorem number_r {ki : Int} (gr k i : Nat) (C : Array Value) (A : Option Addr) (cs : List UInt8) (len cap : Nat) (W : World) (g : Nat × Nat) (hki : ki = (k : Int)) (hgq : readN cs k i = g) (hk : k < 100) (hlen : cs.length = len) (hl : len ≤ cap) (hcap : cap ≤ 9223372036854775807)
    (hg : Blk W gr C 79) (hC0 : C[0]? = some (.slice A len cap)) (hC1 : C[1]? = some (.int .i64 (i : Int))) (hr : Holds8 W.heap.size W A cs) :
    Calls Try.prog 52 #[.pointer (some ⟨gr, 0, none⟩), .int .u64 ki] W fun e W' =>
      e = .returned (.int .u64 (g.1 : Int)) ∧ Blk W' gr (C.setIfInBounds 1 (.int .i64 (g.2 : Int))) 79 ∧ Kept W W' (· = gr) := by
  subst hki hgq
  exact number_read gr k i C A cs len cap W hk hlen hl hcap hg hC0 hC1 hr
theorem text_r {ki mi : Int} (gr k i most : Nat) (C : Array Value) (A : Option Addr) (cs : List UInt8) (len cap : Nat) (W : World) (g : List UInt8 × Nat) (hki : ki = (k : Int)) (hmi : mi = (most : Int)) (hgq : readT cs k most i = g) (hmost : most ≤ 1000) (hk : k < 100) (hlen : cs.length = len) (hl : len ≤ cap) (hcap : cap ≤ 9223372036854775807)
    (hg : Blk W gr C 79) (hC0 : C[0]? = some (.slice A len cap)) (hC1 : C[1]? = some (.int .i64 (i : Int))) (hr : Holds8 W.heap.size W A cs) :
    Calls Try.prog 53 #[.pointer (some ⟨gr, 0, none⟩), .int .u64 ki, .int .i64 mi] W fun e W' =>
      e = .returned (.string (bytesOf g.1)) ∧ Blk W' gr (C.setIfInBounds 1 (.int .i64 (g.2 : Int))) 79 ∧ Kept W W' (· = gr) := by
  subst hki hmi hgq
  exact text_read gr k i C A cs len cap W most hmost hk hlen hl hcap hg hC0 hC1 hr

set_option linter.unusedSimpArgs false in
set_option maxRecDepth 100000 in
set_option maxHeartbeats 4000000 in
/-- **A log read.** -/
theorem readLog_any (B gr : Nat) (v2 v3 v4 v5 v6 v7 v8 v9 v10 v11 v12 : Value) (A : Option Addr) (cs : List UInt8) (len cap : Nat) (W : World) (hlen : cs.length = len) (hl : len ≤ cap) (hcap : cap ≤ 9223372036854775807) (hBg : B ≤ gr) (hr : Holds8 B W A cs)
    (hg : Blk W gr #[.slice A len cap, .int .i64 (1), v2, v3, v4, v5, v6, v7, v8, v9, v10, v11, v12, .string ⟨#[]⟩, .int .u64 0, .int .i64 0, .string ⟨#[]⟩] 79) :
    Calls Try.prog 39 #[.pointer (some ⟨gr, 0, none⟩)] W fun e W' =>
      e = .returned (.tuple #[]) ∧ (∃ up : Nat, Blk W' gr #[.slice A len cap, .int .i64 (up : Int), v2, v3, v4, v5, v6, v7, v8, v9, v10, v11, v12, .string (readLog cs).key, .int .u64 ((readLog cs).weight : Int), .int .i64 (readLog cs).at_, .string (readLog cs).body] 79) ∧ Kept W W' (· = gr) := by
  have hk3 := readN_lt cs 3 (lN2 cs).2
  unfold readLog
  dsimp only
  have e1 : readT cs 1 60 1 = lT1 cs := rfl
  have e2 : readN cs 2 (lT1 cs).2 = lN2 cs := rfl
  have e3 : readN cs 3 (lN2 cs).2 = lN3 cs := rfl
  have e4 : readT cs 4 200 (lN3 cs).2 = lT4 cs := rfl
  rw [e3] at hk3
  generalize lT4 cs = g4 at e4 ⊢
  generalize lN3 cs = g3 at e3 e4 hk3 ⊢
  generalize lN2 cs = g2 at e2 e3 ⊢
  generalize lT1 cs = g1 at e1 e2 ⊢
  obtain ⟨t1, i1⟩ := g1
  obtain ⟨n2, i2⟩ := g2
  obtain ⟨n3, i3⟩ := g3
  obtain ⟨t4, i4⟩ := g4
  dsimp only at e2 e3 e4 hk3 ⊢
  have hw := i64_wrap hk3
  obtain ⟨a3, ha3⟩ : ∃ a, ItemMath.i64 n3 = a := ⟨_, rfl⟩
  rw [ha3] at hw ⊢
  obtain ⟨s1, hs1⟩ : ∃ s, bytesOf t1 = s := ⟨_, rfl⟩
  obtain ⟨s4, hs4⟩ : ∃ s, bytesOf t4 = s := ⟨_, rfl⟩
  rw [hs1, hs4]
  have HS1 := Lib.hid hs1
  have HS4 := Lib.hid hs4
  have E1 := Lib.hid e1
  have E2 := Lib.hid e2
  have E3 := Lib.hid e3
  have E4 := Lib.hid e4
  have HL := Lib.hid hlen
  have HR := Lib.hid hr
  have HG0 := Lib.hid hg
  have hBW : B ≤ W.heap.size := by have := hg.lt; omega
  have hH : ∀ w, Kept W w (· = gr) → Holds8 w.heap.size w A cs := fun w h => (HR.out.below (h.low hBW (fun b hb e => by omega))).mono (by have := h.size; omega)
  clear e1 e2 e3 e4 hs1 hs4 ha3 hk3 hlen hr hg
  go_enter Try.func39, Try.ntmps39
  go_wp2_with fail
  refine (text_r gr 1 1 60 #[.slice A len cap, .int .i64 (1), v2, v3, v4, v5, v6, v7, v8, v9, v10, v11, v12, .string ⟨#[]⟩, .int .u64 0, .int .i64 0, .string ⟨#[]⟩] A cs len cap W (t1, i1) rfl rfl E1.out (by omega) (by omega) HL.out hl hcap HG0.out rfl rfl (hH _ (Kept.refl W (· = gr)))).mono ?_
  rintro e w1 ⟨rfl, hb1, hk1⟩
  have hs1' : bytesOf t1 = s1 := HS1.out
  dsimp only
  rw [hs1']
  clear hs1'
  have hc1 : Blk w1 gr #[.slice A len cap, .int .i64 (i1 : Int), v2, v3, v4, v5, v6, v7, v8, v9, v10, v11, v12, .string ⟨#[]⟩, .int .u64 0, .int .i64 0, .string ⟨#[]⟩] 79 := hb1
  have y1 := hc1.free 13
  have x1 : w1.cell? ⟨gr, 13, none⟩ = some (.string ⟨#[]⟩) := hc1.cell 13 rfl
  have HG1 : Hid (Blk (w1.setCell ⟨gr, 13, none⟩ (.string s1)) gr #[.slice A len cap, .int .i64 (i1 : Int), v2, v3, v4, v5, v6, v7, v8, v9, v10, v11, v12, .string s1, .int .u64 0, .int .i64 0, .string ⟨#[]⟩] 79) := Lib.hid (hc1.set 13 _)
  have HK1 := Lib.hid (((Kept.refl W (· = gr)).trans hk1).set (p := ⟨gr, 13, none⟩) rfl (.string s1))
  clear hb1 hk1 hc1
  generalize hW1 : w1.setCell ⟨gr, 13, none⟩ (.string s1) = W1 at HG1 HK1
  go_wp2_with fail
  refine (number_r gr 2 i1 #[.slice A len cap, .int .i64 (i1 : Int), v2, v3, v4, v5, v6, v7, v8, v9, v10, v11, v12, .string s1, .int .u64 0, .int .i64 0, .string ⟨#[]⟩] A cs len cap W1 (n2, i2) rfl E2.out (by omega) HL.out hl hcap HG1.out rfl rfl (hH _ (HK1.out))).mono ?_
  rintro e w2 ⟨rfl, hb2, hk2⟩
  have hc2 : Blk w2 gr #[.slice A len cap, .int .i64 (i2 : Int), v2, v3, v4, v5, v6, v7, v8, v9, v10, v11, v12, .string s1, .int .u64 0, .int .i64 0, .string ⟨#[]⟩] 79 := hb2
  have y2 := hc2.free 14
  have x2 : w2.cell? ⟨gr, 14, none⟩ = some (.int .u64 0) := hc2.cell 14 rfl
  have HG2 : Hid (Blk (w2.setCell ⟨gr, 14, none⟩ (.int .u64 (n2 : Int))) gr #[.slice A len cap, .int .i64 (i2 : Int), v2, v3, v4, v5, v6, v7, v8, v9, v10, v11, v12, .string s1, .int .u64 (n2 : Int), .int .i64 0, .string ⟨#[]⟩] 79) := Lib.hid (hc2.set 14 _)
  have HK2 := Lib.hid (((HK1.out).trans hk2).set (p := ⟨gr, 14, none⟩) rfl (.int .u64 (n2 : Int)))
  clear hb2 hk2 hc2
  generalize hW2 : w2.setCell ⟨gr, 14, none⟩ (.int .u64 (n2 : Int)) = W2 at HG2 HK2
  go_wp2_with fail
  refine (number_r gr 3 i2 #[.slice A len cap, .int .i64 (i2 : Int), v2, v3, v4, v5, v6, v7, v8, v9, v10, v11, v12, .string s1, .int .u64 (n2 : Int), .int .i64 0, .string ⟨#[]⟩] A cs len cap W2 (n3, i3) rfl E3.out (by omega) HL.out hl hcap HG2.out rfl rfl (hH _ (HK2.out))).mono ?_
  rintro e w3 ⟨rfl, hb3, hk3⟩
  have hc3 : Blk w3 gr #[.slice A len cap, .int .i64 (i3 : Int), v2, v3, v4, v5, v6, v7, v8, v9, v10, v11, v12, .string s1, .int .u64 (n2 : Int), .int .i64 0, .string ⟨#[]⟩] 79 := hb3
  have y3 := hc3.free 15
  have x3 : w3.cell? ⟨gr, 15, none⟩ = some (.int .i64 0) := hc3.cell 15 rfl
  have HG3 : Hid (Blk (w3.setCell ⟨gr, 15, none⟩ (.int .i64 a3)) gr #[.slice A len cap, .int .i64 (i3 : Int), v2, v3, v4, v5, v6, v7, v8, v9, v10, v11, v12, .string s1, .int .u64 (n2 : Int), .int .i64 a3, .string ⟨#[]⟩] 79) := Lib.hid (hc3.set 15 _)
  have HK3 := Lib.hid (((HK2.out).trans hk3).set (p := ⟨gr, 15, none⟩) rfl (.int .i64 a3))
  clear hb3 hk3 hc3
  generalize hW3 : w3.setCell ⟨gr, 15, none⟩ (.int .i64 a3) = W3 at HG3 HK3
  go_wp2_with fail
  refine (text_r gr 4 i3 200 #[.slice A len cap, .int .i64 (i3 : Int), v2, v3, v4, v5, v6, v7, v8, v9, v10, v11, v12, .string s1, .int .u64 (n2 : Int), .int .i64 a3, .string ⟨#[]⟩] A cs len cap W3 (t4, i4) rfl rfl E4.out (by omega) (by omega) HL.out hl hcap HG3.out rfl rfl (hH _ (HK3.out))).mono ?_
  rintro e w4 ⟨rfl, hb4, hk4⟩
  have hs4' : bytesOf t4 = s4 := HS4.out
  dsimp only
  rw [hs4']
  clear hs4'
  have hc4 : Blk w4 gr #[.slice A len cap, .int .i64 (i4 : Int), v2, v3, v4, v5, v6, v7, v8, v9, v10, v11, v12, .string s1, .int .u64 (n2 : Int), .int .i64 a3, .string ⟨#[]⟩] 79 := hb4
  have y4 := hc4.free 16
  have x4 : w4.cell? ⟨gr, 16, none⟩ = some (.string ⟨#[]⟩) := hc4.cell 16 rfl
  have HG4 : Hid (Blk (w4.setCell ⟨gr, 16, none⟩ (.string s4)) gr #[.slice A len cap, .int .i64 (i4 : Int), v2, v3, v4, v5, v6, v7, v8, v9, v10, v11, v12, .string s1, .int .u64 (n2 : Int), .int .i64 a3, .string s4] 79) := Lib.hid (hc4.set 16 _)
  have HK4 := Lib.hid (((HK3.out).trans hk4).set (p := ⟨gr, 16, none⟩) rfl (.string s4))
  clear hb4 hk4 hc4
  generalize hW4 : w4.setCell ⟨gr, 16, none⟩ (.string s4) = W4 at HG4 HK4
  go_wp2_with fail
  go_end0
  exact ⟨rfl, ⟨i4, HG4.out⟩, HK4.out⟩

end Go.Proofs.Ytklgggolkclebaa
