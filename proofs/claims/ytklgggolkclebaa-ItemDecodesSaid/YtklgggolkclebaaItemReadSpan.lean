/-
  What the reader of package item does with a span. No condition.
-/
import Derived.Test.YtklgggolkclebaaItemReadLog
import Derived.Test.YtklgggolkclebaaItemAttrOf
import Derived.Deep.LoopGhost
import Derived.Deep.AppendLies
namespace Go.Proofs.Ytklgggolkclebaa
open Go.RowKit Go.Proofs.NumMath Go.Proofs.ItemMath

theorem own_apart2' {W : World} {B n g : Nat} {v : Value} {xs : List Value} {C : Array Value} {e T : TypeId} (ho : W.ownsRow B e 2 v n xs) (hb : Blk W g C T) (hT : e ≠ T) : v.ownBlock ≠ some g := fun h => by
  rcases ho.2 with ⟨rfl, _⟩ | ⟨k, cap, cur, rfl, _, hk, _⟩
  · simp [Value.ownBlock] at h
  · obtain rfl : k = g := by simpa [Value.ownBlock] using h
    unfold Blk at hb
    rw [hk] at hb
    injection hb with hb
    injection hb with _ h2 _
    exact hT h2
theorem own_kept2 {base gr : Nat} {w w' : World} {e : TypeId} {v : Value} {n : Nat} {xs : List Value} (ho : w.ownsRow base e 2 v n xs) (hk : Kept w w' (· = gr)) (hne : v.ownBlock ≠ some gr) : w'.ownsRow base e 2 v n xs := by
  refine ho.kept (row := some gr) ⟨hk.os, hk.tape, hk.output, hk.size, fun i hi h => hk.block i hi (fun e => h (by rw [e]))⟩ ?_
  exact .inr hne
theorem kept_grown {W X w' : World} {gr : Nat} {v : Value} (h : Kept W X (· = gr)) (hg : X.grownBy w' v.ownBlock) (hv : ∀ b, v.ownBlock = some b → W.heap.size ≤ b) : Kept W w' (· = gr) :=
  ⟨hg.os.trans h.os, hg.tape.trans h.tape, hg.output.trans h.output, Nat.le_trans h.size hg.size, fun b hb hn => (hg.block b (Nat.lt_of_lt_of_le hb h.size) (fun e => by have := hv b e.symm; omega)).trans (h.block b hb hn)⟩
/-- What a reading of a span leaves. -/
def SpanRead (W W' : World) (gr : Nat) (A : Option Addr) (len cap : Nat) (v2 v13 v14 v15 v16 : Value) (s : Sp) : Prop :=
  (∃ (up n' c' : Nat) (A' : Option Addr), n' = s.attrs.length ∧ Blk W' gr #[.slice A len cap, .int .i64 (up : Int), v2, .int .u64 (s.hi : Int), .int .u64 (s.lo : Int), .int .u64 (s.id : Int), .int .u64 (s.par : Int), .string s.name, .int .i64 s.start, .int .i64 s.stop, .bool s.bad, .slice A' n' c', .int .u64 (s.rv : Int), v13, v14, v15, v16] 79 ∧ W'.ownsRow W.heap.size 36 2 (.slice A' n' c') n' (aCells s.attrs)) ∧ Kept W W' (· = gr)
theorem aCells_app' (l : List Attr) (a : Attr) : aCells (l ++ [a]) = aCells l ++ [.string a.1, .string a.2] := by simp [aCells]
theorem readA_cons {cs t : List UInt8} {k i up : Nat} (h : readT cs 10 121 i = (t, up)) (ht : t ≠ []) : (readA cs (k + 1) i).1 = ItemMath.attrOf t :: (readA cs k up).1 := by
  rw [readA, h]
  simp [ht]
theorem readA_stop {cs : List UInt8} {k i up : Nat} (h : readT cs 10 121 i = ([], up)) : (readA cs (k + 1) i).1 = [] := by
  rw [readA, h]
  simp

set_option linter.unusedSimpArgs false in
set_option linter.unusedVariables false in
set_option maxRecDepth 100000 in
set_option maxHeartbeats 4000000 in
/-- **A span read.** -/
theorem readSpan_any (B gr : Nat) (v2 v13 v14 v15 v16 : Value) (A : Option Addr) (cs : List UInt8) (len cap : Nat) (W : World) (hlen : cs.length = len) (hl : len ≤ cap) (hcap : cap ≤ 9223372036854775807) (hBg : B ≤ gr) (hr : Holds8 B W A cs)
    (hg : Blk W gr #[.slice A len cap, .int .i64 (1), v2, .int .u64 0, .int .u64 0, .int .u64 0, .int .u64 0, .string ⟨#[]⟩, .int .i64 0, .int .i64 0, .bool false, .slice none 0 0, .int .u64 0, v13, v14, v15, v16] 79) :
    Calls Try.prog 38 #[.pointer (some ⟨gr, 0, none⟩)] W fun e W' =>
      e = .returned (.tuple #[]) ∧ SpanRead W W' gr A len cap v2 v13 v14 v15 v16 (readSpan cs) := by
  have hk6 := readN_lt cs 6 (rT5 cs).2
  have hk7 := readN_lt cs 7 (rN6 cs).2
  unfold readSpan
  have e1 : readN cs 1 1 = rN1 cs := rfl
  have e2 : readN cs 2 (rN1 cs).2 = rN2 cs := rfl
  have e3 : readN cs 3 (rN2 cs).2 = rN3 cs := rfl
  have e4 : readN cs 4 (rN3 cs).2 = rN4 cs := rfl
  have e5 : readT cs 5 60 (rN4 cs).2 = rT5 cs := rfl
  have e6 : readN cs 6 (rT5 cs).2 = rN6 cs := rfl
  have e7 : readN cs 7 (rN6 cs).2 = rN7 cs := rfl
  have e8 : readN cs 8 (rN7 cs).2 = rN8 cs := rfl
  have e9 : readN cs 9 (rN8 cs).2 = rN9 cs := rfl
  have e10 : readA cs 8 (rN9 cs).2 = rA10 cs := rfl
  rw [e6] at hk6
  rw [e7] at hk7
  generalize rA10 cs = g10 at e10 ⊢
  generalize rN9 cs = g9 at e9 e10 ⊢
  generalize rN8 cs = g8 at e8 e9 ⊢
  generalize rN7 cs = g7 at e7 e8 hk7 ⊢
  generalize rN6 cs = g6 at e6 e7 hk6 ⊢
  generalize rT5 cs = g5 at e5 e6 ⊢
  generalize rN4 cs = g4 at e4 e5 ⊢
  generalize rN3 cs = g3 at e3 e4 ⊢
  generalize rN2 cs = g2 at e2 e3 ⊢
  generalize rN1 cs = g1 at e1 e2 ⊢
  obtain ⟨n1, i1⟩ := g1
  obtain ⟨n2, i2⟩ := g2
  obtain ⟨n3, i3⟩ := g3
  obtain ⟨n4, i4⟩ := g4
  obtain ⟨t5, i5⟩ := g5
  obtain ⟨n6, i6⟩ := g6
  obtain ⟨n7, i7⟩ := g7
  obtain ⟨n8, i8⟩ := g8
  obtain ⟨n9, i9⟩ := g9
  obtain ⟨al, i10⟩ := g10
  dsimp only at e2 e3 e4 e5 e6 e7 e8 e9 e10 hk6 hk7 ⊢
  have hw6 := i64_wrap hk6
  have hw7 := i64_wrap hk7
  obtain ⟨a6, ha6⟩ : ∃ a, ItemMath.i64 n6 = a := ⟨_, rfl⟩
  obtain ⟨a7, ha7⟩ : ∃ a, ItemMath.i64 n7 = a := ⟨_, rfl⟩
  obtain ⟨bd, hbd⟩ : ∃ b, decide (n8 ≠ 0) = b := ⟨_, rfl⟩
  have hbd' : ((n8 : Int) != 0) = bd := by rw [← hbd, Bool.eq_iff_iff]; simp
  obtain ⟨s5, hs5⟩ : ∃ s, bytesOf t5 = s := ⟨_, rfl⟩
  rw [ha6] at hw6 ⊢
  rw [ha7] at hw7 ⊢
  rw [hs5, hbd]
  have HS5 := Lib.hid hs5
  have E1 := Lib.hid e1
  have E2 := Lib.hid e2
  have E3 := Lib.hid e3
  have E4 := Lib.hid e4
  have E5 := Lib.hid e5
  have E6 := Lib.hid e6
  have E7 := Lib.hid e7
  have E8 := Lib.hid e8
  have E9 := Lib.hid e9
  have E10 := Lib.hid e10
  have HL := Lib.hid hlen
  have HR := Lib.hid hr
  have HG0 := Lib.hid hg
  have hBW : B ≤ W.heap.size := by have := hg.lt; omega
  have hgW := hg.lt
  obtain ⟨j1, ha0, ha1, ha2, ha3⟩ := info_parts info_attr
  have hH : ∀ w, Kept W w (· = gr) → Holds8 w.heap.size w A cs := fun w h => (HR.out.below (h.low hBW (fun b hb e => by omega))).mono (by have := h.size; omega)
  clear e1 e2 e3 e4 e5 e6 e7 e8 e9 e10 hs5 ha6 ha7 hbd hk6 hk7 hlen hr hg
  go_enter Try.func38, Try.ntmps38
  go_wp2_with fail
  refine (number_r gr 1 1 #[.slice A len cap, .int .i64 (1), v2, .int .u64 0, .int .u64 0, .int .u64 0, .int .u64 0, .string ⟨#[]⟩, .int .i64 0, .int .i64 0, .bool false, .slice none 0 0, .int .u64 0, v13, v14, v15, v16] A cs len cap W (n1, i1) rfl E1.out (by omega) HL.out hl hcap HG0.out rfl rfl (hH _ (Kept.refl W (· = gr)))).mono ?_
  rintro e w1 ⟨rfl, hb1, hk1⟩
  have hc1 : Blk w1 gr #[.slice A len cap, .int .i64 (i1 : Int), v2, .int .u64 0, .int .u64 0, .int .u64 0, .int .u64 0, .string ⟨#[]⟩, .int .i64 0, .int .i64 0, .bool false, .slice none 0 0, .int .u64 0, v13, v14, v15, v16] 79 := hb1
  have y1 := hc1.free 3
  have x1 : w1.cell? ⟨gr, 3, none⟩ = some (.int .u64 0) := hc1.cell 3 rfl
  have HG1 : Hid (Blk (w1.setCell ⟨gr, 3, none⟩ (.int .u64 (n1 : Int))) gr #[.slice A len cap, .int .i64 (i1 : Int), v2, .int .u64 (n1 : Int), .int .u64 0, .int .u64 0, .int .u64 0, .string ⟨#[]⟩, .int .i64 0, .int .i64 0, .bool false, .slice none 0 0, .int .u64 0, v13, v14, v15, v16] 79) := Lib.hid (hc1.set 3 _)
  have HK1 := Lib.hid (((Kept.refl W (· = gr)).trans hk1).set (p := ⟨gr, 3, none⟩) rfl (.int .u64 (n1 : Int)))
  clear hb1 hk1 hc1
  generalize hW1 : w1.setCell ⟨gr, 3, none⟩ (.int .u64 (n1 : Int)) = W1 at HG1 HK1
  go_wp2_with fail
  refine (number_r gr 2 i1 #[.slice A len cap, .int .i64 (i1 : Int), v2, .int .u64 (n1 : Int), .int .u64 0, .int .u64 0, .int .u64 0, .string ⟨#[]⟩, .int .i64 0, .int .i64 0, .bool false, .slice none 0 0, .int .u64 0, v13, v14, v15, v16] A cs len cap W1 (n2, i2) rfl E2.out (by omega) HL.out hl hcap HG1.out rfl rfl (hH _ (HK1.out))).mono ?_
  rintro e w2 ⟨rfl, hb2, hk2⟩
  have hc2 : Blk w2 gr #[.slice A len cap, .int .i64 (i2 : Int), v2, .int .u64 (n1 : Int), .int .u64 0, .int .u64 0, .int .u64 0, .string ⟨#[]⟩, .int .i64 0, .int .i64 0, .bool false, .slice none 0 0, .int .u64 0, v13, v14, v15, v16] 79 := hb2
  have y2 := hc2.free 4
  have x2 : w2.cell? ⟨gr, 4, none⟩ = some (.int .u64 0) := hc2.cell 4 rfl
  have HG2 : Hid (Blk (w2.setCell ⟨gr, 4, none⟩ (.int .u64 (n2 : Int))) gr #[.slice A len cap, .int .i64 (i2 : Int), v2, .int .u64 (n1 : Int), .int .u64 (n2 : Int), .int .u64 0, .int .u64 0, .string ⟨#[]⟩, .int .i64 0, .int .i64 0, .bool false, .slice none 0 0, .int .u64 0, v13, v14, v15, v16] 79) := Lib.hid (hc2.set 4 _)
  have HK2 := Lib.hid (((HK1.out).trans hk2).set (p := ⟨gr, 4, none⟩) rfl (.int .u64 (n2 : Int)))
  clear hb2 hk2 hc2
  generalize hW2 : w2.setCell ⟨gr, 4, none⟩ (.int .u64 (n2 : Int)) = W2 at HG2 HK2
  go_wp2_with fail
  refine (number_r gr 3 i2 #[.slice A len cap, .int .i64 (i2 : Int), v2, .int .u64 (n1 : Int), .int .u64 (n2 : Int), .int .u64 0, .int .u64 0, .string ⟨#[]⟩, .int .i64 0, .int .i64 0, .bool false, .slice none 0 0, .int .u64 0, v13, v14, v15, v16] A cs len cap W2 (n3, i3) rfl E3.out (by omega) HL.out hl hcap HG2.out rfl rfl (hH _ (HK2.out))).mono ?_
  rintro e w3 ⟨rfl, hb3, hk3⟩
  have hc3 : Blk w3 gr #[.slice A len cap, .int .i64 (i3 : Int), v2, .int .u64 (n1 : Int), .int .u64 (n2 : Int), .int .u64 0, .int .u64 0, .string ⟨#[]⟩, .int .i64 0, .int .i64 0, .bool false, .slice none 0 0, .int .u64 0, v13, v14, v15, v16] 79 := hb3
  have y3 := hc3.free 5
  have x3 : w3.cell? ⟨gr, 5, none⟩ = some (.int .u64 0) := hc3.cell 5 rfl
  have HG3 : Hid (Blk (w3.setCell ⟨gr, 5, none⟩ (.int .u64 (n3 : Int))) gr #[.slice A len cap, .int .i64 (i3 : Int), v2, .int .u64 (n1 : Int), .int .u64 (n2 : Int), .int .u64 (n3 : Int), .int .u64 0, .string ⟨#[]⟩, .int .i64 0, .int .i64 0, .bool false, .slice none 0 0, .int .u64 0, v13, v14, v15, v16] 79) := Lib.hid (hc3.set 5 _)
  have HK3 := Lib.hid (((HK2.out).trans hk3).set (p := ⟨gr, 5, none⟩) rfl (.int .u64 (n3 : Int)))
  clear hb3 hk3 hc3
  generalize hW3 : w3.setCell ⟨gr, 5, none⟩ (.int .u64 (n3 : Int)) = W3 at HG3 HK3
  go_wp2_with fail
  refine (number_r gr 4 i3 #[.slice A len cap, .int .i64 (i3 : Int), v2, .int .u64 (n1 : Int), .int .u64 (n2 : Int), .int .u64 (n3 : Int), .int .u64 0, .string ⟨#[]⟩, .int .i64 0, .int .i64 0, .bool false, .slice none 0 0, .int .u64 0, v13, v14, v15, v16] A cs len cap W3 (n4, i4) rfl E4.out (by omega) HL.out hl hcap HG3.out rfl rfl (hH _ (HK3.out))).mono ?_
  rintro e w4 ⟨rfl, hb4, hk4⟩
  have hc4 : Blk w4 gr #[.slice A len cap, .int .i64 (i4 : Int), v2, .int .u64 (n1 : Int), .int .u64 (n2 : Int), .int .u64 (n3 : Int), .int .u64 0, .string ⟨#[]⟩, .int .i64 0, .int .i64 0, .bool false, .slice none 0 0, .int .u64 0, v13, v14, v15, v16] 79 := hb4
  have y4 := hc4.free 6
  have x4 : w4.cell? ⟨gr, 6, none⟩ = some (.int .u64 0) := hc4.cell 6 rfl
  have HG4 : Hid (Blk (w4.setCell ⟨gr, 6, none⟩ (.int .u64 (n4 : Int))) gr #[.slice A len cap, .int .i64 (i4 : Int), v2, .int .u64 (n1 : Int), .int .u64 (n2 : Int), .int .u64 (n3 : Int), .int .u64 (n4 : Int), .string ⟨#[]⟩, .int .i64 0, .int .i64 0, .bool false, .slice none 0 0, .int .u64 0, v13, v14, v15, v16] 79) := Lib.hid (hc4.set 6 _)
  have HK4 := Lib.hid (((HK3.out).trans hk4).set (p := ⟨gr, 6, none⟩) rfl (.int .u64 (n4 : Int)))
  clear hb4 hk4 hc4
  generalize hW4 : w4.setCell ⟨gr, 6, none⟩ (.int .u64 (n4 : Int)) = W4 at HG4 HK4
  go_wp2_with fail
  refine (text_r gr 5 i4 60 #[.slice A len cap, .int .i64 (i4 : Int), v2, .int .u64 (n1 : Int), .int .u64 (n2 : Int), .int .u64 (n3 : Int), .int .u64 (n4 : Int), .string ⟨#[]⟩, .int .i64 0, .int .i64 0, .bool false, .slice none 0 0, .int .u64 0, v13, v14, v15, v16] A cs len cap W4 (t5, i5) rfl rfl E5.out (by omega) (by omega) HL.out hl hcap HG4.out rfl rfl (hH _ (HK4.out))).mono ?_
  rintro e w5 ⟨rfl, hb5, hk5⟩
  have hs' : bytesOf t5 = s5 := HS5.out
  dsimp only
  rw [hs']
  clear hs'
  have hc5 : Blk w5 gr #[.slice A len cap, .int .i64 (i5 : Int), v2, .int .u64 (n1 : Int), .int .u64 (n2 : Int), .int .u64 (n3 : Int), .int .u64 (n4 : Int), .string ⟨#[]⟩, .int .i64 0, .int .i64 0, .bool false, .slice none 0 0, .int .u64 0, v13, v14, v15, v16] 79 := hb5
  have y5 := hc5.free 7
  have x5 : w5.cell? ⟨gr, 7, none⟩ = some (.string ⟨#[]⟩) := hc5.cell 7 rfl
  have HG5 : Hid (Blk (w5.setCell ⟨gr, 7, none⟩ (.string s5)) gr #[.slice A len cap, .int .i64 (i5 : Int), v2, .int .u64 (n1 : Int), .int .u64 (n2 : Int), .int .u64 (n3 : Int), .int .u64 (n4 : Int), .string s5, .int .i64 0, .int .i64 0, .bool false, .slice none 0 0, .int .u64 0, v13, v14, v15, v16] 79) := Lib.hid (hc5.set 7 _)
  have HK5 := Lib.hid (((HK4.out).trans hk5).set (p := ⟨gr, 7, none⟩) rfl (.string s5))
  clear hb5 hk5 hc5
  generalize hW5 : w5.setCell ⟨gr, 7, none⟩ (.string s5) = W5 at HG5 HK5
  go_wp2_with fail
  refine (number_r gr 6 i5 #[.slice A len cap, .int .i64 (i5 : Int), v2, .int .u64 (n1 : Int), .int .u64 (n2 : Int), .int .u64 (n3 : Int), .int .u64 (n4 : Int), .string s5, .int .i64 0, .int .i64 0, .bool false, .slice none 0 0, .int .u64 0, v13, v14, v15, v16] A cs len cap W5 (n6, i6) rfl E6.out (by omega) HL.out hl hcap HG5.out rfl rfl (hH _ (HK5.out))).mono ?_
  rintro e w6 ⟨rfl, hb6, hk6⟩
  have hc6 : Blk w6 gr #[.slice A len cap, .int .i64 (i6 : Int), v2, .int .u64 (n1 : Int), .int .u64 (n2 : Int), .int .u64 (n3 : Int), .int .u64 (n4 : Int), .string s5, .int .i64 0, .int .i64 0, .bool false, .slice none 0 0, .int .u64 0, v13, v14, v15, v16] 79 := hb6
  have y6 := hc6.free 8
  have x6 : w6.cell? ⟨gr, 8, none⟩ = some (.int .i64 0) := hc6.cell 8 rfl
  have HG6 : Hid (Blk (w6.setCell ⟨gr, 8, none⟩ (.int .i64 a6)) gr #[.slice A len cap, .int .i64 (i6 : Int), v2, .int .u64 (n1 : Int), .int .u64 (n2 : Int), .int .u64 (n3 : Int), .int .u64 (n4 : Int), .string s5, .int .i64 a6, .int .i64 0, .bool false, .slice none 0 0, .int .u64 0, v13, v14, v15, v16] 79) := Lib.hid (hc6.set 8 _)
  have HK6 := Lib.hid (((HK5.out).trans hk6).set (p := ⟨gr, 8, none⟩) rfl (.int .i64 a6))
  clear hb6 hk6 hc6
  generalize hW6 : w6.setCell ⟨gr, 8, none⟩ (.int .i64 a6) = W6 at HG6 HK6
  go_wp2_with fail
  refine (number_r gr 7 i6 #[.slice A len cap, .int .i64 (i6 : Int), v2, .int .u64 (n1 : Int), .int .u64 (n2 : Int), .int .u64 (n3 : Int), .int .u64 (n4 : Int), .string s5, .int .i64 a6, .int .i64 0, .bool false, .slice none 0 0, .int .u64 0, v13, v14, v15, v16] A cs len cap W6 (n7, i7) rfl E7.out (by omega) HL.out hl hcap HG6.out rfl rfl (hH _ (HK6.out))).mono ?_
  rintro e w7 ⟨rfl, hb7, hk7⟩
  have hc7 : Blk w7 gr #[.slice A len cap, .int .i64 (i7 : Int), v2, .int .u64 (n1 : Int), .int .u64 (n2 : Int), .int .u64 (n3 : Int), .int .u64 (n4 : Int), .string s5, .int .i64 a6, .int .i64 0, .bool false, .slice none 0 0, .int .u64 0, v13, v14, v15, v16] 79 := hb7
  have y7 := hc7.free 9
  have x7 : w7.cell? ⟨gr, 9, none⟩ = some (.int .i64 0) := hc7.cell 9 rfl
  have HG7 : Hid (Blk (w7.setCell ⟨gr, 9, none⟩ (.int .i64 a7)) gr #[.slice A len cap, .int .i64 (i7 : Int), v2, .int .u64 (n1 : Int), .int .u64 (n2 : Int), .int .u64 (n3 : Int), .int .u64 (n4 : Int), .string s5, .int .i64 a6, .int .i64 a7, .bool false, .slice none 0 0, .int .u64 0, v13, v14, v15, v16] 79) := Lib.hid (hc7.set 9 _)
  have HK7 := Lib.hid (((HK6.out).trans hk7).set (p := ⟨gr, 9, none⟩) rfl (.int .i64 a7))
  clear hb7 hk7 hc7
  generalize hW7 : w7.setCell ⟨gr, 9, none⟩ (.int .i64 a7) = W7 at HG7 HK7
  go_wp2_with fail
  refine (number_r gr 8 i7 #[.slice A len cap, .int .i64 (i7 : Int), v2, .int .u64 (n1 : Int), .int .u64 (n2 : Int), .int .u64 (n3 : Int), .int .u64 (n4 : Int), .string s5, .int .i64 a6, .int .i64 a7, .bool false, .slice none 0 0, .int .u64 0, v13, v14, v15, v16] A cs len cap W7 (n8, i8) rfl E8.out (by omega) HL.out hl hcap HG7.out rfl rfl (hH _ (HK7.out))).mono ?_
  rintro e w8 ⟨rfl, hb8, hk8⟩
  have hc8 : Blk w8 gr #[.slice A len cap, .int .i64 (i8 : Int), v2, .int .u64 (n1 : Int), .int .u64 (n2 : Int), .int .u64 (n3 : Int), .int .u64 (n4 : Int), .string s5, .int .i64 a6, .int .i64 a7, .bool false, .slice none 0 0, .int .u64 0, v13, v14, v15, v16] 79 := hb8
  have y8 := hc8.free 10
  have x8 : w8.cell? ⟨gr, 10, none⟩ = some (.bool false) := hc8.cell 10 rfl
  have HG8 : Hid (Blk (w8.setCell ⟨gr, 10, none⟩ (.bool bd)) gr #[.slice A len cap, .int .i64 (i8 : Int), v2, .int .u64 (n1 : Int), .int .u64 (n2 : Int), .int .u64 (n3 : Int), .int .u64 (n4 : Int), .string s5, .int .i64 a6, .int .i64 a7, .bool bd, .slice none 0 0, .int .u64 0, v13, v14, v15, v16] 79) := Lib.hid (hc8.set 10 _)
  have HK8 := Lib.hid (((HK7.out).trans hk8).set (p := ⟨gr, 10, none⟩) rfl (.bool bd))
  clear hb8 hk8 hc8
  generalize hW8 : w8.setCell ⟨gr, 10, none⟩ (.bool bd) = W8 at HG8 HK8
  go_wp2_with fail
  refine (number_r gr 9 i8 #[.slice A len cap, .int .i64 (i8 : Int), v2, .int .u64 (n1 : Int), .int .u64 (n2 : Int), .int .u64 (n3 : Int), .int .u64 (n4 : Int), .string s5, .int .i64 a6, .int .i64 a7, .bool bd, .slice none 0 0, .int .u64 0, v13, v14, v15, v16] A cs len cap W8 (n9, i9) rfl E9.out (by omega) HL.out hl hcap HG8.out rfl rfl (hH _ (HK8.out))).mono ?_
  rintro e w9 ⟨rfl, hb9, hk9⟩
  have hc9 : Blk w9 gr #[.slice A len cap, .int .i64 (i9 : Int), v2, .int .u64 (n1 : Int), .int .u64 (n2 : Int), .int .u64 (n3 : Int), .int .u64 (n4 : Int), .string s5, .int .i64 a6, .int .i64 a7, .bool bd, .slice none 0 0, .int .u64 0, v13, v14, v15, v16] 79 := hb9
  have y9 := hc9.free 12
  have x9 : w9.cell? ⟨gr, 12, none⟩ = some (.int .u64 0) := hc9.cell 12 rfl
  have HG9 : Hid (Blk (w9.setCell ⟨gr, 12, none⟩ (.int .u64 (n9 : Int))) gr #[.slice A len cap, .int .i64 (i9 : Int), v2, .int .u64 (n1 : Int), .int .u64 (n2 : Int), .int .u64 (n3 : Int), .int .u64 (n4 : Int), .string s5, .int .i64 a6, .int .i64 a7, .bool bd, .slice none 0 0, .int .u64 (n9 : Int), v13, v14, v15, v16] 79) := Lib.hid (hc9.set 12 _)
  have HK9 := Lib.hid (((HK8.out).trans hk9).set (p := ⟨gr, 12, none⟩) rfl (.int .u64 (n9 : Int)))
  clear hb9 hk9 hc9
  generalize hW9 : w9.setCell ⟨gr, 12, none⟩ (.int .u64 (n9 : Int)) = W9 at HG9 HK9
  go_wp2_with fail
  go_loopg [3] 8 (fun gk p wr => ∃ (i k c' : Nat) (A' : Option Addr) (pre : List (List UInt8 × List UInt8)), gk + k = 8 ∧ Hid (pre.length = k) ∧ Blk wr gr #[.slice A len cap, .int .i64 (i : Int), v2, .int .u64 (n1 : Int), .int .u64 (n2 : Int), .int .u64 (n3 : Int), .int .u64 (n4 : Int), .string s5, .int .i64 a6, .int .i64 a7, .bool bd, .slice A' k c', .int .u64 (n9 : Int), v13, v14, v15, v16] 79 ∧ wr.ownsRow W.heap.size 36 2 (.slice A' k c') k (aCells (pre.map pairOf)) ∧ Hid (al = pre ++ (readA cs gk i).1) ∧ Kept W wr (· = gr))
  case atStart => exact ⟨i9, 0, 0, none, [], by omega, rfl, HG9.out, World.ownsRow_nil _ _ _ _, Lib.hid (by rw [E10.out]; rfl), HK9.out⟩
  case round =>
    obtain ⟨i, k, c2, A2, pre, hgk, hpl, hblk, hown, hal, hK⟩ := hrel
    have z8 : wr.cell? ⟨gr, 11, none⟩ = some (.slice A2 k c2) := hblk.cell 11 rfl
    have HB := Lib.hid hblk
    have HO := Lib.hid hown
    clear hblk hown
    by_cases h8 : k < 8
    · have d8 : decide ((k : Int) < 8) = true := by simp; omega
      obtain ⟨g', rfl⟩ : ∃ g', gk = g' + 1 := ⟨gk - 1, by omega⟩
      obtain ⟨gt, hgt⟩ : ∃ g, readT cs 10 121 i = g := ⟨_, rfl⟩
      obtain ⟨t, up⟩ := gt
      have htl := readT_len cs 10 121 i
      rw [hgt] at htl
      dsimp only at htl
      have HGT := Lib.hid hgt
      clear hgt
      go_wp2_with fail
      refine (text_r gr 10 i 121 #[.slice A len cap, .int .i64 (i : Int), v2, .int .u64 (n1 : Int), .int .u64 (n2 : Int), .int .u64 (n3 : Int), .int .u64 (n4 : Int), .string s5, .int .i64 a6, .int .i64 a7, .bool bd, .slice A2 k c2, .int .u64 (n9 : Int), v13, v14, v15, v16] A cs len cap wr (t, up) rfl rfl HGT.out (by omega) (by omega) HL.out hl hcap HB.out rfl rfl (hH _ hK)).mono ?_
      rintro e w2 ⟨rfl, hb2, hk2⟩
      have hc2' : Blk w2 gr #[.slice A len cap, .int .i64 (up : Int), v2, .int .u64 (n1 : Int), .int .u64 (n2 : Int), .int .u64 (n3 : Int), .int .u64 (n4 : Int), .string s5, .int .i64 a6, .int .i64 a7, .bool bd, .slice A2 k c2, .int .u64 (n9 : Int), v13, v14, v15, v16] 79 := hb2
      have HB2 := Lib.hid hc2'
      have HO2 := Lib.hid (own_kept2 HO.out hk2 (own_apart2' HO.out HB.out (by decide)))
      have HK2 := Lib.hid (hK.trans hk2)
      obtain ⟨s, hs⟩ : ∃ s, bytesOf t = s := ⟨_, rfl⟩
      have hsl : s.data.toList = t := by rw [← hs]; exact list_bytesOf t
      have hss : s.size ≤ 121 := by rw [← size_list, hsl]; exact htl
      dsimp only
      rw [hs]
      have HSL := Lib.hid hsl
      clear hb2 hk2 hc2' hs hsl
      by_cases h0 : s.size = 0
      · have hnm := empty_of h0
        have ht : t = [] := by rw [← HSL.out]; exact List.eq_nil_of_length_eq_zero (by rw [size_list]; exact h0)
        have hal2 : al = pre := by
          rw [hal.out, readA_stop (by rw [HGT.out, ht])]; simp
        clear h0 z8
        subst hal2
        go_wp2_with fail
        go_end0
        exact ⟨rfl, by unfold SpanRead; exact ⟨⟨up, k, c2, A2, by rw [List.length_map]; exact hpl.out.symm, HB2.out, HO2.out⟩, HK2.out⟩⟩
      · have hnm := full_of h0
        have ht : t ≠ [] := fun e => h0 (by rw [← size_list, HSL.out, e]; rfl)
        have hA := fun W => attrOf_any s W (by omega)
        rw [HSL.out] at hA
        obtain ⟨pr, hpr⟩ : ∃ p, pairOf (ItemMath.attrOf t) = p := ⟨_, rfl⟩
        obtain ⟨key, val⟩ := pr
        rw [hpr] at hA
        dsimp only at hA
        have HA := Lib.hid hA
        have HPR := Lib.hid hpr
        have hal2 : al = (pre ++ [ItemMath.attrOf t]) ++ (readA cs g' up).1 := by rw [hal.out, readA_cons HGT.out ht]; simp
        have HAL := Lib.hid hal2
        have HPL : Hid ((pre ++ [ItemMath.attrOf t]).length = k + 1) := Lib.hid (by simp [hpl.out])
        have hne2 := own_apart2' HO2.out HB2.out (by decide)
        have hge2 : ∀ b, (Value.slice A2 k c2).ownBlock = some b → W.heap.size ≤ b := fun b hb => by
          rcases HO2.out.2 with ⟨e, _⟩ | ⟨g2, _, _, e, hg2, _⟩
          · rw [e] at hb; simp [Value.ownBlock] at hb
          · rw [e] at hb; simp [Value.ownBlock] at hb; omega
        have z82 : w2.cell? ⟨gr, 11, none⟩ = some (.slice A2 k c2) := HB2.out.cell 11 rfl
        have hg2l := HB2.out.lt
        have hWw2 := HK2.out.size
        clear hA hpr hal hal2 h0 ht z8 HSL
        go_wp2_with fail
        refine RegionBut.region_but 11 (S := fun w => w.cell? ⟨gr, 11, none⟩ = some (.slice A2 k c2)) (by kernel_rfl) ?_ (fun hHeld => ?_)
        · exact z82
        refine RegionBut.but_take (i := 0) (v := ?_) rfl (by kernel_rfl) (by kernel_rfl) (by kernel_rfl) (by kernel_rfl) (fun _ _ _ h => h) (Or.inl ⟨by rfl, ?_⟩) (by assumption) ?_
        rotate_left
        · intro wq hSw; (try dsimp only at hSw); go_simp; (try with_reducible rfl)
        simp only [Act.put, List.getElem_toArray, List.getElem_cons_succ, List.getElem_cons_zero, List.setIfInBounds_toArray, List.set_cons_zero, List.set_cons_succ]
        refine RegionBut.but_take (i := 1) (v := ?_) rfl (by kernel_rfl) (by kernel_rfl) (by kernel_rfl) (by kernel_rfl) (fun _ _ _ h => h) (Or.inl ⟨by rfl, ?_⟩) (by assumption) ?_
        rotate_left
        · intro wq hSw; (try dsimp only at hSw); go_simp; (try with_reducible rfl)
        simp only [Act.put, List.getElem_toArray, List.getElem_cons_succ, List.getElem_cons_zero, List.setIfInBounds_toArray, List.set_cons_zero, List.set_cons_succ]
        refine RegionBut.but_take (i := 2) (v := ?_) rfl (by kernel_rfl) (by kernel_rfl) (by kernel_rfl) (by kernel_rfl) (fun _ _ _ h => h) (Or.inl ⟨by rfl, ?_⟩) (by assumption) ?_
        rotate_left
        · intro wq hSw; (try dsimp only at hSw); go_simp; (try with_reducible rfl)
        simp only [Act.put, List.getElem_toArray, List.getElem_cons_succ, List.getElem_cons_zero, List.setIfInBounds_toArray, List.set_cons_zero, List.set_cons_succ]
        refine RegionBut.but_take (i := 3) (v := ?_) rfl (by kernel_rfl) (by kernel_rfl) (by kernel_rfl) (by kernel_rfl) (fun _ _ _ h => h) (Or.inl ⟨by rfl, ?_⟩) (by assumption) ?_
        rotate_left
        · intro wq hSw; (try dsimp only at hSw); go_simp; (try with_reducible rfl)
        simp only [Act.put, List.getElem_toArray, List.getElem_cons_succ, List.getElem_cons_zero, List.setIfInBounds_toArray, List.set_cons_zero, List.set_cons_succ]
        refine RegionBut.but_take (i := 4) (v := ?_) rfl (by kernel_rfl) (by kernel_rfl) (by kernel_rfl) (by kernel_rfl) (fun _ _ _ h => h) (Or.inl ⟨by rfl, ?_⟩) (by assumption) ?_
        rotate_left
        · intro wq hSw; (try dsimp only at hSw); have hq := hSw; go_simp; (try with_reducible rfl)
        simp only [Act.put, List.getElem_toArray, List.getElem_cons_succ, List.getElem_cons_zero, List.setIfInBounds_toArray, List.set_cons_zero, List.set_cons_succ]
        refine RegionBut.but_take (i := 5) (v := ?_) rfl (by kernel_rfl) (by kernel_rfl) (by kernel_rfl) (by kernel_rfl) (fun _ _ _ h => h) (Or.inl ⟨by rfl, ?_⟩) (by assumption) ?_
        rotate_left
        · intro wq hSw; (try dsimp only at hSw); go_simp; (try with_reducible rfl)
        simp only [Act.put, List.getElem_toArray, List.getElem_cons_succ, List.getElem_cons_zero, List.setIfInBounds_toArray, List.set_cons_zero, List.set_cons_succ]
        refine RegionBut.but_ready (rs := [6]) (by kernel_rfl) (by simp) ?_
        refine RegionBut.Nexts.cons rfl (fun K hK => ?_) RegionBut.Nexts.nil
        go_simp
        refine (HA.out _).mono ?_
        rintro e w3 ⟨rfl, hb3'⟩
        have hb3 : Below w2.heap.size w2 w3 := undrewn hb3'
        have HB3 := Lib.hid (HB2.out.same (hb3.block _ hg2l))
        have HO3 := Lib.hid (own_kept2 HO2.out (Kept.of_below hb3 (· = gr)) hne2)
        have HK3 := Lib.hid (HK2.out.trans (Kept.of_below hb3 (· = gr)))
        have hs3 := hb3.size
        clear hb3 hb3'
        (try go_wp2_with fail)
        refine hK.out _ _ ?_ (fun hHeld => ?_)
        · exact HB3.out.cell 11 rfl
        clear hK K
        try simp only [Act.put, List.getElem_toArray, List.getElem_cons_succ, List.getElem_cons_zero, List.setIfInBounds_toArray, List.set_cons_zero, List.set_cons_succ]
        refine RegionBut.but_ready (rs := [7]) (by kernel_rfl) (by simp) ?_
        refine RegionBut.Nexts.cons rfl (fun K hK => ?_) RegionBut.Nexts.nil
        go_simp
        (try go_wp2_with fail)
        refine hK.out _ _ ?_ (fun hHeld => ?_)
        · exact (HB3.out.same (Below.heap_alloc _ _ _ HB3.out.lt)).cell 11 rfl
        clear hK K
        try simp only [Act.put, List.getElem_toArray, List.getElem_cons_succ, List.getElem_cons_zero, List.setIfInBounds_toArray, List.set_cons_zero, List.set_cons_succ]
        refine RegionBut.but_ready (rs := [8]) (by kernel_rfl) (by simp) ?_
        refine RegionBut.Nexts.cons rfl (fun K hK => ?_) RegionBut.Nexts.nil
        refine step_append_lies _ rfl (.tmp 90) (.tmp 93) 24 rfl W.heap.size 36 j1 (.agg #[.string ⟨#[]⟩, .string ⟨#[]⟩]) 2 32 Try.underlying24 ha0 ha1 ha2 ha3 rfl (by decide) (.slice A2 k c2) k (aCells (pre.map pairOf)) rfl (HO3.out.alloc _) ⟨w3.heap.size, 0, none⟩ 1 1 [.string key, .string val] rfl rfl (new_pair w3 _ _ _) (by simp [Value.oneCell']) (by decide) (by unfold maxLen; omega) (by omega) (by rw [World.size_alloc]; omega) (w3.heap.size + 1) (by simp) ?_
        intro g4 c4 w4 hown4 hgr4 hor4 hlt4
        have HB4 := Lib.hid ((HB3.out.same (Below.heap_alloc w3 (.cells #[.string key, .string val] 36) _ HB3.out.lt)).same (grown_at hgr4 (by rw [World.size_alloc]; omega) hne2))
        have HO4 := Lib.hid hown4
        have HK4 := Lib.hid (kept_grown (HK3.out.trans (Kept.of_below ((Below.refl _ w3).alloc (Nat.le_refl _) (.cells #[.string key, .string val] 36)) (· = gr))) hgr4 hge2)
        clear hown4 hgr4
        refine hK.out _ _ ?_ (fun hHeld => ?_)
        · exact HB4.out.cell 11 rfl
        clear hK K
        try simp only [Act.put, List.getElem_toArray, List.getElem_cons_succ, List.getElem_cons_zero, List.setIfInBounds_toArray, List.set_cons_zero, List.set_cons_succ]
        refine RegionBut.but_ready (rs := [9]) (by kernel_rfl) (by simp) ?_
        refine RegionBut.Nexts.cons rfl (fun K hK => ?_) RegionBut.Nexts.nil
        go_simp
        (try go_wp2_with fail)
        refine hK.out _ _ ?_ (fun hHeld => ?_)
        · exact hHeld
        clear hK K
        try simp only [Act.put, List.getElem_toArray, List.getElem_cons_succ, List.getElem_cons_zero, List.setIfInBounds_toArray, List.set_cons_zero, List.set_cons_succ]
        refine RegionBut.but_take (i := 10) (v := ?_) rfl (by kernel_rfl) (by kernel_rfl) (by kernel_rfl) (by kernel_rfl) (fun _ _ _ h => h) (Or.inl ⟨by rfl, ?_⟩) (by assumption) ?_
        rotate_left
        · intro wq hSw; (try dsimp only at hSw); go_simp; (try with_reducible rfl)
        simp only [Act.put, List.getElem_toArray, List.getElem_cons_succ, List.getElem_cons_zero, List.setIfInBounds_toArray, List.set_cons_zero, List.set_cons_succ]
        refine RegionBut.but_ready (rs := [11]) (by kernel_rfl) (by simp) ?_
        refine RegionBut.Nexts.last rfl (fun K hK => ?_)
        have y4 := HB4.out.free 11
        have x4 : w4.cell? ⟨gr, 11, none⟩ = some (.slice A2 k c2) := HB4.out.cell 11 rfl
        have HB5 := Lib.hid (HB4.out.set 11 (.slice (some ⟨g4, 0, none⟩) (k + 1) c4))
        have HO5 := Lib.hid (ownsRow_setCell_other HO4.out (a := ⟨gr, 11, none⟩) (own_apart2' HO4.out HB4.out (by decide)) (.slice (some ⟨g4, 0, none⟩) (k + 1) c4))
        have HK5 := Lib.hid (HK4.out.set (p := ⟨gr, 11, none⟩) rfl (.slice (some ⟨g4, 0, none⟩) (k + 1) c4))
        go_simp
        (try go_wp2_with fail)
        refine hK.out _ _ trivial (fun _ => ?_)
        clear hK K
        try simp only [Act.put, List.getElem_toArray, List.getElem_cons_succ, List.getElem_cons_zero, List.setIfInBounds_toArray, List.set_cons_zero, List.set_cons_succ]
        refine RegionBut.but_done (by kernel_rfl) ?_ _
        clear hHeld
        go_wp2_with fail
        go_roundg g'
        case measure => omega
        case rel => exact ⟨up, k + 1, c4, some ⟨g4, 0, none⟩, pre ++ [ItemMath.attrOf t], by omega, HPL, HB5.out, by rw [List.map_append, List.map_singleton, HPR.out, aCells_app']; exact HO5.out, HAL, HK5.out⟩
    · have d8 : decide ((k : Int) < 8) = false := by simp; omega
      obtain rfl : k = 8 := by omega
      obtain rfl : gk = 0 := by omega
      have hal2 : al = pre := by rw [hal.out]; simp [readA]
      subst hal2
      go_wp2_with fail
      go_end0
      exact ⟨rfl, by unfold SpanRead; exact ⟨⟨i, 8, c2, A2, by rw [List.length_map]; exact hpl.out.symm, HB.out, HO.out⟩, hK⟩⟩

end Go.Proofs.Ytklgggolkclebaa
