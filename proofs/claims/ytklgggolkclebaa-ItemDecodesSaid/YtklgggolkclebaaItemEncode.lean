/-
  What item.Encode does, at every item. No condition.
-/
import Derived.Test.YtklgggolkclebaaItemLaySpan
import Derived.Test.YtklgggolkclebaaItemIsNo
namespace Go.Proofs.Ytklgggolkclebaa
open Go.RowKit Go.Proofs.NumMath Go.Proofs.ItemMath

theorem right_parts {s : Sp} (h : rightSpan s = true) : s.name.size ≤ 60 ∧ 0 ≤ s.start ∧ s.start ≤ 1099511627776 ∧ 0 ≤ s.stop ∧ s.stop ≤ 1099511627776 ∧ s.attrs.length ≤ 8 ∧ s.rv ≤ 72057594037927936 ∧ ∀ a ∈ s.attrs, 0 < a.1.size ∧ a.1.size ≤ 60 ∧ a.2.size ≤ 60 := by
  unfold rightSpan at h
  simp only [Bool.and_eq_true, decide_eq_true_eq] at h
  obtain ⟨⟨⟨⟨⟨⟨⟨h1, h2⟩, h3⟩, h4⟩, h5⟩, h6⟩, h7⟩, h8⟩ := h
  have hname : ∀ {t : ByteArray}, isName t = true → 0 < t.size ∧ t.size ≤ 60 := fun {t} ht => by
    unfold isName at ht
    simp only [Bool.and_eq_true, decide_eq_true_eq] at ht
    exact ht.1
  have hfrom : ∀ (l : List Attr) (a0 : ByteArray), rightFrom a0 l = true → ∀ a ∈ l, 0 < a.1.size ∧ a.1.size ≤ 60 ∧ a.2.size ≤ 60 := by
    intro l
    induction l with
    | nil => intro a0 _ a ha; simp at ha
    | cons b r ih =>
      intro a0 hr a ha
      unfold rightFrom at hr
      simp only [Bool.and_eq_true, decide_eq_true_eq] at hr
      rcases List.mem_cons.1 ha with rfl | ha
      · exact ⟨(hname hr.1.1.1).1, (hname hr.1.1.1).2, hr.1.2⟩
      · exact ih _ hr.2 a ha
  unfold rightAttrs at h7
  simp only [Bool.and_eq_true, decide_eq_true_eq] at h7
  exact ⟨(hname h3).2, h4, by omega, by omega, h6, h7.1, h8, hfrom _ _ h7.2⟩
theorem rightLog_parts {l : Lg} (h : rightLog l = true) : l.key.size ≤ 60 ∧ 1 ≤ l.weight ∧ l.weight ≤ 4294967296 ∧ 0 ≤ l.at_ ∧ l.at_ ≤ 1099511627776 ∧ l.body.size ≤ 200 := by
  unfold rightLog isName at h
  simp only [Bool.and_eq_true, decide_eq_true_eq] at h
  obtain ⟨⟨⟨⟨⟨h1, h2⟩, h3⟩, h4⟩, h5⟩, h6⟩ := h
  exact ⟨h1.1.2, h2, h3, h4, h5, h6⟩
theorem heap_last' (w : World) (o : Obj) : (w.alloc o).heap[w.heap.size]? = some o := by
  show (w.heap.push o)[w.heap.size]? = some o
  simp
theorem new_byte (w : World) (o : Obj) (x : Int) (c : UInt8) (hx : x = (c.toNat : Int)) : ((w.alloc o).alloc (.cells #[.int .u8 x] 5)).ownsRow w.heap.size 5 1 (.slice (some ⟨w.heap.size + 1, 0, none⟩) 1 1) [c].length ([c].map b8) := by
  refine ⟨rfl, .inr ⟨w.heap.size + 1, 1, #[.int .u8 x], rfl, by omega, ?_, by simp, by unfold maxLen; omega, rfl, ?_⟩⟩
  · have h := heap_last' (w.alloc o) (.cells #[.int .u8 x] 5)
    rw [World.size_alloc] at h
    exact h
  · subst hx; rfl

/-- What Encode has made when it begins to ask: the item's block, the first byte's, the writer's. -/
structure Begun (w X : World) (I : Array Value) (c : UInt8) : Prop where
  low : Below w.heap.size w X
  item : Blk X w.heap.size I 38
  writer : Blk X (w.heap.size + 1 + 1) #[.slice (some ⟨w.heap.size + 1, 0, none⟩) 1 1] 71
  own : X.ownsRow w.heap.size 5 1 (.slice (some ⟨w.heap.size + 1, 0, none⟩) 1 1) [c].length ([c].map b8)
theorem begun (w : World) (I : Array Value) (x : Int) (c : UInt8) (hx : x = (c.toNat : Int)) : Begun w (((w.alloc (.cells I 38)).alloc (.cells #[.int .u8 x] 5)).alloc (.cells #[.slice (some ⟨w.heap.size + 1, 0, none⟩) 1 1] 71)) I c := by
  refine ⟨(((Below.refl _ w).alloc (Nat.le_refl _) _).alloc (by simp) _).alloc (by simp; omega) _, ?_, ?_, (new_byte w _ x c hx).alloc _⟩
  · exact (blk_new w I _).same ((Below.heap_alloc _ _ _ (by simp; omega)).trans (Below.heap_alloc _ _ _ (by simp)))
  · have h := blk_new ((w.alloc (.cells I 38)).alloc (.cells #[.int .u8 x] 5)) #[.slice (some ⟨w.heap.size + 1, 0, none⟩) 1 1] 71
    rw [World.size_alloc, World.size_alloc] at h
    exact h
theorem Begun.later {w X Y : World} {I : Array Value} {c : UInt8} (h : Begun w X I c) (hb : Below X.heap.size X Y) : Begun w Y I c :=
  ⟨h.low.trans (hb.mono (by have := h.low.size; exact this)), h.item.same (hb.block _ h.item.lt), h.writer.same (hb.block _ h.writer.lt), own_later h.own hb⟩

set_option linter.unusedVariables false in
set_option linter.unusedSimpArgs false in
set_option maxRecDepth 100000 in
set_option maxHeartbeats 4000000 in
/-- **A right span alone.** -/
theorem encode_span (hi lo id par rv : Nat) (name : ByteArray) (start stop : Int) (bad : Bool) (A : Option Addr) (l : List Attr) (n cap : Nat) (w : World) (b1 : hi < 18446744073709551616) (b2 : lo < 18446744073709551616) (b3 : id < 18446744073709551616) (b4 : par < 18446744073709551616)
    (hn : l.length = n) (hr : HoldsA w.heap.size w A l) (hright : rightSpan ⟨hi, lo, id, par, name, start, stop, bad, l, rv⟩ = true) (z : List UInt8) (m : Nat) (hz : (1 : UInt8) :: encSpan ⟨hi, lo, id, par, name, start, stop, bad, l, rv⟩ = z) (hm : z.length = m) :
    Calls Try.prog 19 #[.agg #[.int .u8 1, .int .u64 (hi : Int), .int .u64 (lo : Int), .int .u64 (id : Int), .int .u64 (par : Int), .string name, .int .i64 start, .int .i64 stop, .bool bad, .slice A n cap, .int .u64 (rv : Int), .string ⟨#[]⟩, .int .u64 0, .int .i64 0, .string ⟨#[]⟩]] w fun e w' => ∃ A' c', e = .returned (.tuple #[.slice A' m c', .int .u16 0]) ∧ w'.ownsRow w.heap.size 5 1 (.slice A' m c') z.length (z.map b8) ∧ Below w.heap.size w w' := by
  obtain ⟨p1, p2, p3, p4, p5, p6, p7, p8⟩ := right_parts hright
  dsimp only at p1 p2 p3 p4 p5 p6 p7 p8
  obtain ⟨sa, rfl⟩ : ∃ sa : Nat, start = (sa : Int) := ⟨start.toNat, by omega⟩
  obtain ⟨so, rfl⟩ : ∃ so : Nat, stop = (so : Int) := ⟨stop.toNat, by omega⟩
  have hR := fun (W : World) (h : Below w.heap.size w W) => rightSpan_any hi lo id par rv name (sa : Int) (so : Int) bad A l n cap W true hn (by omega) (by omega) (hr.later h) hright
  have hL := fun (gw : Nat) (W : World) (cs : List UInt8) (v : Value) (h : Below w.heap.size w W) => laySpan_any w.heap.size gw hi lo id par rv name sa so bad A l n cap W cs v b1 b2 b3 b4 p1 (by omega) (by omega) (by omega) hn (by omega) (fun a ha => (p8 a ha).2) (hr.below h)
  unfold spCells at hR hL
  have HR := Lib.hid hR
  have HL := Lib.hid hL
  have HZ := Lib.hid hz
  have HM := Lib.hid hm
  clear hR hL hz hm hn hr hright p1 p2 p3 p4 p5 p6 p7 p8
  go_enter Try.func19, Try.ntmps19
  go_wp2_with fail
  generalize hX : ((w.alloc (.cells #[.int .u8 1, .int .u64 (hi : Int), .int .u64 (lo : Int), .int .u64 (id : Int), .int .u64 (par : Int), .string name, .int .i64 (sa : Int), .int .i64 (so : Int), .bool bad, .slice A n cap, .int .u64 (rv : Int), .string ⟨#[]⟩, .int .u64 0, .int .i64 0, .string ⟨#[]⟩] 38)).alloc (.cells #[.int .u8 1] 5)).alloc (.cells #[.slice (some ⟨w.heap.size + 1, 0, none⟩) 1 1] 71) = X
  have hG : Begun w X #[.int .u8 1, .int .u64 (hi : Int), .int .u64 (lo : Int), .int .u64 (id : Int), .int .u64 (par : Int), .string name, .int .i64 (sa : Int), .int .i64 (so : Int), .bool bad, .slice A n cap, .int .u64 (rv : Int), .string ⟨#[]⟩, .int .u64 0, .int .i64 0, .string ⟨#[]⟩] 1 := by rw [← hX]; exact begun w _ _ _ rfl
  have HG := Lib.hid hG
  clear hX hG
  refine (HR.out X HG.out.low).mono ?_
  rintro e w1 ⟨rfl, hb1⟩
  have HG1 := Lib.hid (HG.out.later hb1)
  have g0 : w1.cell? ⟨w.heap.size, 0, none⟩ = some (.int .u8 1) := HG1.out.item.cell 0 rfl
  have g1 : w1.cell? ⟨w.heap.size, 1, none⟩ = some (.int .u64 (hi : Int)) := HG1.out.item.cell 1 rfl
  have g2 : w1.cell? ⟨w.heap.size, 2, none⟩ = some (.int .u64 (lo : Int)) := HG1.out.item.cell 2 rfl
  have g3 : w1.cell? ⟨w.heap.size, 3, none⟩ = some (.int .u64 (id : Int)) := HG1.out.item.cell 3 rfl
  have g4 : w1.cell? ⟨w.heap.size, 4, none⟩ = some (.int .u64 (par : Int)) := HG1.out.item.cell 4 rfl
  have g5 : w1.cell? ⟨w.heap.size, 5, none⟩ = some (.string name) := HG1.out.item.cell 5 rfl
  have g6 : w1.cell? ⟨w.heap.size, 6, none⟩ = some (.int .i64 (sa : Int)) := HG1.out.item.cell 6 rfl
  have g7 : w1.cell? ⟨w.heap.size, 7, none⟩ = some (.int .i64 (so : Int)) := HG1.out.item.cell 7 rfl
  have g8 : w1.cell? ⟨w.heap.size, 8, none⟩ = some (.bool bad) := HG1.out.item.cell 8 rfl
  have g9 : w1.cell? ⟨w.heap.size, 9, none⟩ = some (.slice A n cap) := HG1.out.item.cell 9 rfl
  have g10 : w1.cell? ⟨w.heap.size, 10, none⟩ = some (.int .u64 (rv : Int)) := HG1.out.item.cell 10 rfl
  have g11 : w1.cell? ⟨w.heap.size, 11, none⟩ = some (.string ⟨#[]⟩) := HG1.out.item.cell 11 rfl
  have g12 : w1.cell? ⟨w.heap.size, 12, none⟩ = some (.int .u64 0) := HG1.out.item.cell 12 rfl
  have g13 : w1.cell? ⟨w.heap.size, 13, none⟩ = some (.int .i64 0) := HG1.out.item.cell 13 rfl
  have g14 : w1.cell? ⟨w.heap.size, 14, none⟩ = some (.string ⟨#[]⟩) := HG1.out.item.cell 14 rfl
  go_wp2_with fail
  refine (HL.out (w.heap.size + 1 + 1) w1 [1] _ HG1.out.low (by simp) (by simp) HG1.out.writer HG1.out.own (by omega)).mono ?_
  rintro e w2 ⟨rfl, v', hblk, hown, hlow⟩
  have hzz : [1] ++ encSpan ⟨hi, lo, id, par, name, (sa : Int), (so : Int), bad, l, rv⟩ = z := HZ.out
  rw [hzz] at hown
  obtain ⟨A', c', hv', hc1, hc2, hc3⟩ := holds_of_own hown
  rw [HM.out] at hv'
  subst hv'
  have hx := hblk.cell 0 rfl
  have HO := Lib.hid hown
  have hlow2 := HG1.out.low.trans hlow
  clear hzz hown hc1 hc2 hc3 hlow hblk
  go_wp2_with fail
  go_ret2
  exact ⟨A', c', rfl, HO.out, hlow2⟩

set_option linter.unusedVariables false in
set_option linter.unusedSimpArgs false in
set_option maxRecDepth 100000 in
set_option maxHeartbeats 4000000 in
/-- **A right log alone.** -/
theorem encode_log (key body : ByteArray) (weight : Nat) (at_ : Int) (w : World) (hright : rightLog ⟨key, weight, at_, body⟩ = true) (z : List UInt8) (m : Nat) (hz : (2 : UInt8) :: encLog ⟨key, weight, at_, body⟩ = z) (hm : z.length = m) :
    Calls Try.prog 19 #[.agg #[.int .u8 2, .int .u64 0, .int .u64 0, .int .u64 0, .int .u64 0, .string ⟨#[]⟩, .int .i64 0, .int .i64 0, .bool false, .slice none 0 0, .int .u64 0, .string key, .int .u64 (weight : Int), .int .i64 at_, .string body]] w fun e w' => ∃ A' c', e = .returned (.tuple #[.slice A' m c', .int .u16 0]) ∧ w'.ownsRow w.heap.size 5 1 (.slice A' m c') z.length (z.map b8) ∧ Below w.heap.size w w' := by
  obtain ⟨p1, p2, p3, p4, p5, p6⟩ := rightLog_parts hright
  dsimp only at p1 p2 p3 p4 p5 p6
  obtain ⟨a, rfl⟩ : ∃ a : Nat, at_ = (a : Int) := ⟨at_.toNat, by omega⟩
  have hR := fun (W : World) => rightLog_any key body weight (a : Int) W true (by omega) (by omega) hright
  have hI := fun (W : World) => isNoSpan_any 0 0 0 0 0 ⟨#[]⟩ 0 0 false none [] 0 0 W true rfl rfl
  have hL := fun (gw : Nat) (W : World) (cs : List UInt8) (v : Value) => layLog_any w.heap.size gw (w.heap.size + 1) key body weight a W cs v p1 p6 (by omega) (by omega)
  unfold lgCells at hR hL
  unfold spCells at hI
  have HR := Lib.hid hR
  have HI := Lib.hid hI
  have HL := Lib.hid hL
  have HZ := Lib.hid hz
  have HM := Lib.hid hm
  clear hR hI hL hz hm hright p1 p2 p3 p4 p5 p6
  go_enter Try.func19, Try.ntmps19
  go_wp2_with fail
  generalize hX : ((w.alloc (.cells #[.int .u8 2, .int .u64 0, .int .u64 0, .int .u64 0, .int .u64 0, .string ⟨#[]⟩, .int .i64 0, .int .i64 0, .bool false, .slice none 0 0, .int .u64 0, .string key, .int .u64 (weight : Int), .int .i64 (a : Int), .string body] 38)).alloc (.cells #[.int .u8 2] 5)).alloc (.cells #[.slice (some ⟨w.heap.size + 1, 0, none⟩) 1 1] 71) = X
  have hG : Begun w X #[.int .u8 2, .int .u64 0, .int .u64 0, .int .u64 0, .int .u64 0, .string ⟨#[]⟩, .int .i64 0, .int .i64 0, .bool false, .slice none 0 0, .int .u64 0, .string key, .int .u64 (weight : Int), .int .i64 (a : Int), .string body] 2 := by rw [← hX]; exact begun w _ _ _ rfl
  have HG := Lib.hid hG
  clear hX hG
  refine (HR.out X).mono ?_
  rintro e w1 ⟨rfl, hb1⟩
  have HG1 := Lib.hid (HG.out.later hb1)
  have g0 : w1.cell? ⟨w.heap.size, 0, none⟩ = some (.int .u8 2) := HG1.out.item.cell 0 rfl
  have g1 : w1.cell? ⟨w.heap.size, 1, none⟩ = some (.int .u64 0) := HG1.out.item.cell 1 rfl
  have g2 : w1.cell? ⟨w.heap.size, 2, none⟩ = some (.int .u64 0) := HG1.out.item.cell 2 rfl
  have g3 : w1.cell? ⟨w.heap.size, 3, none⟩ = some (.int .u64 0) := HG1.out.item.cell 3 rfl
  have g4 : w1.cell? ⟨w.heap.size, 4, none⟩ = some (.int .u64 0) := HG1.out.item.cell 4 rfl
  have g5 : w1.cell? ⟨w.heap.size, 5, none⟩ = some (.string ⟨#[]⟩) := HG1.out.item.cell 5 rfl
  have g6 : w1.cell? ⟨w.heap.size, 6, none⟩ = some (.int .i64 0) := HG1.out.item.cell 6 rfl
  have g7 : w1.cell? ⟨w.heap.size, 7, none⟩ = some (.int .i64 0) := HG1.out.item.cell 7 rfl
  have g8 : w1.cell? ⟨w.heap.size, 8, none⟩ = some (.bool false) := HG1.out.item.cell 8 rfl
  have g9 : w1.cell? ⟨w.heap.size, 9, none⟩ = some (.slice none 0 0) := HG1.out.item.cell 9 rfl
  have g10 : w1.cell? ⟨w.heap.size, 10, none⟩ = some (.int .u64 0) := HG1.out.item.cell 10 rfl
  have g11 : w1.cell? ⟨w.heap.size, 11, none⟩ = some (.string key) := HG1.out.item.cell 11 rfl
  have g12 : w1.cell? ⟨w.heap.size, 12, none⟩ = some (.int .u64 (weight : Int)) := HG1.out.item.cell 12 rfl
  have g13 : w1.cell? ⟨w.heap.size, 13, none⟩ = some (.int .i64 (a : Int)) := HG1.out.item.cell 13 rfl
  have g14 : w1.cell? ⟨w.heap.size, 14, none⟩ = some (.string body) := HG1.out.item.cell 14 rfl
  go_wp2_with fail
  refine (HI.out w1).mono ?_
  rintro e w2 ⟨rfl, hb2⟩
  have HG2 := Lib.hid (HG1.out.later hb2)
  clear g0 g1 g2 g3 g4 g5 g6 g7 g8 g9 g10 g11 g12 g13 g14
  have g0 : w2.cell? ⟨w.heap.size, 0, none⟩ = some (.int .u8 2) := HG2.out.item.cell 0 rfl
  have g1 : w2.cell? ⟨w.heap.size, 1, none⟩ = some (.int .u64 0) := HG2.out.item.cell 1 rfl
  have g2 : w2.cell? ⟨w.heap.size, 2, none⟩ = some (.int .u64 0) := HG2.out.item.cell 2 rfl
  have g3 : w2.cell? ⟨w.heap.size, 3, none⟩ = some (.int .u64 0) := HG2.out.item.cell 3 rfl
  have g4 : w2.cell? ⟨w.heap.size, 4, none⟩ = some (.int .u64 0) := HG2.out.item.cell 4 rfl
  have g5 : w2.cell? ⟨w.heap.size, 5, none⟩ = some (.string ⟨#[]⟩) := HG2.out.item.cell 5 rfl
  have g6 : w2.cell? ⟨w.heap.size, 6, none⟩ = some (.int .i64 0) := HG2.out.item.cell 6 rfl
  have g7 : w2.cell? ⟨w.heap.size, 7, none⟩ = some (.int .i64 0) := HG2.out.item.cell 7 rfl
  have g8 : w2.cell? ⟨w.heap.size, 8, none⟩ = some (.bool false) := HG2.out.item.cell 8 rfl
  have g9 : w2.cell? ⟨w.heap.size, 9, none⟩ = some (.slice none 0 0) := HG2.out.item.cell 9 rfl
  have g10 : w2.cell? ⟨w.heap.size, 10, none⟩ = some (.int .u64 0) := HG2.out.item.cell 10 rfl
  have g11 : w2.cell? ⟨w.heap.size, 11, none⟩ = some (.string key) := HG2.out.item.cell 11 rfl
  have g12 : w2.cell? ⟨w.heap.size, 12, none⟩ = some (.int .u64 (weight : Int)) := HG2.out.item.cell 12 rfl
  have g13 : w2.cell? ⟨w.heap.size, 13, none⟩ = some (.int .i64 (a : Int)) := HG2.out.item.cell 13 rfl
  have g14 : w2.cell? ⟨w.heap.size, 14, none⟩ = some (.string body) := HG2.out.item.cell 14 rfl
  go_wp2_with fail
  refine (HL.out (w.heap.size + 1 + 1) w2 [2] _ (by simp) HG2.out.writer HG2.out.own (fun k hk => by simpa [Value.ownBlock] using hk.symm) (by omega) (by have := HG2.out.writer.lt; omega)).mono ?_
  rintro e w3 ⟨rfl, v', hblk, hown, hlow⟩
  have hzz : [2] ++ encLog ⟨key, weight, (a : Int), body⟩ = z := HZ.out
  rw [hzz] at hown
  obtain ⟨A', c', hv', hc1, hc2, hc3⟩ := holds_of_own hown
  rw [HM.out] at hv'
  subst hv'
  have hx := hblk.cell 0 rfl
  have HO := Lib.hid hown
  have hlow2 := HG2.out.low.trans hlow
  clear hzz hown hc1 hc2 hc3 hlow hblk
  go_wp2_with fail
  go_ret2
  exact ⟨A', c', rfl, HO.out, hlow2⟩

end Go.Proofs.Ytklgggolkclebaa
