/-
  What telemeterlaw12.Spans does, at every choice: spans in memory of its own.
-/
import Derived.Test.YtmjbdjcpjaeemaaDoorPoRules
import Derived.Test.YtmjbdjcpjaeemaaDoorPoSpan
import Derived.Test.YtmjbdjcpjaeemaaDoorRows1
namespace Go.Proofs.YtmjbdjcpjaeemaaDoor
open Go.RowKit

theorem info_span : (Tryd.prog.info? 36).map (fun i => (i.zero, i.size, i.bytes)) = some (some (.agg zeros26), 10, 104) := by kernel_rfl
/-- A span, and where its attributes lie. -/
abbrev Sz := Sp × Option Addr × Nat
def szCells (zs : List Sz) : List Value := zs.flatMap fun z => (spCells z.1.hi z.1.lo z.1.id z.1.par z.1.name z.1.start z.1.stop z.1.bad z.2.1 z.1.attrs.length z.2.2 z.1.rv).toList
theorem szCells_append (a b : List Sz) : szCells (a ++ b) = szCells a ++ szCells b := by simp [szCells]
theorem szCells_len (l : List Sz) : (szCells l).length = l.length * 10 := by
  induction l with
  | nil => rfl
  | cons r l ih => simp only [szCells, List.flatMap_cons, List.length_append, List.length_cons] at *; rw [ih]; simp [spCells]; omega
theorem szCells_one (l : List Sz) : ∀ u ∈ szCells l, u.oneCell' = true := fun u hu => by
  obtain ⟨r, _, h⟩ := List.mem_flatMap.1 hu
  simp [spCells] at h
  rcases h with rfl | rfl | rfl | rfl | rfl | rfl | rfl | rfl | rfl | rfl <;> rfl
def sz0 : Sz := (sp0, none, 0)
theorem szCells_at {l : List Sz} : ∀ {i : Nat}, i < l.length → ∀ k, k < 10 → (szCells l)[i * 10 + k]? = (szCells [l.getD i sz0])[k]? := by
  induction l with
  | nil => intro i h; simp at h
  | cons r l ih =>
    intro i h k hk
    have e : szCells (r :: l) = szCells [r] ++ szCells l := by rw [← szCells_append]; rfl
    have el : (szCells [r]).length = 10 := by rw [szCells_len]; rfl
    cases i with
    | zero =>
      rw [e, Nat.zero_mul, Nat.zero_add, List.getElem?_append_left (by omega)]
      rfl
    | succ i =>
      have := ih (i := i) (by simpa using h) k hk
      rw [e, List.getElem?_append_right (by omega), el, show (i + 1) * 10 + k - 10 = i * 10 + k by omega, this]
      rfl
/-- Attributes that are own memory lie there to be read. -/
theorem aCells_at {l : List Attr} : ∀ {i : Nat}, i < l.length → (aCells l)[i * 2]? = some (.string (l.getD i (none8, none8)).1) ∧ (aCells l)[i * 2 + 1]? = some (.string (l.getD i (none8, none8)).2) := by
  induction l with
  | nil => intro i h; simp at h
  | cons r l ih =>
    intro i h
    cases i with
    | zero => exact ⟨rfl, rfl⟩
    | succ i =>
      have := ih (i := i) (by simpa using h)
      have e : aCells (r :: l) = .string r.1 :: .string r.2 :: aCells l := rfl
      rw [e, show (i + 1) * 2 = i * 2 + 1 + 1 by omega]
      simpa [List.getD] using this
theorem holds_attrs {W : World} {base : Nat} {A : Option Addr} {n cap : Nat} {l : List Attr} (hl : l.length = n) (h : W.ownsRow base 65 2 (.slice A n cap) n (aCells l)) : HoldsA W.heap.size W A l := fun h0 => by
  obtain ⟨g, c, e, _, hg⟩ := h.form (by omega)
  injection e with e1 _ e2
  subst e1 e2
  refine ⟨g, 0, rfl, hg, fun j hj => ?_⟩
  obtain ⟨r0, r1⟩ := aCells_at hj
  rw [Nat.zero_add, h.cellAt _ (by omega), h.cellAt _ (by omega)]
  exact ⟨r0, r1⟩
/-- Spans in a row that is the call's own; their attributes are own memory, too. -/
structure SoW (W : World) (base : Nat) (v : Value) (zs : List Sz) : Prop where
  out : W.ownsRow base 36 10 v zs.length (szCells zs)
  at_ : ∀ z ∈ zs, W.ownsRow base 65 2 (.slice z.2.1 z.1.attrs.length z.2.2) z.1.attrs.length (aCells z.1.attrs)
theorem SoW.nil (W : World) (base : Nat) : SoW W base (.slice none 0 0) [] := ⟨World.ownsRow_nil _ _ _ _, fun z h => by simp at h⟩
theorem own_later' {W W' : World} {base T s n : Nat} {v : Value} {xs : List Value} (h : W.ownsRow base T s v n xs) (hb : Below W.heap.size W W') : W'.ownsRow base T s v n xs := by
  have hg : W.grownBy W' none := ⟨hb.os, hb.tape, hb.output, hb.size, fun i hi _ => hb.block i hi⟩
  exact h.kept hg (by cases v.ownBlock <;> simp)
theorem own_lower' {W : World} {base base' T s n : Nat} {v : Value} {xs : List Value} (h : W.ownsRow base T s v n xs) (hb : base' ≤ base) : W.ownsRow base' T s v n xs := by
  rcases h.2 with h' | ⟨g, cap, cur, e1, e2, e3⟩
  · exact ⟨h.1, .inl h'⟩
  · exact ⟨h.1, .inr ⟨g, cap, cur, e1, by omega, e3⟩⟩
theorem SoW.later {W W' : World} {base : Nat} {v : Value} {zs : List Sz} (h : SoW W base v zs) (hb : Below W.heap.size W W') : SoW W' base v zs := ⟨own_later' h.out hb, fun z hz => own_later' (h.at_ z hz) hb⟩
theorem SoW.grown {W W' : World} {base : Nat} {v v' : Value} {zs more : List Sz} (h : SoW W base v zs) (hm : ∀ z ∈ more, W.ownsRow base 65 2 (.slice z.2.1 z.1.attrs.length z.2.2) z.1.attrs.length (aCells z.1.attrs)) (hgr : W.grownBy W' v.ownBlock) (hout : W'.ownsRow base 36 10 v' (zs.length + more.length) (szCells zs ++ szCells more)) : SoW W' base v' (zs ++ more) := by
  have hT : (36 : TypeId) ≠ 65 := by decide
  refine ⟨by rw [List.length_append, szCells_append]; exact hout, fun z hz => ?_⟩
  rcases List.mem_append.1 hz with hz | hz
  · exact (h.at_ z hz).kept hgr (type_apart hT h.out (h.at_ z hz))
  · exact (hm z hz).kept hgr (type_apart hT h.out (hm z hz))
theorem SoW.holds {W : World} {base n cap : Nat} {A : Option Addr} {zs : List Sz} (h : SoW W base (.slice A n cap) zs) (hn : zs.length = n) : HoldsS W.heap.size W A (zs.map fun z => z.1) := fun h0 => by
  rw [List.length_map] at h0
  have ho := h.out
  rw [hn] at ho
  obtain ⟨g, c, e, _, hg⟩ := ho.form (by omega)
  injection e with e1 _ e2
  subst e1 e2
  refine ⟨g, 0, rfl, hg, fun j hj => ?_⟩
  rw [List.length_map] at hj
  have e2 : (zs.map fun z => z.1).getD j sp0 = (zs.getD j sz0).1 := by simp [List.getD, hj]
  have hmem : zs.getD j sz0 ∈ zs := by rw [getD_get hj sz0]; exact List.getElem_mem hj
  rw [e2, Nat.zero_add]
  have hc : ∀ k, k < 10 → W.cell? ⟨g, j * 10 + k, none⟩ = (szCells [zs.getD j sz0])[k]? := fun k hk => by rw [ho.cellAt _ (by omega), szCells_at hj k hk]
  exact ⟨(zs.getD j sz0).2.1, (zs.getD j sz0).2.2, hc 0 (by omega), hc 1 (by omega), hc 2 (by omega), hc 3 (by omega), hc 4 (by omega), hc 5 (by omega), hc 6 (by omega), hc 7 (by omega), hc 8 (by omega), hc 9 (by omega), holds_attrs rfl (h.at_ _ hmem)⟩
theorem spanOf_attrs (cs : List UInt8) : (spanOf cs).attrs.length ≤ 2 := by
  unfold spanOf attrsOf
  dsimp only
  split
  · simp
  · split <;> simp
/-- The spans that choices make. -/
def spansOf (m : List (List UInt8)) : List Sp := (m.take 8).map spanOf

set_option linter.unusedSimpArgs false in
set_option linter.unusedVariables false in
set_option maxRecDepth 100000 in
set_option maxHeartbeats 4000000 in
theorem spans_any (A0 : Option Addr) (m : List (List UInt8)) (len cap0 : Nat) (w : World) (hlen : m.length = len) (hl2 : len ≤ 9223372036854775807) (hr : HoldsRows w.heap.size w A0 m) :
    Calls Tryd.prog 11 #[.slice A0 len cap0] w fun e w' => ∃ A n cap zs, e = .returned (.slice A n cap) ∧ n ≤ 8 ∧ Hid (zs.length = n ∧ zs.map (fun z => z.1) = spansOf m ∧ SoW w' w.heap.size (.slice A n cap) zs ∧ Below w.heap.size w w') := by
  obtain ⟨n0, hn0⟩ : ∃ n0, w.heap.size = n0 := ⟨_, rfl⟩
  rw [hn0] at hr ⊢
  have HR := Lib.hid hr
  have HL := Lib.hid hlen
  have HN0 := Lib.hid hn0
  obtain ⟨i1, ha0, ha1, ha2, ha3⟩ := info_parts info_span
  have HST : Hid (∃ zs : List Sz, zs.length = 0 ∧ zs.map (fun z => z.1) = (m.take 0).map spanOf ∧ SoW w n0 (.slice none 0 0) zs ∧ Below n0 w w) := Lib.hid ⟨[], rfl, rfl, SoW.nil _ _, Below.refl _ _⟩
  clear hr hlen hn0
  go_enter Tryd.func11, Tryd.ntmps11
  go_wp2_with fail
  go_loopw [3, 4] (fun ov iv wr => ∃ (A : Option Addr) (n cap : Nat), ov = .slice A n cap ∧ iv = .int .i64 (n : Int) ∧ n ≤ 8 ∧ n ≤ len ∧ Hid (∃ zs : List Sz, zs.length = n ∧ zs.map (fun z => z.1) = (m.take n).map spanOf ∧ SoW wr n0 (.slice A n cap) zs ∧ Below n0 w wr)) (fun _ iv _ => 8 - (intOf iv).toNat)
  case atStart => exact ⟨none, 0, 0, rfl, rfl, by omega, by omega, HST⟩
  case round =>
    obtain ⟨A, n, cap, rfl, rfl, hn8, hnl, HZ⟩ := hrel
    clear HST
    by_cases hend : n < len ∧ n < 8
    · obtain ⟨hlt1, hlt2⟩ := hend
      have t1 : decide ((n : Int) < (len : Int)) = true := by simp; omega
      have t1n : decide (n < len) = true := by simp; omega
      have t2 : decide ((n : Int) < 8) = true := by simp; omega
      have t2n : decide (n < 8) = true := by simp; omega
      obtain ⟨b, off, rfl, hb, hc⟩ := HR.out (by rw [HL.out]; omega)
      obtain ⟨Aj, cj, h0, hA, _, _, _⟩ := hc n (by rw [HL.out]; omega)
      obtain ⟨cs, hcs⟩ : ∃ cs, m.getD n [] = cs := ⟨_, rfl⟩
      rw [hcs] at h0 hA
      obtain ⟨lj, hlj⟩ : ∃ x, cs.length = x := ⟨_, rfl⟩
      rw [hlj] at h0
      obtain ⟨zs, hz1, hz2, hz3, hz4⟩ := HZ.out
      have h0' := (hz4.cell (p := ⟨b, off + n, none⟩) hb).trans h0
      have hsz : n0 ≤ wr.heap.size := by have h1 := hz4.size; have h2 := HN0.out; omega
      have hSp := span_any Aj cs lj cj wr hlj ((hA.below hz4).mono hsz)
      obtain ⟨nr, hnr⟩ : ∃ x, wr.heap.size = x := ⟨_, rfl⟩
      rw [hnr] at hSp hsz
      obtain ⟨⟨y0, y1, y2, y3, y4, y5, y6, y7, y8, y9⟩, hy⟩ : ∃ s, spanOf cs = s := ⟨_, rfl⟩
      have ha8 : y8.length ≤ 2 := by have := spanOf_attrs cs; rw [hy] at this; exact this
      rw [hy] at hSp
      dsimp only at hSp
      unfold spCells at hSp
      have HSP := Lib.hid hSp
      have HNX : Hid ((m.take (n + 1)).map spanOf = (m.take n).map spanOf ++ [⟨y0, y1, y2, y3, y4, y5, y6, y7, y8, y9⟩]) := Lib.hid (by
        rw [← hy, ← hcs, List.take_add_one, List.getElem?_eq_getElem (by rw [HL.out]; exact hlt1), List.map_append, getD_get (by rw [HL.out]; exact hlt1)]
        rfl)
      have HZ1 := Lib.hid hz1
      have HZ2 := Lib.hid hz2
      have HZ3 := Lib.hid hz3
      have HZ4 := Lib.hid hz4
      clear hc h0 hA hcs hlj hz1 hz2 hz3 hz4 hSp hy
      go_wp2_with fail
      refine HSP.out.mono ?_
      rintro e w2 ⟨A', na, c', rfl, hna, hown, hb2⟩
      obtain ⟨n2, hn2⟩ : ∃ x, w2.heap.size = x := ⟨_, rfl⟩
      have hn2s : nr ≤ n2 := by have := hb2.size; omega
      have hso := (HZ3.out.later (hnr ▸ hb2)).later (box_below (.cells #[.int .u64 (y0 : Int), .int .u64 (y1 : Int), .int .u64 (y2 : Int), .int .u64 (y3 : Int), .string y4, .int .i64 y5, .int .i64 y6, .bool y7, .slice A' na c', .int .u64 (y9 : Int)] 36))
      have hout := hso.out
      rw [HZ1.out] at hout
      have HOUT := Lib.hid hout
      have HSO := Lib.hid hso
      have HAT : Hid ((w2.alloc (.cells #[.int .u64 (y0 : Int), .int .u64 (y1 : Int), .int .u64 (y2 : Int), .int .u64 (y3 : Int), .string y4, .int .i64 y5, .int .i64 y6, .bool y7, .slice A' na c', .int .u64 (y9 : Int)] 36)).ownsRow n0 65 2 (.slice A' y8.length c') y8.length (aCells y8)) := Lib.hid (by rw [← hna]; exact own_lower' (hown.alloc _) hsz)
      have HNEWS := Lib.hid (one_at w2 n2 hn2 #[.int .u64 (y0 : Int), .int .u64 (y1 : Int), .int .u64 (y2 : Int), .int .u64 (y3 : Int), .string y4, .int .i64 y5, .int .i64 y6, .bool y7, .slice A' na c', .int .u64 (y9 : Int)] 36)
      have HSZ : Hid ((w2.alloc (.cells #[.int .u64 (y0 : Int), .int .u64 (y1 : Int), .int .u64 (y2 : Int), .int .u64 (y3 : Int), .string y4, .int .i64 y5, .int .i64 y6, .bool y7, .slice A' na c', .int .u64 (y9 : Int)] 36)).heap.size = n2 + 1) := Lib.hid (by rw [World.size_alloc, hn2])
      have HBASE : Hid (n0 ≤ n2 + 1) := Lib.hid (by omega)
      have HB2 : Hid (Below n0 w (w2.alloc (.cells #[.int .u64 (y0 : Int), .int .u64 (y1 : Int), .int .u64 (y2 : Int), .int .u64 (y3 : Int), .string y4, .int .i64 y5, .int .i64 y6, .bool y7, .slice A' na c', .int .u64 (y9 : Int)] 36))) := Lib.hid ((HZ4.out.trans (hb2.mono hsz)).alloc (by omega) _)
      have HNA := Lib.hid hna
      clear hso hout hown hb2 hn2s hsz hna h0'
      go_wp2_with (at_builtin; refine wpList_append_lies _ rfl (.tmp 15) (.tmp 21) 28 rfl n0 36 i1 (.agg zeros26) 10 104 Tryd.underlying28 ha0 ha1 ha2 ha3 rfl (by decide) (.slice A n cap) n (szCells zs) rfl HOUT.out ⟨n2, 0, none⟩ 1 1 [.int .u64 (y0 : Int), .int .u64 (y1 : Int), .int .u64 (y2 : Int), .int .u64 (y3 : Int), .string y4, .int .i64 y5, .int .i64 y6, .bool y7, .slice A' na c', .int .u64 (y9 : Int)] rfl rfl HNEWS.out (by simp [Value.oneCell']) (by decide) (by unfold maxLen; omega) (by omega) (by rw [HSZ.out]; exact HBASE.out) (n2 + 1) HSZ.out ?_; intro g2 c2 w3 hown3 hgr3 hor3 hlt3; have hso3 := HSO.out.grown (more := [(⟨y0, y1, y2, y3, y4, y5, y6, y7, y8, y9⟩, A', c')]) (fun q hq => by rw [List.mem_singleton.1 hq]; exact HAT.out) hgr3 (by rw [HZ1.out]; simpa [szCells, spCells, HNA.out] using hown3); have HSO3 := Lib.hid hso3; have HB3 := Lib.hid (HB2.out.grown hgr3 (by rw [HSZ.out]; exact HBASE.out) (fun q hq => (HOUT.out.lt q hq).1)); clear hown3 hgr3 hor3 hlt3 hso3)
      go_roundw
      case rel => exact ⟨some ⟨g2, 0, none⟩, n + 1, c2, rfl, by simp, by omega, by omega, Lib.hid ⟨zs ++ [(⟨y0, y1, y2, y3, y4, y5, y6, y7, y8, y9⟩, A', c')], by simp [HZ1.out], by rw [HNX.out, List.map_append, HZ2.out]; rfl, HSO3.out, HB3.out⟩⟩
      case measure => simp [intOf]; omega
    · obtain ⟨zs, hz1, hz2, hz3, hz4⟩ := HZ.out
      have hfin : spansOf m = (m.take n).map spanOf := by
        unfold spansOf
        rcases (by omega : n = 8 ∨ (n = len ∧ n < 8)) with h | ⟨h, h2⟩
        · rw [h]
        · rw [List.take_of_length_le (by rw [HL.out]; omega), List.take_of_length_le (by rw [HL.out]; omega)]
      have HF : Hid (∃ zs : List Sz, zs.length = n ∧ zs.map (fun z => z.1) = spansOf m ∧ SoW wr n0 (.slice A n cap) zs ∧ Below n0 w wr) := Lib.hid ⟨zs, hz1, by rw [hfin]; exact hz2, hz3, hz4⟩
      clear hz1 hz2 hz3 hz4 hfin
      by_cases h1 : n < len
      · have t1 : decide ((n : Int) < (len : Int)) = true := by simp; omega
        have t1n : decide (n < len) = true := by simp; omega
        have t2 : decide ((n : Int) < 8) = false := by simp; omega
        have t2n : decide (n < 8) = false := by simp; omega
        clear h1 hend
        go_wp2_with fail
        go_ret
        obtain ⟨zs, h⟩ := HF.out
        exact ⟨A, n, cap, zs, rfl, hn8, Lib.hid h⟩
      · have t1 : decide ((n : Int) < (len : Int)) = false := by simp; omega
        have t1n : decide (n < len) = false := by simp; omega
        clear h1 hend
        go_wp2_with fail
        go_ret
        obtain ⟨zs, h⟩ := HF.out
        exact ⟨A, n, cap, zs, rfl, hn8, Lib.hid h⟩
end Go.Proofs.YtmjbdjcpjaeemaaDoor
