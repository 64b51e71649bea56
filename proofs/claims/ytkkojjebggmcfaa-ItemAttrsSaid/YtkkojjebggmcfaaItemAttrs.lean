/-
  Proved: ItemAttrs returns true for all bytes: attributes stand by rising keys, each once, eight at most. No condition.
-/
import Derived.Test.YtkkojjebggmcfaaAgain
import Derived.Test.YtkkojjebggmcfaaItemOf
import Derived.Test.YtkkojjebggmcfaaItemKnown
import Derived.Test.YtkkojjebggmcfaaAgain
import Derived.Laws.OwnMore
namespace Go.Proofs.Ytkkojjebggmcfaa
open Go.ChangeShapes Go.WideShapes Go.ChangeAt Go.RowKit Go.Proofs.NumMath Go.Proofs.ItemMath

def ltr (i : Nat) : ByteArray := ⟨#[UInt8.ofNat (97 + i)]⟩
def lk (k : Nat) : List Attr := (List.range k).map fun i => (ltr i, none8)
theorem lk_len (k : Nat) : (lk k).length = k := by simp [lk]
theorem lk_succ (k : Nat) : lk (k + 1) = lk k ++ [(ltr k, none8)] := by simp [lk, List.range_succ]
theorem aCells_app (l : List Attr) (a : Attr) : aCells (l ++ [a]) = aCells l ++ [.string a.1, .string a.2] := by simp [aCells]
theorem lk_right : ∀ m : Fin 12, rightAttrs (lk m.val) = decide (m.val ≤ 8) := by decide +kernel
theorem lk_bent : ∀ m i : Fin 12, 1 ≤ i.val → i.val < m.val → rightAttrs ((lk m.val).set i.val (ltr (i.val - 1), none8)) = false := by decide +kernel
theorem right_attrs {hi lo id par rv : Nat} {name : ByteArray} {start stop : Int} {bad : Bool} {l l' : List Attr} (h : rightSpan ⟨hi, lo, id, par, name, start, stop, bad, l, rv⟩ = true) : rightSpan ⟨hi, lo, id, par, name, start, stop, bad, l', rv⟩ = rightAttrs l' := by
  unfold rightSpan at h ⊢
  simp only [Bool.and_eq_true, decide_eq_true_eq] at h
  obtain ⟨⟨⟨⟨⟨⟨⟨h1, h2⟩, h3⟩, h4⟩, h5⟩, h6⟩, h7⟩, h8⟩ := h
  dsimp only
  rw [decide_eq_true h1, decide_eq_true h2, h3, decide_eq_true h4, decide_eq_true h5, decide_eq_true h6, decide_eq_true h8]
  simp
theorem own_apart2 {W : World} {B n g : Nat} {v : Value} {xs : List Value} {C : Array Value} {e T : TypeId} (ho : W.ownsRow B e 2 v n xs) (hb : Blk W g C T) (hT : e ≠ T) : v.ownBlock ≠ some g := fun h => by
  rcases ho.2 with ⟨rfl, _⟩ | ⟨k, cap, cur, rfl, _, hk, _⟩
  · simp [Value.ownBlock] at h
  · obtain rfl : k = g := by simpa [Value.ownBlock] using h
    unfold Blk at hb
    rw [hk] at hb
    injection hb with hb
    injection hb with _ h2 _
    exact hT h2

theorem own_later2 {base : Nat} {w w' : World} {e : TypeId} {v : Value} {n : Nat} {xs : List Value} (ho : w.ownsRow base e 2 v n xs) (hb : Below w.heap.size w w') : w'.ownsRow base e 2 v n xs := by
  refine ho.kept (row := none) ⟨hb.os, hb.tape, hb.output, hb.size, fun i hi _ => hb.block i hi⟩ ?_
  cases v.ownBlock <;> simp
theorem one_byte (W : World) (k : Nat) (hk : k < 100) : (convert 22 9 (.slice (some ⟨W.heap.size, 0, none⟩) 1 1)).run Try.prog (W.alloc (.cells #[.int .u8 (97 + (k : Int))] 5)) = .ok (.string (ltr k)) (W.alloc (.cells #[.int .u8 (97 + (k : Int))] 5)) := by
  have e : Value.int .u8 (97 + (k : Int)) = b8 (UInt8.ofNat (97 + k)) := by simp [b8]; omega
  refine text_run (some ⟨W.heap.size, 0, none⟩) [UInt8.ofNat (97 + k)] 1 1 _ (W.heap.size + 1) rfl (fun _ => ⟨W.heap.size, 0, rfl, by omega, fun j hj => ?_⟩)
  obtain rfl : j = 0 := by simpa using hj
  rw [e]
  exact World.cell?_alloc_mark _ _ _ _ _
theorem aCells_set : ∀ (l : List Attr) (j : Nat) (s : ByteArray), j < l.length → (∀ a ∈ l, a.2 = none8) → (aCells l).set (j * 2) (.string s) = aCells (l.set j (s, none8))
  | [], j, _, h, _ => by simp at h
  | a :: r, 0, s, _, ha => by
    have h2 := ha a (by simp)
    have e : aCells (a :: r) = .string a.1 :: .string a.2 :: aCells r := rfl
    rw [e, h2]; rfl
  | a :: r, j + 1, s, h, ha => by
    have ih := aCells_set r j s (by simpa using h) (fun b hb => ha b (by simp [hb]))
    have e : aCells (a :: r) = .string a.1 :: .string a.2 :: aCells r := rfl
    have e2 : aCells ((a :: r).set (j + 1) (s, none8)) = .string a.1 :: .string a.2 :: aCells (r.set j (s, none8)) := rfl
    rw [e, e2, ← ih, show (j + 1) * 2 = j * 2 + 2 by omega]; rfl
theorem lk_vals (k : Nat) : ∀ a ∈ lk k, a.2 = none8 := fun a ha => by
  unfold lk at ha
  obtain ⟨i, _, rfl⟩ := List.mem_map.1 ha
  rfl
theorem lk_sizes (k : Nat) : ∀ a ∈ lk k, a.1.size ≤ 60 ∧ a.2.size ≤ 60 := fun a ha => by
  unfold lk at ha
  obtain ⟨i, _, rfl⟩ := List.mem_map.1 ha
  exact ⟨by show (1 : Nat) ≤ 60; omega, by show (0 : Nat) ≤ 60; omega⟩
theorem lk_get {k j : Nat} (h : j < k) : (lk k).getD j (none8, none8) = (ltr j, none8) := by
  simp [lk, List.getD_eq_getElem?_getD, h]

set_option linter.unusedSimpArgs false in
set_option linter.unusedVariables false in
set_option maxRecDepth 100000 in
set_option maxHeartbeats 4000000 in
theorem attrs_walk (A : Option Addr) (cs : List UInt8) (lc cc n kk : Nat) (w : World) (hlc : cs.length = lc) (hA : Holds8 w.heap.size w A cs) (hn : n < 256) (hkk : kk < 256) :
    Calls Try.prog 4 #[.slice A lc cc, .int .u8 (n : Int), .int .u8 (kk : Int)] w fun e w' => e = .returned (.bool true) ∧ Below w.heap.size w w' := by
  have hS := span_made A cs lc cc w hlc hA
  have hright := spanOf_right cs
  have hparts := right_parts hright
  obtain ⟨sp, hsp⟩ : ∃ sp, spanOf cs = sp := ⟨_, rfl⟩
  rw [hsp] at hS hright hparts
  obtain ⟨hi, lo, id, par, name, start, stop, bad, l, rv⟩ := sp
  dsimp only at hS hparts
  obtain ⟨p1, p2, p3, p4, p5, p6, p7, p8⟩ := hparts
  obtain ⟨m, hm⟩ : ∃ m, n % 12 = m := ⟨_, rfl⟩
  have hm12 : m < 12 := by omega
  have tm : (n : Int).tmod 12 = (m : Int) := by rw [Int.tmod_eq_emod_of_nonneg (by omega)]; omega
  have wm : IntKind.i64.wrap (m : Int) = (m : Int) := IntWalk.i64_in _ (by omega)
  obtain ⟨i1, ha0, ha1, ha2, ha3⟩ := info_parts info_attr
  have hR := fun (l' : List Attr) (A' : Option Addr) (n' c' : Nat) (W : World) (r : Bool) (hn : l'.length = n') (h12 : n' ≤ 12) (hh : HoldsA W.heap.size W A' l') (hr : rightAttrs l' = r) => rightSpan_any hi lo id par rv name start stop bad A' l' n' c' W r hn (by omega) (by omega) hh ((right_attrs hright).trans hr)
  unfold spCells at hS hR
  have HS := Lib.hid hS
  have HR := Lib.hid hR
  clear hS hR hright hsp hA hlc p2 p3 p4 p5 p6 p7 p8 hm
  go_enter Try.func4, Try.ntmps4
  go_wp2_with fail
  refine HS.out.mono ?_
  rintro e w1 ⟨A1, n1, c1, rfl, _, _, hb1⟩
  have hsz1 := hb1.size
  go_wp2_with fail
  go_loopw [8] (fun iv wr => ∃ (k : Nat) (A' : Option Addr) (c' : Nat), k ≤ m ∧ iv = .int .i64 (k : Int) ∧ Blk wr w1.heap.size #[.int .u64 (hi : Int), .int .u64 (lo : Int), .int .u64 (id : Int), .int .u64 (par : Int), .string name, .int .i64 start, .int .i64 stop, .bool bad, .slice A' k c', .int .u64 (rv : Int)] 26 ∧ wr.ownsRow w1.heap.size 36 2 (.slice A' k c') k (aCells (lk k)) ∧ Below w.heap.size w wr) (fun iv _ => m - (intOf iv).toNat)
  case atStart => exact ⟨0, none, 0, by omega, rfl, blk_new _ _ _, World.ownsRow_nil _ _ _ _, hb1.alloc hsz1 _⟩
  case round =>
    obtain ⟨k, A2, c2, hk, rfl, hblk, hown, hB⟩ := hrel
    by_cases hlt : k < m
    · have z8 : wr.cell? ⟨w1.heap.size, 8, none⟩ = some (.slice A2 k c2) := hblk.cell 8 rfl
      have HB := Lib.hid hblk
      have HO := Lib.hid hown
      have hgl := hblk.lt
      clear hblk hown
      have hcv := one_byte wr k (by omega)
      obtain ⟨s, hs⟩ : ∃ s, ltr k = s := ⟨_, rfl⟩
      rw [hs] at hcv
      have HSS := Lib.hid hs
      clear hs
      go_wp2_with (at_builtin; refine wpList_append_lies _ rfl (.tmp 22) (.tmp 29) 24 rfl w1.heap.size 36 i1 (.agg #[.string ⟨#[]⟩, .string ⟨#[]⟩]) 2 32 Try.underlying24 ha0 ha1 ha2 ha3 rfl (by decide) (.slice A2 k c2) k (aCells (lk k)) rfl ((HO.out.alloc _).alloc _) ⟨wr.heap.size + 1, 0, none⟩ 1 1 [.string s, .string ⟨#[]⟩] rfl rfl (new_pair_at (wr.alloc (.cells #[.int .u8 (97 + (k : Int))] 5)) (wr.heap.size + 1) (by simp) _ _ _) (by simp [Value.oneCell']) (by decide) (by unfold maxLen; omega) (by omega) (by simp; omega) (wr.heap.size + 2) (by simp) ?_; intro g2 c3 w2 hown2 hgr2 hor2 hlt2; have HB2 := Lib.hid (((HB.out.same (Below.heap_alloc wr (.cells #[.int .u8 (97 + (k : Int))] 5) _ hgl)).same (Below.heap_alloc (wr.alloc (.cells #[.int .u8 (97 + (k : Int))] 5)) (.cells #[.string s, .string ⟨#[]⟩] 36) _ (by simp; omega))).same (grown_at hgr2 (by simp; omega) (own_apart2 HO.out HB.out (by decide)))); have y8 := HB2.out.free 8; have z8' : w2.cell? ⟨w1.heap.size, 8, none⟩ = some (.slice A2 k c2) := HB2.out.cell 8 rfl; have HO2 := Lib.hid hown2; have HL2 := Lib.hid (((hB.alloc hB.size (.cells #[.int .u8 (97 + (k : Int))] 5)).alloc (by simp; omega) (.cells #[.string s, .string ⟨#[]⟩] 36)).grown hgr2 (by simp; omega) (fun b hb => by rcases HO.out.2 with ⟨e, _⟩ | ⟨g', _, _, e, hg', _⟩; (rw [e] at hb; simp [Value.ownBlock] at hb); (rw [e] at hb; simp [Value.ownBlock] at hb; omega))); clear hown2 hgr2)
      go_roundw
      case rel => exact ⟨k + 1, some ⟨g2, 0, none⟩, c3, by omega, by go_num, HB2.out.set 8 _, by rw [lk_succ, aCells_app, HSS.out]; exact ownsRow_setCell_other HO2.out (own_apart2 HO2.out HB2.out (by decide)) _, HL2.out.setCell (p := ⟨w1.heap.size, 8, none⟩) hsz1 _⟩
      case measure => simp [intOf]; omega
    · obtain rfl : k = m := by omega
      obtain ⟨r, hr⟩ : ∃ r, decide ((k : Int) ≤ 8) = r := ⟨_, rfl⟩
      have hrr : rightAttrs (lk k) = r := by rw [lk_right ⟨k, hm12⟩, ← hr]; simp; omega
      have hHA := holdsA_of_own hown (lk_len k).symm (lk_sizes k)
      have HB := Lib.hid hblk
      have HO := Lib.hid hown
      have HH := Lib.hid hHA
      have HRR := Lib.hid hrr
      clear hblk hown hHA hrr
      have z0 : wr.cell? ⟨w1.heap.size, 0, none⟩ = some (.int .u64 (hi : Int)) := HB.out.cell 0 rfl
      have z1 : wr.cell? ⟨w1.heap.size, 1, none⟩ = some (.int .u64 (lo : Int)) := HB.out.cell 1 rfl
      have z2 : wr.cell? ⟨w1.heap.size, 2, none⟩ = some (.int .u64 (id : Int)) := HB.out.cell 2 rfl
      have z3 : wr.cell? ⟨w1.heap.size, 3, none⟩ = some (.int .u64 (par : Int)) := HB.out.cell 3 rfl
      have z4 : wr.cell? ⟨w1.heap.size, 4, none⟩ = some (.string name) := HB.out.cell 4 rfl
      have z5 : wr.cell? ⟨w1.heap.size, 5, none⟩ = some (.int .i64 start) := HB.out.cell 5 rfl
      have z6 : wr.cell? ⟨w1.heap.size, 6, none⟩ = some (.int .i64 stop) := HB.out.cell 6 rfl
      have z7 : wr.cell? ⟨w1.heap.size, 7, none⟩ = some (.bool bad) := HB.out.cell 7 rfl
      have z8 : wr.cell? ⟨w1.heap.size, 8, none⟩ = some (.slice A2 k c2) := HB.out.cell 8 rfl
      have z9 : wr.cell? ⟨w1.heap.size, 9, none⟩ = some (.int .u64 (rv : Int)) := HB.out.cell 9 rfl
      go_wp2_with fail
      refine (HR.out (lk k) A2 k c2 wr r (lk_len k) (by omega) HH.out HRR.out).mono ?_
      rintro e w2 ⟨rfl, hb2⟩
      have HB2 := Lib.hid (HB.out.same (hb2.block _ HB.out.lt))
      have HO2 := Lib.hid (own_later2 HO.out hb2)
      have HL2 := Lib.hid (hB.trans (hb2.mono hB.size))
      clear hb2 z0 z1 z2 z3 z4 z5 z6 z7 z8 z9
      by_cases h2 : k < 2
      · have d2 : decide ((k : Int) < 2) = true := by simp; omega
        go_wp2_with fail
        refine (known_any w2).mono ?_
        rintro e w3 ⟨rfl, hb3⟩
        have HL3 := Lib.hid (HL2.out.trans (hb3.mono HL2.out.size))
        clear hb3
        go_wp2_with fail
        go_ret
        exact ⟨rfl, HL3.out⟩
      · have d2 : decide ((k : Int) < 2) = false := by simp; omega
        obtain ⟨q, hq⟩ : ∃ q, kk % (k - 1) = q := ⟨_, rfl⟩
        have hqk : q < k - 1 := by rw [← hq]; exact Nat.mod_lt _ (by omega)
        have wkk : IntKind.i64.wrap (kk : Int) = (kk : Int) := IntWalk.i64_in _ (by omega)
        have tq : (kk : Int).tmod ((k : Int) - 1) = (q : Int) := by
          rw [Int.tmod_eq_emod_of_nonneg (by omega), ← hq]
          have : ((k : Int) - 1) = ((k - 1 : Nat) : Int) := by omega
          rw [this]; rfl
        have hq1 : 0 ≤ (q : Int) := by omega
        have wq1 : IntKind.i64.wrap (1 + (q : Int) - 1) = (q : Int) := by rw [IntWalk.i64_in _ (by omega)]; omega
        have hq3 : (q : Int) < (k : Int) := by omega
        have hq2 : (q : Int) + 1 < (k : Int) := by omega
        obtain ⟨gA, hgA, hgAb⟩ : ∃ gA, A2 = some ⟨gA, 0, none⟩ ∧ ∀ j, w2.frozen? ⟨gA, j, none⟩ = false := by
          rcases HO2.out.2 with ⟨e, _⟩ | ⟨gA, cap, cur, e, _, hh, _⟩
          · injection e with _ e2 _; omega
          · injection e with e1 _ _
            exact ⟨gA, e1, fun j => by simp [World.frozen?, hh]⟩
        subst hgA
        have hlk := lk_len k
        obtain ⟨g1, _⟩ := aCells_get (lk k) q (by omega)
        obtain ⟨g3, _⟩ := aCells_get (lk k) (1 + q) (by omega)
        rw [lk_get (by omega)] at g1 g3
        dsimp only at g1 g3
        have xq : w2.cell? ⟨gA, q * 2, none⟩ = some (.string (ltr q)) := by
          rw [← g1]; exact HO2.out.cellAt (q * 2) (by omega)
        have xi : w2.cell? ⟨gA, (1 + q) * 2, none⟩ = some (.string (ltr (1 + q))) := by
          rw [← g3]; exact HO2.out.cellAt ((1 + q) * 2) (by omega)
        have fi := hgAb ((1 + q) * 2)
        obtain ⟨sq, hsq⟩ : ∃ s, ltr q = s := ⟨_, rfl⟩
        obtain ⟨si, hsi⟩ : ∃ s, ltr (1 + q) = s := ⟨_, rfl⟩
        rw [hsq] at xq
        rw [hsi] at xi
        have x8 : w2.cell? ⟨w1.heap.size, 8, none⟩ = some (.slice (some ⟨gA, 0, none⟩) k c2) := HB2.out.cell 8 rfl
        have hown3 := (HO2.out.stored ((1 + q) * 2) (.string sq)).1
        rw [← hsq, aCells_set (lk k) (1 + q) (ltr q) (by omega) (lk_vals k)] at hown3
        have hne : gA ≠ w1.heap.size := fun e => own_apart2 HO2.out HB2.out (by decide) (by simp [Value.ownBlock, e])
        have hgAlow : w1.heap.size ≤ gA := by
          rcases HO2.out.2 with ⟨e, _⟩ | ⟨g', _, _, e, hg', _⟩
          · injection e with e1 _ _; cases e1
          · injection e with e1 _ _; injection e1 with e1; injection e1 with e1 _; omega
        have hset : ((lk k).set (1 + q) (ltr q, none8)).length = k := by simp [hlk]
        have hHA3 : HoldsA (w2.setCell ⟨gA, (1 + q) * 2, none⟩ (.string (ltr q))).heap.size (w2.setCell ⟨gA, (1 + q) * 2, none⟩ (.string (ltr q))) (some ⟨gA, 0, none⟩) ((lk k).set (1 + q) (ltr q, none8)) :=
          holdsA_of_own hown3 hset.symm (fun a ha => by
            rcases List.mem_or_eq_of_mem_set ha with h | h
            · exact lk_sizes k a h
            · subst h; exact ⟨by show (1 : Nat) ≤ 60; omega, by show (0 : Nat) ≤ 60; omega⟩)
        rw [hsq] at hHA3
        have hbent : rightAttrs ((lk k).set (1 + q) (ltr q, none8)) = false := by
          have h := lk_bent ⟨k, hm12⟩ ⟨1 + q, by omega⟩ (by show 1 ≤ 1 + q; omega) (by show 1 + q < k; omega)
          dsimp only at h
          rw [show 1 + q - 1 = q by omega] at h
          exact h
        have HBT := Lib.hid hbent
        have HSET := Lib.hid hset
        have HH3 := Lib.hid hHA3
        have HB3 := Lib.hid (HB2.out.same (Below.heap_setCell w2 ⟨gA, (1 + q) * 2, none⟩ (.string sq) _ (fun e => hne e.symm)))
        have HL3 := Lib.hid (HL2.out.setCell (p := ⟨gA, (1 + q) * 2, none⟩) (by show w.heap.size ≤ gA; omega) (.string sq))
        have HSQ := Lib.hid hsq
        clear hbent hset hHA3 hown3 g1 g3 hlk hgAb hq hsq hsi
        go_wp2_with fail
        refine RegionBut.region_but 12 (S := fun W => W.cell? ⟨w1.heap.size, 8, none⟩ = some (.slice (some ⟨gA, 0, none⟩) k c2) ∧ W.cell? ⟨gA, q * 2, none⟩ = some (.string sq)) (by kernel_rfl) ?_ (fun hHeld => ?_)
        · exact ⟨x8, xq⟩
        refine RegionBut.but_take (i := 0) (v := ?_) rfl (by kernel_rfl) (by kernel_rfl) (by kernel_rfl) (by kernel_rfl) (fun _ _ _ h => h) (Or.inl ⟨by rfl, ?_⟩) (by assumption) ?_
        rotate_left
        · intro wq hSw; (try dsimp only at hSw); go_simp; (try with_reducible rfl)
        simp only [Act.put, List.getElem_toArray, List.getElem_cons_succ, List.getElem_cons_zero, List.setIfInBounds_toArray, List.set_cons_zero, List.set_cons_succ]
        refine RegionBut.but_take (i := 1) (v := ?_) rfl (by kernel_rfl) (by kernel_rfl) (by kernel_rfl) (by kernel_rfl) (fun _ _ _ h => h) (Or.inl ⟨by rfl, ?_⟩) (by assumption) ?_
        rotate_left
        · intro wq hSw; (try dsimp only at hSw); have hqq := hSw.1; go_simp; (try with_reducible rfl)
        simp only [Act.put, List.getElem_toArray, List.getElem_cons_succ, List.getElem_cons_zero, List.setIfInBounds_toArray, List.set_cons_zero, List.set_cons_succ]
        refine RegionBut.but_take (i := 2) (v := ?_) rfl (by kernel_rfl) (by kernel_rfl) (by kernel_rfl) (by kernel_rfl) (fun _ _ _ h => h) (Or.inl ⟨by rfl, ?_⟩) (by assumption) ?_
        rotate_left
        · intro wq hSw; (try dsimp only at hSw); go_simp; (try with_reducible rfl)
        simp only [Act.put, List.getElem_toArray, List.getElem_cons_succ, List.getElem_cons_zero, List.setIfInBounds_toArray, List.set_cons_zero, List.set_cons_succ]
        refine RegionBut.but_take (i := 3) (v := ?_) rfl (by kernel_rfl) (by kernel_rfl) (by kernel_rfl) (by kernel_rfl) (fun _ _ _ h => h) (Or.inl ⟨by rfl, ?_⟩) (by assumption) ?_
        rotate_left
        · intro wq hSw; (try dsimp only at hSw); go_simp; (try with_reducible rfl)
        simp only [Act.put, List.getElem_toArray, List.getElem_cons_succ, List.getElem_cons_zero, List.setIfInBounds_toArray, List.set_cons_zero, List.set_cons_succ]
        refine RegionBut.but_take (i := 4) (v := ?_) rfl (by kernel_rfl) (by kernel_rfl) (by kernel_rfl) (by kernel_rfl) (fun _ _ _ h => h) (Or.inl ⟨by rfl, ?_⟩) (by assumption) ?_
        rotate_left
        · intro wq hSw; (try dsimp only at hSw); have hqq := hSw.1; go_simp; (try with_reducible rfl)
        simp only [Act.put, List.getElem_toArray, List.getElem_cons_succ, List.getElem_cons_zero, List.setIfInBounds_toArray, List.set_cons_zero, List.set_cons_succ]
        refine RegionBut.but_take (i := 5) (v := ?_) rfl (by kernel_rfl) (by kernel_rfl) (by kernel_rfl) (by kernel_rfl) (fun _ _ _ h => h) (Or.inl ⟨by rfl, ?_⟩) (by assumption) ?_
        rotate_left
        · intro wq hSw; (try dsimp only at hSw); go_simp; (try with_reducible rfl)
        simp only [Act.put, List.getElem_toArray, List.getElem_cons_succ, List.getElem_cons_zero, List.setIfInBounds_toArray, List.set_cons_zero, List.set_cons_succ]
        refine RegionBut.but_take (i := 6) (v := ?_) rfl (by kernel_rfl) (by kernel_rfl) (by kernel_rfl) (by kernel_rfl) (fun _ _ _ h => h) (Or.inl ⟨by rfl, ?_⟩) (by assumption) ?_
        rotate_left
        · intro wq hSw; (try dsimp only at hSw); go_simp; (try with_reducible rfl)
        simp only [Act.put, List.getElem_toArray, List.getElem_cons_succ, List.getElem_cons_zero, List.setIfInBounds_toArray, List.set_cons_zero, List.set_cons_succ]
        refine RegionBut.but_take (i := 7) (v := ?_) rfl (by kernel_rfl) (by kernel_rfl) (by kernel_rfl) (by kernel_rfl) (fun _ _ _ h => h) (Or.inl ⟨by rfl, ?_⟩) (by assumption) ?_
        rotate_left
        · intro wq hSw; (try dsimp only at hSw); go_simp; (try with_reducible rfl)
        simp only [Act.put, List.getElem_toArray, List.getElem_cons_succ, List.getElem_cons_zero, List.setIfInBounds_toArray, List.set_cons_zero, List.set_cons_succ]
        refine RegionBut.but_take (i := 8) (v := ?_) rfl (by kernel_rfl) (by kernel_rfl) (by kernel_rfl) (by kernel_rfl) (fun _ _ _ h => h) (Or.inl ⟨by rfl, ?_⟩) (by assumption) ?_
        rotate_left
        · intro wq hSw; (try dsimp only at hSw); go_simp; (try with_reducible rfl)
        simp only [Act.put, List.getElem_toArray, List.getElem_cons_succ, List.getElem_cons_zero, List.setIfInBounds_toArray, List.set_cons_zero, List.set_cons_succ]
        refine RegionBut.but_take (i := 9) (v := ?_) rfl (by kernel_rfl) (by kernel_rfl) (by kernel_rfl) (by kernel_rfl) (fun _ _ _ h => h) (Or.inl ⟨by rfl, ?_⟩) (by assumption) ?_
        rotate_left
        · intro wq hSw; (try dsimp only at hSw); have hqq := hSw.2; go_simp; (try with_reducible rfl)
        simp only [Act.put, List.getElem_toArray, List.getElem_cons_succ, List.getElem_cons_zero, List.setIfInBounds_toArray, List.set_cons_zero, List.set_cons_succ]
        refine RegionBut.but_ready (rs := [10]) (by kernel_rfl) (by simp) ?_
        refine RegionBut.Nexts.cons rfl (fun K hK => ?_) RegionBut.Nexts.nil
        go_simp
        (try go_wp2_with fail)
        refine hK.out _ _ ?_ (fun hHeld => ?_)
        · exact hHeld
        clear hK K
        try simp only [Act.put, List.getElem_toArray, List.getElem_cons_succ, List.getElem_cons_zero, List.setIfInBounds_toArray, List.set_cons_zero, List.set_cons_succ]
        refine RegionBut.but_ready (rs := [11]) (by kernel_rfl) (by simp) ?_
        refine RegionBut.Nexts.cons rfl (fun K hK => ?_) RegionBut.Nexts.nil
        go_simp
        (try go_wp2_with fail)
        refine hK.out _ _ ?_ (fun hHeld => ?_)
        · exact hHeld
        clear hK K
        try simp only [Act.put, List.getElem_toArray, List.getElem_cons_succ, List.getElem_cons_zero, List.setIfInBounds_toArray, List.set_cons_zero, List.set_cons_succ]
        refine RegionBut.but_ready (rs := [12]) (by kernel_rfl) (by simp) ?_
        refine RegionBut.Nexts.last rfl (fun K hK => ?_)
        go_simp
        (try go_wp2_with fail)
        refine hK.out _ _ trivial (fun _ => ?_)
        clear hK K
        try simp only [Act.put, List.getElem_toArray, List.getElem_cons_succ, List.getElem_cons_zero, List.setIfInBounds_toArray, List.set_cons_zero, List.set_cons_succ]
        refine RegionBut.but_done (by kernel_rfl) ?_ _
        clear hHeld
        generalize w2.setCell ⟨gA, (1 + q) * 2, none⟩ (.string sq) = W3 at HH3 HB3 HL3 ⊢
        go_wp2_with fail
        refine (known_any W3.drew).mono ?_
        rintro e w4 ⟨rfl, hb4'⟩
        have hb4 : Below W3.heap.size W3 w4 := undrewn hb4'
        have HB4 := Lib.hid (HB3.out.same (hb4.block _ HB3.out.lt))
        have HH4 := Lib.hid (HH3.out.later hb4)
        have HL4 := Lib.hid (HL3.out.trans (hb4.mono HL3.out.size))
        clear hb4 hb4'
        have z0 : w4.cell? ⟨w1.heap.size, 0, none⟩ = some (.int .u64 (hi : Int)) := HB4.out.cell 0 rfl
        have z1 : w4.cell? ⟨w1.heap.size, 1, none⟩ = some (.int .u64 (lo : Int)) := HB4.out.cell 1 rfl
        have z2 : w4.cell? ⟨w1.heap.size, 2, none⟩ = some (.int .u64 (id : Int)) := HB4.out.cell 2 rfl
        have z3 : w4.cell? ⟨w1.heap.size, 3, none⟩ = some (.int .u64 (par : Int)) := HB4.out.cell 3 rfl
        have z4 : w4.cell? ⟨w1.heap.size, 4, none⟩ = some (.string name) := HB4.out.cell 4 rfl
        have z5 : w4.cell? ⟨w1.heap.size, 5, none⟩ = some (.int .i64 start) := HB4.out.cell 5 rfl
        have z6 : w4.cell? ⟨w1.heap.size, 6, none⟩ = some (.int .i64 stop) := HB4.out.cell 6 rfl
        have z7 : w4.cell? ⟨w1.heap.size, 7, none⟩ = some (.bool bad) := HB4.out.cell 7 rfl
        have z8 : w4.cell? ⟨w1.heap.size, 8, none⟩ = some (.slice (some ⟨gA, 0, none⟩) k c2) := HB4.out.cell 8 rfl
        have z9 : w4.cell? ⟨w1.heap.size, 9, none⟩ = some (.int .u64 (rv : Int)) := HB4.out.cell 9 rfl
        go_wp2_with fail
        refine (HR.out ((lk k).set (1 + q) (ltr q, none8)) (some ⟨gA, 0, none⟩) k c2 w4 false HSET.out (by omega) (by rw [HSQ.out]; exact HH4.out) HBT.out).mono ?_
        rintro e w5 ⟨rfl, hb5⟩
        have HL5 := Lib.hid (HL4.out.trans (hb5.mono HL4.out.size))
        clear hb5
        go_wp2_with fail
        go_ret
        exact ⟨rfl, HL5.out⟩

namespace ItemAttrs
set_option linter.unusedSimpArgs false in
set_option maxRecDepth 100000 in
theorem lifted (os : Os) (started : os.Started) (H : Type) (enc : TypeId × Value → H) :
    ReturnsInHanded {} Try.checked os 4 .any (Rows.itemAttrsSpec.pre6 enc Try.prog Try.f4 Rows.itemAttrsRow.domain false) (Rows.itemAttrsSpec.post enc Try.prog Try.f4 false true false false) := by
  refine returnsInHanded_of_change (C := Try.checked) own started (by kernel_rfl) Try.func4
    (ChangeSpec.witness6 (enc := enc) (C := Try.checked) false ⟨#[], #[.slice none 0 0, .int .u8 0, .int .u8 0], []⟩ 8 (by kernel_rfl) (by kernel_rfl) (by kernel_rfl) (by kernel_rfl)) ?_
  intro W base args ds gs before hval0 hW _ _
  have hval : ∀ (j : Nat) t v, Try.f4.params[j]? = some t → args[j]? = some v → Value.okWide Try.prog W .any base t v := hval0
  have hW' := hW
  obtain ⟨p, q, hA0, hV, rfl, _, _⟩ := hW
  have hA : DataW.TrodAll enc Try.prog W 0 (fun _ => true) true Try.f4.params.toList args.toList ds p := hA0
  rw [Try.params4] at hA hval
  obtain ⟨v0, vs0, d0, ds0, p0, q0, hargs, rfl, rfl, h0, r0⟩ := trodAll_cons hA
  obtain ⟨v1, vs1, d1, ds1, p1, q1, rfl, rfl, rfl, h1, r1⟩ := trodAll_cons r0
  obtain ⟨v2, vs2, d2, ds2, p2, q2, rfl, rfl, rfl, h2, r2⟩ := trodAll_cons r1
  obtain ⟨rfl, rfl, rfl⟩ := trodAll_nil r2
  obtain rfl : args = #[v0, v1, v2] := by cases args; simp_all
  obtain ⟨rfl, rfl⟩ := trodVars_none hV
  obtain ⟨A0, cs0, cap0, rfl, l0, m0, b0, again0⟩ := arg_bytes (hval 0 22 v0 rfl rfl) h0
  have x0 := arg_extra h0
  obtain ⟨a1, rfl, rfl, rfl, w1⟩ := open_int Try.underlying5 (hval 1 5 v1 rfl rfl) h1
  have k1 := wf_u8 w1
  obtain ⟨n1, rfl⟩ : ∃ u : UInt8, a1 = (u.toNat : Int) := ⟨UInt8.ofNat a1.toNat, by simp; omega⟩
  obtain ⟨a2, rfl, rfl, rfl, w2⟩ := open_int Try.underlying5 (hval 2 5 v2 rfl rfl) h2
  have k2 := wf_u8 w2
  obtain ⟨n2, rfl⟩ : ∃ u : UInt8, a2 = (u.toNat : Int) := ⟨UInt8.ofNat a2.toNat, by simp; omega⟩
  clear hA0 hval0
  simp only [List.append_nil] at hW'
  refine (attrs_walk A0 cs0 _ cap0 n1.toNat n2.toNat W rfl b0 n1.toNat_lt n2.toNat_lt).mono fun e W' ⟨he, hg⟩ => ?_
  subst he
  exact ⟨_, rfl, true_last hW' rfl (by kernel_rfl) Try.underlying4 rfl rfl rfl (of_decide_eq_true (by kernel_rfl)) hg⟩

/-- **ItemAttrs, at every input.** -/
theorem proved : Rows.ItemAttrsSaid :=
  OpenClaim.holds_of_wide 4 Try.f4 rfl rfl rfl rfl rfl rfl rfl ⟨rfl, rfl, rfl, rfl, rfl⟩ rfl rfl rfl rfl rfl (by kernel_rfl) Try.func4 (by kernel_rfl)
    (of_decide_eq_true (by kernel_rfl)) (by unfold Func.isWrapper; first | (rw [if_pos (by decide +kernel)]; kernel_rfl) | (rw [if_neg (by decide +kernel)]; exact ⟨rfl, rfl⟩))
    (fun os started H enc _ => lifted os started H enc)
end ItemAttrs

end Go.Proofs.Ytkkojjebggmcfaa
