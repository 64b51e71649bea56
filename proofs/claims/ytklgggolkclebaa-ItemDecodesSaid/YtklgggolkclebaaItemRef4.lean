/-
  The document's own answer of layer 3 (telemeterref03): a span's bytes, at every right span.
-/
import Derived.Deep.RegionHeld
import Derived.Deep.CutBlock
import Derived.Deep.DeepCutAuto
import Derived.Test.YtklgggolkclebaaItemRef3
import Derived.Test.YtklgggolkclebaaItemSpan
namespace Go.Proofs.Ytklgggolkclebaa
open Go.RowKit Go.Proofs.NumMath Go.Proofs.ItemMath

theorem rows_cons {W : World} {base : Nat} {vs : List Value} {css : List (List UInt8)} (h : RowsOf W base vs css) {v : Value} {c : List UInt8} (hv : W.ownsRow base 5 1 v c.length (c.map b8)) : RowsOf W base (v :: vs) (c :: css) := by
  refine ⟨by simp [h.1], fun j hj => ?_⟩
  cases j with
  | zero => exact ⟨v, rfl, hv⟩
  | succ j =>
    obtain ⟨u, h1, h2⟩ := h.2 j (by simpa using hj)
    exact ⟨u, h1, h2⟩
theorem own_byte (W : World) (x : Int) (c : UInt8) (hx : x = (c.toNat : Int)) : (W.alloc (.cells #[.int .u8 x] 5)).ownsRow W.heap.size 5 1 (.slice (some ⟨W.heap.size, 0, none⟩) 1 1) [c].length ([c].map b8) := by
  refine ⟨rfl, .inr ⟨W.heap.size, 1, #[.int .u8 x], rfl, Nat.le_refl _, blk_new W _ _, by simp, by unfold maxLen; omega, rfl, ?_⟩⟩
  subst hx; rfl
theorem own_byte' (W : World) (g : Nat) (hg : W.heap.size = g) (x : Int) (c : UInt8) (hx : x = (c.toNat : Int)) : (W.alloc (.cells #[.int .u8 x] 5)).ownsRow W.heap.size 5 1 (.slice (some ⟨g, 0, none⟩) 1 1) [c].length ([c].map b8) := by
  subst hg; exact own_byte W x c hx
theorem own_rows10 (W : World) (gg : Nat) (hg : W.heap.size = gg) (a b c d e f g h i j : Value) : (W.alloc (.cells #[a, b, c, d, e, f, g, h, i, j] 22)).ownsRow W.heap.size 22 1 (.slice (some ⟨gg, 0, none⟩) 10 10) [a, b, c, d, e, f, g, h, i, j].length [a, b, c, d, e, f, g, h, i, j] := by
  subst hg
  exact ⟨rfl, .inr ⟨W.heap.size, 10, #[a, b, c, d, e, f, g, h, i, j], rfl, Nat.le_refl _, blk_new W _ _, by simp, by unfold maxLen; omega, rfl, rfl⟩⟩

/-- Ten rows stand. -/
def Ten (w W : World) (s4 : Value) (C : Array Value) (css : List (List UInt8)) : Prop :=
  ∃ vs, W.ownsRow w.heap.size 22 1 s4 vs.length vs ∧ vs.length = 10 ∧ RowsOf W w.heap.size vs css ∧ Blk W w.heap.size C 26 ∧ Below w.heap.size w W

theorem own_apart1 {W : World} {B n g : Nat} {v : Value} {xs : List Value} {C : Array Value} {e T : TypeId} (ho : W.ownsRow B e 1 v n xs) (hb : Blk W g C T) (hT : e ≠ T) : v.ownBlock ≠ some g := fun h => by
  rcases ho.2 with ⟨rfl, _⟩ | ⟨k, cap, cur, rfl, _, hk, _⟩
  · simp [Value.ownBlock] at h
  · obtain rfl : k = g := by simpa [Value.ownBlock] using h
    unfold Blk at hb
    rw [hk] at hb
    injection hb with hb
    injection hb with _ h2 _
    exact hT h2

def attrRows (l : List Attr) : List (List UInt8) := l.map fun a => fieldT 10 (attrText a)
theorem attrRows_flat : ∀ l : List Attr, (attrRows l).flatten = attrFields l
  | [] => rfl
  | a :: r => by
    have := attrRows_flat r
    simp only [attrRows, List.map_cons, List.flatten_cons, attrFields] at this ⊢
    rw [this]

set_option linter.unusedSimpArgs false in
set_option linter.unusedVariables false in
set_option maxRecDepth 100000 in
set_option maxHeartbeats 8000000 in
theorem refSpan_any (hi lo id par rv : Nat) (name : ByteArray) (st sp : Nat) (bad : Bool) (A : Option Addr) (l : List Attr) (n cap : Nat) (w : World) (b1 : hi < 18446744073709551616) (b2 : lo < 18446744073709551616) (b3 : id < 18446744073709551616) (b4 : par < 18446744073709551616) (b5 : name.size ≤ 60) (b6 : st ≤ 1099511627776) (b7 : sp ≤ 1099511627776) (b9 : rv ≤ 72057594037927936)
    (hn : l.length = n) (hn8 : n ≤ 8) (hr : HoldsA w.heap.size w A l) (hall : ∀ a ∈ l, 0 < a.1.size ∧ a.1.size ≤ 60 ∧ a.2.size ≤ 60) (z : List UInt8) (m : Nat) (hz : (1 : UInt8) :: encSpan ⟨hi, lo, id, par, name, (st : Int), (sp : Int), bad, l, rv⟩ = z) (hm : z.length = m) (hmb : m ≤ 500000) :
    Calls Try.prog 27 #[.agg (spCells hi lo id par name (st : Int) (sp : Int) bad A n cap rv)] w fun e w' => ∃ A' c', e = .returned (.slice A' m c') ∧ w'.ownsRow w.heap.size 5 1 (.slice A' m c') z.length (z.map b8) ∧ Below w.heap.size w w' := by
  unfold spCells
  have k6 : IntKind.u64.wrap (st : Int) = (st : Int) := by rw [IntKind.wrap_u64]; omega
  have k7 : IntKind.u64.wrap (sp : Int) = (sp : Int) := by rw [IntKind.wrap_u64]; omega
  obtain ⟨bd, hbd⟩ : ∃ bd, bd = badN bad := ⟨_, rfl⟩
  have hbb : bd ≤ 1 := by rw [hbd]; unfold badN; split <;> omega

  obtain ⟨z1, hz1⟩ : ∃ z, fieldN 1 hi = z := ⟨_, rfl⟩
  obtain ⟨m1, hm1⟩ : ∃ m, z1.length = m := ⟨_, rfl⟩
  have F1 := Lib.hid (fun W => refNumber_any 1 hi W (by omega) (by omega) z1 m1 hz1 hm1)
  obtain ⟨z2, hz2⟩ : ∃ z, fieldN 2 lo = z := ⟨_, rfl⟩
  obtain ⟨m2, hm2⟩ : ∃ m, z2.length = m := ⟨_, rfl⟩
  have F2 := Lib.hid (fun W => refNumber_any 2 lo W (by omega) (by omega) z2 m2 hz2 hm2)
  obtain ⟨z3, hz3⟩ : ∃ z, fieldN 3 id = z := ⟨_, rfl⟩
  obtain ⟨m3, hm3⟩ : ∃ m, z3.length = m := ⟨_, rfl⟩
  have F3 := Lib.hid (fun W => refNumber_any 3 id W (by omega) (by omega) z3 m3 hz3 hm3)
  obtain ⟨z4, hz4⟩ : ∃ z, fieldN 4 par = z := ⟨_, rfl⟩
  obtain ⟨m4, hm4⟩ : ∃ m, z4.length = m := ⟨_, rfl⟩
  have F4 := Lib.hid (fun W => refNumber_any 4 par W (by omega) (by omega) z4 m4 hz4 hm4)
  obtain ⟨z5, hz5⟩ : ∃ z, fieldT 5 name.data.toList = z := ⟨_, rfl⟩
  obtain ⟨m5, hm5⟩ : ∃ m, z5.length = m := ⟨_, rfl⟩
  have F5 := Lib.hid (fun W => refText_any 5 name W (by omega) (by omega) z5 m5 hz5 hm5)
  obtain ⟨z6, hz6⟩ : ∃ z, fieldN 6 st = z := ⟨_, rfl⟩
  obtain ⟨m6, hm6⟩ : ∃ m, z6.length = m := ⟨_, rfl⟩
  have F6 := Lib.hid (fun W => refNumber_any 6 st W (by omega) (by omega) z6 m6 hz6 hm6)
  obtain ⟨z7, hz7⟩ : ∃ z, fieldN 7 sp = z := ⟨_, rfl⟩
  obtain ⟨m7, hm7⟩ : ∃ m, z7.length = m := ⟨_, rfl⟩
  have F7 := Lib.hid (fun W => refNumber_any 7 sp W (by omega) (by omega) z7 m7 hz7 hm7)
  obtain ⟨z8, hz8⟩ : ∃ z, fieldN 8 bd = z := ⟨_, rfl⟩
  obtain ⟨m8, hm8⟩ : ∃ m, z8.length = m := ⟨_, rfl⟩
  have F8 := Lib.hid (fun W => refNumber_any 8 bd W (by omega) (by omega) z8 m8 hz8 hm8)
  obtain ⟨z9, hz9⟩ : ∃ z, fieldN 9 rv = z := ⟨_, rfl⟩
  obtain ⟨m9, hm9⟩ : ∃ m, z9.length = m := ⟨_, rfl⟩
  have F9 := Lib.hid (fun W => refNumber_any 9 rv W (by omega) (by omega) z9 m9 hz9 hm9)
  have hflat : ([[1], z1, z2, z3, z4, z5, z6, z7, z8, z9] ++ attrRows l : List (List UInt8)).flatten = z := by
    rw [List.flatten_append, attrRows_flat, ← hz, ← hz1, ← hz2, ← hz3, ← hz4, ← hz5, ← hz6, ← hz7, ← hz8, ← hz9, hbd]
    simp [encSpan]
  have HFL := Lib.hid hflat
  have ZBOUND : Hid (z.length ≤ 500000) := Lib.hid (by rw [hm]; exact hmb)
  have HM := Lib.hid hm
  have HR := Lib.hid hr
  have HN := Lib.hid hn
  have HALL := Lib.hid hall
  have hB0 : Below w.heap.size w (w.alloc (.cells #[.int .u64 (hi : Int), .int .u64 (lo : Int), .int .u64 (id : Int), .int .u64 (par : Int), .string name, .int .i64 (st : Int), .int .i64 (sp : Int), .bool bad, .slice A n cap, .int .u64 (rv : Int)] 26)) := (Below.refl _ _).alloc (Nat.le_refl _) _
  have hK0 : Blk (w.alloc (.cells #[.int .u64 (hi : Int), .int .u64 (lo : Int), .int .u64 (id : Int), .int .u64 (par : Int), .string name, .int .i64 (st : Int), .int .i64 (sp : Int), .bool bad, .slice A n cap, .int .u64 (rv : Int)] 26)).drew w.heap.size #[.int .u64 (hi : Int), .int .u64 (lo : Int), .int .u64 (id : Int), .int .u64 (par : Int), .string name, .int .i64 (st : Int), .int .i64 (sp : Int), .bool bad, .slice A n cap, .int .u64 (rv : Int)] 26 := blk_new w _ _
  have HB0 := Lib.hid hB0.drew
  have HK0 := Lib.hid hK0
  have HW0 := Lib.hid (rows_nil (w.alloc (.cells #[.int .u64 (hi : Int), .int .u64 (lo : Int), .int .u64 (id : Int), .int .u64 (par : Int), .string name, .int .i64 (st : Int), .int .i64 (sp : Int), .bool bad, .slice A n cap, .int .u64 (rv : Int)] 26)).drew w.heap.size)
  have HBD := Lib.hid hbd
  clear hz1 hz2 hz3 hz4 hz5 hz6 hz7 hz8 hz9 hm1 hm2 hm3 hm4 hm5 hm6 hm7 hm8 hm9 hflat hm hr hn hall hz hbd
  go_enter Try.func27, Try.ntmps27
  go_upto_if 7 with fail
  go_cut [3] (fun s3 wx => s3 = .int .u64 (bd : Int) ∧ wx = w.alloc (.cells #[.int .u64 (hi : Int), .int .u64 (lo : Int), .int .u64 (id : Int), .int .u64 (par : Int), .string name, .int .i64 (st : Int), .int .i64 (sp : Int), .bool bad, .slice A n cap, .int .u64 (rv : Int)] 26))
  case first =>
    cases bad
    · have e : bd = 0 := HBD.out
      subst e
      go_wp2_with fail
      go_meet
      exact ⟨rfl, rfl⟩
    · have e : bd = 1 := HBD.out
      subst e
      go_wp2_with fail
      go_meet
      exact ⟨rfl, rfl⟩
  case rest =>
    obtain ⟨rfl, rfl⟩ := hcut
    go_upto_region 4 with fail
    go_cut [4] (fun s4 wx => ∃ g, s4 = .slice (some ⟨g, 0, none⟩) 10 10 ∧ Ten w wx s4 #[.int .u64 (hi : Int), .int .u64 (lo : Int), .int .u64 (id : Int), .int .u64 (par : Int), .string name, .int .i64 (st : Int), .int .i64 (sp : Int), .bool bad, .slice A n cap, .int .u64 (rv : Int)] [[1], z1, z2, z3, z4, z5, z6, z7, z8, z9])
    case first =>

      refine wp_region_held_drew (S := fun W => Blk W w.heap.size #[.int .u64 (hi : Int), .int .u64 (lo : Int), .int .u64 (id : Int), .int .u64 (par : Int), .string name, .int .i64 (st : Int), .int .i64 (sp : Int), .bool bad, .slice A n cap, .int .u64 (rv : Int)] 26) (by kernel_rfl) ?_ (fun hHeld => ?_)
      · exact HK0.out
      refine wpAnyH_take (i := 1) (v := ?_) rfl (by kernel_rfl) (by kernel_rfl) (by kernel_rfl) (fun _ _ _ h => h) (Or.inl ⟨by rfl, ?_⟩) (by assumption) ?_
      rotate_left
      · intro wq hSw; (try dsimp only at hSw); go_simp; (try with_reducible rfl)
      simp only [Act.put, List.getElem_toArray, List.getElem_cons_succ, List.getElem_cons_zero, List.setIfInBounds_toArray, List.set_cons_zero, List.set_cons_succ]
      refine wpAnyH_take (i := 2) (v := ?_) rfl (by kernel_rfl) (by kernel_rfl) (by kernel_rfl) (fun _ _ _ h => h) (Or.inl ⟨by rfl, ?_⟩) (by assumption) ?_
      rotate_left
      · intro wq hSw; (try dsimp only at hSw); have hq := hSw.cell 0 rfl; go_simp; (try with_reducible rfl)
      simp only [Act.put, List.getElem_toArray, List.getElem_cons_succ, List.getElem_cons_zero, List.setIfInBounds_toArray, List.set_cons_zero, List.set_cons_succ]
      refine wpAnyH_take (i := 4) (v := ?_) rfl (by kernel_rfl) (by kernel_rfl) (by kernel_rfl) (fun _ _ _ h => h) (Or.inl ⟨by rfl, ?_⟩) (by assumption) ?_
      rotate_left
      · intro wq hSw; (try dsimp only at hSw); go_simp; (try with_reducible rfl)
      simp only [Act.put, List.getElem_toArray, List.getElem_cons_succ, List.getElem_cons_zero, List.setIfInBounds_toArray, List.set_cons_zero, List.set_cons_succ]
      refine wpAnyH_take (i := 5) (v := ?_) rfl (by kernel_rfl) (by kernel_rfl) (by kernel_rfl) (fun _ _ _ h => h) (Or.inl ⟨by rfl, ?_⟩) (by assumption) ?_
      rotate_left
      · intro wq hSw; (try dsimp only at hSw); have hq := hSw.cell 1 rfl; go_simp; (try with_reducible rfl)
      simp only [Act.put, List.getElem_toArray, List.getElem_cons_succ, List.getElem_cons_zero, List.setIfInBounds_toArray, List.set_cons_zero, List.set_cons_succ]
      refine wpAnyH_take (i := 7) (v := ?_) rfl (by kernel_rfl) (by kernel_rfl) (by kernel_rfl) (fun _ _ _ h => h) (Or.inl ⟨by rfl, ?_⟩) (by assumption) ?_
      rotate_left
      · intro wq hSw; (try dsimp only at hSw); go_simp; (try with_reducible rfl)
      simp only [Act.put, List.getElem_toArray, List.getElem_cons_succ, List.getElem_cons_zero, List.setIfInBounds_toArray, List.set_cons_zero, List.set_cons_succ]
      refine wpAnyH_take (i := 8) (v := ?_) rfl (by kernel_rfl) (by kernel_rfl) (by kernel_rfl) (fun _ _ _ h => h) (Or.inl ⟨by rfl, ?_⟩) (by assumption) ?_
      rotate_left
      · intro wq hSw; (try dsimp only at hSw); have hq := hSw.cell 2 rfl; go_simp; (try with_reducible rfl)
      simp only [Act.put, List.getElem_toArray, List.getElem_cons_succ, List.getElem_cons_zero, List.setIfInBounds_toArray, List.set_cons_zero, List.set_cons_succ]
      refine wpAnyH_take (i := 10) (v := ?_) rfl (by kernel_rfl) (by kernel_rfl) (by kernel_rfl) (fun _ _ _ h => h) (Or.inl ⟨by rfl, ?_⟩) (by assumption) ?_
      rotate_left
      · intro wq hSw; (try dsimp only at hSw); go_simp; (try with_reducible rfl)
      simp only [Act.put, List.getElem_toArray, List.getElem_cons_succ, List.getElem_cons_zero, List.setIfInBounds_toArray, List.set_cons_zero, List.set_cons_succ]
      refine wpAnyH_take (i := 11) (v := ?_) rfl (by kernel_rfl) (by kernel_rfl) (by kernel_rfl) (fun _ _ _ h => h) (Or.inl ⟨by rfl, ?_⟩) (by assumption) ?_
      rotate_left
      · intro wq hSw; (try dsimp only at hSw); have hq := hSw.cell 3 rfl; go_simp; (try with_reducible rfl)
      simp only [Act.put, List.getElem_toArray, List.getElem_cons_succ, List.getElem_cons_zero, List.setIfInBounds_toArray, List.set_cons_zero, List.set_cons_succ]
      refine wpAnyH_take (i := 13) (v := ?_) rfl (by kernel_rfl) (by kernel_rfl) (by kernel_rfl) (fun _ _ _ h => h) (Or.inl ⟨by rfl, ?_⟩) (by assumption) ?_
      rotate_left
      · intro wq hSw; (try dsimp only at hSw); go_simp; (try with_reducible rfl)
      simp only [Act.put, List.getElem_toArray, List.getElem_cons_succ, List.getElem_cons_zero, List.setIfInBounds_toArray, List.set_cons_zero, List.set_cons_succ]
      refine wpAnyH_take (i := 14) (v := ?_) rfl (by kernel_rfl) (by kernel_rfl) (by kernel_rfl) (fun _ _ _ h => h) (Or.inl ⟨by rfl, ?_⟩) (by assumption) ?_
      rotate_left
      · intro wq hSw; (try dsimp only at hSw); have hq := hSw.cell 4 rfl; go_simp; (try with_reducible rfl)
      simp only [Act.put, List.getElem_toArray, List.getElem_cons_succ, List.getElem_cons_zero, List.setIfInBounds_toArray, List.set_cons_zero, List.set_cons_succ]
      refine wpAnyH_take (i := 16) (v := ?_) rfl (by kernel_rfl) (by kernel_rfl) (by kernel_rfl) (fun _ _ _ h => h) (Or.inl ⟨by rfl, ?_⟩) (by assumption) ?_
      rotate_left
      · intro wq hSw; (try dsimp only at hSw); go_simp; (try with_reducible rfl)
      simp only [Act.put, List.getElem_toArray, List.getElem_cons_succ, List.getElem_cons_zero, List.setIfInBounds_toArray, List.set_cons_zero, List.set_cons_succ]
      refine wpAnyH_take (i := 17) (v := ?_) rfl (by kernel_rfl) (by kernel_rfl) (by kernel_rfl) (fun _ _ _ h => h) (Or.inl ⟨by rfl, ?_⟩) (by assumption) ?_
      rotate_left
      · intro wq hSw; (try dsimp only at hSw); have hq := hSw.cell 5 rfl; go_simp; (try with_reducible rfl)
      simp only [Act.put, List.getElem_toArray, List.getElem_cons_succ, List.getElem_cons_zero, List.setIfInBounds_toArray, List.set_cons_zero, List.set_cons_succ]
      refine wpAnyH_take (i := 18) (v := ?_) rfl (by kernel_rfl) (by kernel_rfl) (by kernel_rfl) (fun _ _ _ h => h) (Or.inl ⟨by rfl, ?_⟩) (by assumption) ?_
      rotate_left
      · intro wq hSw; (try dsimp only at hSw); go_simp; (try with_reducible rfl)
      simp only [Act.put, List.getElem_toArray, List.getElem_cons_succ, List.getElem_cons_zero, List.setIfInBounds_toArray, List.set_cons_zero, List.set_cons_succ]
      refine wpAnyH_take (i := 20) (v := ?_) rfl (by kernel_rfl) (by kernel_rfl) (by kernel_rfl) (fun _ _ _ h => h) (Or.inl ⟨by rfl, ?_⟩) (by assumption) ?_
      rotate_left
      · intro wq hSw; (try dsimp only at hSw); go_simp; (try with_reducible rfl)
      simp only [Act.put, List.getElem_toArray, List.getElem_cons_succ, List.getElem_cons_zero, List.setIfInBounds_toArray, List.set_cons_zero, List.set_cons_succ]
      refine wpAnyH_take (i := 21) (v := ?_) rfl (by kernel_rfl) (by kernel_rfl) (by kernel_rfl) (fun _ _ _ h => h) (Or.inl ⟨by rfl, ?_⟩) (by assumption) ?_
      rotate_left
      · intro wq hSw; (try dsimp only at hSw); have hq := hSw.cell 6 rfl; go_simp; (try with_reducible rfl)
      simp only [Act.put, List.getElem_toArray, List.getElem_cons_succ, List.getElem_cons_zero, List.setIfInBounds_toArray, List.set_cons_zero, List.set_cons_succ]
      refine wpAnyH_take (i := 22) (v := ?_) rfl (by kernel_rfl) (by kernel_rfl) (by kernel_rfl) (fun _ _ _ h => h) (Or.inl ⟨by rfl, ?_⟩) (by assumption) ?_
      rotate_left
      · intro wq hSw; (try dsimp only at hSw); go_simp; (try with_reducible rfl)
      simp only [Act.put, List.getElem_toArray, List.getElem_cons_succ, List.getElem_cons_zero, List.setIfInBounds_toArray, List.set_cons_zero, List.set_cons_succ]
      refine wpAnyH_take (i := 24) (v := ?_) rfl (by kernel_rfl) (by kernel_rfl) (by kernel_rfl) (fun _ _ _ h => h) (Or.inl ⟨by rfl, ?_⟩) (by assumption) ?_
      rotate_left
      · intro wq hSw; (try dsimp only at hSw); go_simp; (try with_reducible rfl)
      simp only [Act.put, List.getElem_toArray, List.getElem_cons_succ, List.getElem_cons_zero, List.setIfInBounds_toArray, List.set_cons_zero, List.set_cons_succ]
      refine wpAnyH_take (i := 26) (v := ?_) rfl (by kernel_rfl) (by kernel_rfl) (by kernel_rfl) (fun _ _ _ h => h) (Or.inl ⟨by rfl, ?_⟩) (by assumption) ?_
      rotate_left
      · intro wq hSw; (try dsimp only at hSw); go_simp; (try with_reducible rfl)
      simp only [Act.put, List.getElem_toArray, List.getElem_cons_succ, List.getElem_cons_zero, List.setIfInBounds_toArray, List.set_cons_zero, List.set_cons_succ]
      refine wpAnyH_take (i := 27) (v := ?_) rfl (by kernel_rfl) (by kernel_rfl) (by kernel_rfl) (fun _ _ _ h => h) (Or.inl ⟨by rfl, ?_⟩) (by assumption) ?_
      rotate_left
      · intro wq hSw; (try dsimp only at hSw); have hq := hSw.cell 9 rfl; go_simp; (try with_reducible rfl)
      simp only [Act.put, List.getElem_toArray, List.getElem_cons_succ, List.getElem_cons_zero, List.setIfInBounds_toArray, List.set_cons_zero, List.set_cons_succ]
      refine wpAnyH_ready (rs := [0, 3]) (by kernel_rfl) (by simp) ?_
      refine AllReadyH.cons rfl (fun K hK => ?_) (AllReadyH.cons rfl (fun K hK => ?_) (AllReadyH.nil))
      · go_simp
        (try go_wp2_with fail)
        refine hK.out _ _ ?_ (fun hHeld => ?_)
        · exact (HK0.out.same (Below.heap_alloc _ _ _ HK0.out.lt))
        clear hK K
        try simp only [Act.put, List.getElem_toArray, List.getElem_cons_succ, List.getElem_cons_zero, List.setIfInBounds_toArray, List.set_cons_zero, List.set_cons_succ]
        have HB1 := Lib.hid (HB0.out.alloc HB0.out.size (.cells #[.int .u8 1] 5))
        have HK1 := Lib.hid (HK0.out.same (Below.heap_alloc _ (.cells #[.int .u8 1] 5) _ HK0.out.lt))
        have HW1 := Lib.hid (rows_later HW0.out ((Below.refl _ _).alloc (Nat.le_refl _) (.cells #[.int .u8 1] 5)))
        have HZ1 := Lib.hid (own_lower0 (own_byte' _ (w.heap.size + 1) (by show (World.alloc w _).heap.size = _; simp) 1 1 rfl) HB0.out.size)
        refine wpAnyH_ready (rs := [3]) (by kernel_rfl) (by simp) ?_
        refine AllReadyH.cons rfl (fun K hK => ?_) AllReadyH.nil
        go_simp
        refine (F1.out _).mono ?_
        rintro e W2 ⟨A1, c1, rfl, o2, b2⟩
        have HB2 := Lib.hid (HB1.out.trans (b2.mono HB1.out.size))
        have HK2 := Lib.hid (HK1.out.same (b2.block _ HK1.out.lt))
        have HW2 := Lib.hid (rows_snoc (rows_later HW1.out b2) (own_lower0 o2 HB1.out.size))
        have HZ2 := Lib.hid (own_later HZ1.out b2)
        clear o2 b2
        (try go_wp2_with fail)
        refine hK.out _ _ ?_ (fun hHeld => ?_)
        · exact HK2.out
        clear hK K
        try simp only [Act.put, List.getElem_toArray, List.getElem_cons_succ, List.getElem_cons_zero, List.setIfInBounds_toArray, List.set_cons_zero, List.set_cons_succ]
        refine wpAnyH_ready (rs := [6]) (by kernel_rfl) (by simp) ?_
        refine AllReadyH.cons rfl (fun K hK => ?_) AllReadyH.nil
        go_simp
        refine (F2.out _).mono ?_
        rintro e W3 ⟨A2, c2, rfl, o3, b3⟩
        have HB3 := Lib.hid (HB2.out.trans (b3.mono HB2.out.size))
        have HK3 := Lib.hid (HK2.out.same (b3.block _ HK2.out.lt))
        have HW3 := Lib.hid (rows_snoc (rows_later HW2.out b3) (own_lower0 o3 HB2.out.size))
        have HZ3 := Lib.hid (own_later HZ2.out b3)
        clear o3 b3
        (try go_wp2_with fail)
        refine hK.out _ _ ?_ (fun hHeld => ?_)
        · exact HK3.out
        clear hK K
        try simp only [Act.put, List.getElem_toArray, List.getElem_cons_succ, List.getElem_cons_zero, List.setIfInBounds_toArray, List.set_cons_zero, List.set_cons_succ]
        refine wpAnyH_ready (rs := [9]) (by kernel_rfl) (by simp) ?_
        refine AllReadyH.cons rfl (fun K hK => ?_) AllReadyH.nil
        go_simp
        refine (F3.out _).mono ?_
        rintro e W4 ⟨A3, c3, rfl, o4, b4⟩
        have HB4 := Lib.hid (HB3.out.trans (b4.mono HB3.out.size))
        have HK4 := Lib.hid (HK3.out.same (b4.block _ HK3.out.lt))
        have HW4 := Lib.hid (rows_snoc (rows_later HW3.out b4) (own_lower0 o4 HB3.out.size))
        have HZ4 := Lib.hid (own_later HZ3.out b4)
        clear o4 b4
        (try go_wp2_with fail)
        refine hK.out _ _ ?_ (fun hHeld => ?_)
        · exact HK4.out
        clear hK K
        try simp only [Act.put, List.getElem_toArray, List.getElem_cons_succ, List.getElem_cons_zero, List.setIfInBounds_toArray, List.set_cons_zero, List.set_cons_succ]
        refine wpAnyH_ready (rs := [12]) (by kernel_rfl) (by simp) ?_
        refine AllReadyH.cons rfl (fun K hK => ?_) AllReadyH.nil
        go_simp
        refine (F4.out _).mono ?_
        rintro e W5 ⟨A4, c4, rfl, o5, b5⟩
        have HB5 := Lib.hid (HB4.out.trans (b5.mono HB4.out.size))
        have HK5 := Lib.hid (HK4.out.same (b5.block _ HK4.out.lt))
        have HW5 := Lib.hid (rows_snoc (rows_later HW4.out b5) (own_lower0 o5 HB4.out.size))
        have HZ5 := Lib.hid (own_later HZ4.out b5)
        clear o5 b5
        (try go_wp2_with fail)
        refine hK.out _ _ ?_ (fun hHeld => ?_)
        · exact HK5.out
        clear hK K
        try simp only [Act.put, List.getElem_toArray, List.getElem_cons_succ, List.getElem_cons_zero, List.setIfInBounds_toArray, List.set_cons_zero, List.set_cons_succ]
        refine wpAnyH_ready (rs := [15]) (by kernel_rfl) (by simp) ?_
        refine AllReadyH.cons rfl (fun K hK => ?_) AllReadyH.nil
        go_simp
        refine (F5.out _).mono ?_
        rintro e W6 ⟨A5, c5, rfl, o6, b6⟩
        have HB6 := Lib.hid (HB5.out.trans (b6.mono HB5.out.size))
        have HK6 := Lib.hid (HK5.out.same (b6.block _ HK5.out.lt))
        have HW6 := Lib.hid (rows_snoc (rows_later HW5.out b6) (own_lower0 o6 HB5.out.size))
        have HZ6 := Lib.hid (own_later HZ5.out b6)
        clear o6 b6
        (try go_wp2_with fail)
        refine hK.out _ _ ?_ (fun hHeld => ?_)
        · exact HK6.out
        clear hK K
        try simp only [Act.put, List.getElem_toArray, List.getElem_cons_succ, List.getElem_cons_zero, List.setIfInBounds_toArray, List.set_cons_zero, List.set_cons_succ]
        refine wpAnyH_ready (rs := [19]) (by kernel_rfl) (by simp) ?_
        refine AllReadyH.cons rfl (fun K hK => ?_) AllReadyH.nil
        go_simp
        refine (F6.out _).mono ?_
        rintro e W7 ⟨A6, c6, rfl, o7, b7⟩
        have HB7 := Lib.hid (HB6.out.trans (b7.mono HB6.out.size))
        have HK7 := Lib.hid (HK6.out.same (b7.block _ HK6.out.lt))
        have HW7 := Lib.hid (rows_snoc (rows_later HW6.out b7) (own_lower0 o7 HB6.out.size))
        have HZ7 := Lib.hid (own_later HZ6.out b7)
        clear o7 b7
        (try go_wp2_with fail)
        refine hK.out _ _ ?_ (fun hHeld => ?_)
        · exact HK7.out
        clear hK K
        try simp only [Act.put, List.getElem_toArray, List.getElem_cons_succ, List.getElem_cons_zero, List.setIfInBounds_toArray, List.set_cons_zero, List.set_cons_succ]
        refine wpAnyH_ready (rs := [23]) (by kernel_rfl) (by simp) ?_
        refine AllReadyH.cons rfl (fun K hK => ?_) AllReadyH.nil
        go_simp
        refine (F7.out _).mono ?_
        rintro e W8 ⟨A7, c7, rfl, o8, b8⟩
        have HB8 := Lib.hid (HB7.out.trans (b8.mono HB7.out.size))
        have HK8 := Lib.hid (HK7.out.same (b8.block _ HK7.out.lt))
        have HW8 := Lib.hid (rows_snoc (rows_later HW7.out b8) (own_lower0 o8 HB7.out.size))
        have HZ8 := Lib.hid (own_later HZ7.out b8)
        clear o8 b8
        (try go_wp2_with fail)
        refine hK.out _ _ ?_ (fun hHeld => ?_)
        · exact HK8.out
        clear hK K
        try simp only [Act.put, List.getElem_toArray, List.getElem_cons_succ, List.getElem_cons_zero, List.setIfInBounds_toArray, List.set_cons_zero, List.set_cons_succ]
        refine wpAnyH_ready (rs := [25]) (by kernel_rfl) (by simp) ?_
        refine AllReadyH.cons rfl (fun K hK => ?_) AllReadyH.nil
        go_simp
        refine (F8.out _).mono ?_
        rintro e W9 ⟨A8, c8, rfl, o9, b9⟩
        have HB9 := Lib.hid (HB8.out.trans (b9.mono HB8.out.size))
        have HK9 := Lib.hid (HK8.out.same (b9.block _ HK8.out.lt))
        have HW9 := Lib.hid (rows_snoc (rows_later HW8.out b9) (own_lower0 o9 HB8.out.size))
        have HZ9 := Lib.hid (own_later HZ8.out b9)
        clear o9 b9
        (try go_wp2_with fail)
        refine hK.out _ _ ?_ (fun hHeld => ?_)
        · exact HK9.out
        clear hK K
        try simp only [Act.put, List.getElem_toArray, List.getElem_cons_succ, List.getElem_cons_zero, List.setIfInBounds_toArray, List.set_cons_zero, List.set_cons_succ]
        refine wpAnyH_ready (rs := [28]) (by kernel_rfl) (by simp) ?_
        refine AllReadyH.cons rfl (fun K hK => ?_) AllReadyH.nil
        go_simp
        refine (F9.out _).mono ?_
        rintro e W10 ⟨A9, c9, rfl, o10, b10⟩
        have HB10 := Lib.hid (HB9.out.trans (b10.mono HB9.out.size))
        have HK10 := Lib.hid (HK9.out.same (b10.block _ HK9.out.lt))
        have HW10 := Lib.hid (rows_snoc (rows_later HW9.out b10) (own_lower0 o10 HB9.out.size))
        have HZ10 := Lib.hid (own_later HZ9.out b10)
        clear o10 b10
        (try go_wp2_with fail)
        refine hK.out _ _ ?_ (fun hHeld => ?_)
        · exact HK10.out
        clear hK K
        try simp only [Act.put, List.getElem_toArray, List.getElem_cons_succ, List.getElem_cons_zero, List.setIfInBounds_toArray, List.set_cons_zero, List.set_cons_succ]
        refine wpAnyH_ready (rs := [29]) (by kernel_rfl) (by simp) ?_
        refine AllReadyH.cons rfl (fun K hK => ?_) AllReadyH.nil
        go_simp
        (try go_wp2_with fail)
        refine hK.out _ _ ?_ (fun hHeld => ?_)
        · exact (HK10.out.same (Below.heap_alloc _ _ _ HK10.out.lt))
        clear hK K
        try simp only [Act.put, List.getElem_toArray, List.getElem_cons_succ, List.getElem_cons_zero, List.setIfInBounds_toArray, List.set_cons_zero, List.set_cons_succ]
        refine wpAnyH_take (i := 30) (v := ?_) rfl (by kernel_rfl) (by kernel_rfl) (by kernel_rfl) (fun _ _ _ h => h) (Or.inl ⟨by rfl, ?_⟩) (by assumption) ?_
        rotate_left
        · intro wq hSw; (try dsimp only at hSw); go_simp; (try with_reducible rfl)
        simp only [Act.put, List.getElem_toArray, List.getElem_cons_succ, List.getElem_cons_zero, List.setIfInBounds_toArray, List.set_cons_zero, List.set_cons_succ]
        refine wpAnyH_done (by kernel_rfl) ?_ _
        clear hHeld
        go_wp2_with fail
        go_meet
        exact ⟨_, rfl, _, own_lower0 (own_rows10 _ _ (by simp) _ _ _ _ _ _ _ _ _ _) HB10.out.size, rfl, rows_later (rows_cons HW10.out HZ10.out) ((Below.refl _ _).alloc (Nat.le_refl _) _), HK10.out.same (Below.heap_alloc _ _ _ HK10.out.lt), HB10.out.alloc HB10.out.size _⟩
      · go_simp
        refine (F1.out _).mono ?_
        rintro e W11 ⟨A1, c1, rfl, o11, b11⟩
        have HB11 := Lib.hid (HB0.out.trans (b11.mono HB0.out.size))
        have HK11 := Lib.hid (HK0.out.same (b11.block _ HK0.out.lt))
        have HW11 := Lib.hid (rows_snoc (rows_later HW0.out b11) (own_lower0 o11 HB0.out.size))
        clear o11 b11
        (try go_wp2_with fail)
        refine hK.out _ _ ?_ (fun hHeld => ?_)
        · exact HK11.out
        clear hK K
        try simp only [Act.put, List.getElem_toArray, List.getElem_cons_succ, List.getElem_cons_zero, List.setIfInBounds_toArray, List.set_cons_zero, List.set_cons_succ]
        refine wpAnyH_ready (rs := [0, 6]) (by kernel_rfl) (by simp) ?_
        refine AllReadyH.cons rfl (fun K hK => ?_) (AllReadyH.cons rfl (fun K hK => ?_) (AllReadyH.nil))
        · go_simp
          (try go_wp2_with fail)
          refine hK.out _ _ ?_ (fun hHeld => ?_)
          · exact (HK11.out.same (Below.heap_alloc _ _ _ HK11.out.lt))
          clear hK K
          try simp only [Act.put, List.getElem_toArray, List.getElem_cons_succ, List.getElem_cons_zero, List.setIfInBounds_toArray, List.set_cons_zero, List.set_cons_succ]
          have HB12 := Lib.hid (HB11.out.alloc HB11.out.size (.cells #[.int .u8 1] 5))
          have HK12 := Lib.hid (HK11.out.same (Below.heap_alloc _ (.cells #[.int .u8 1] 5) _ HK11.out.lt))
          have HW12 := Lib.hid (rows_later HW11.out ((Below.refl _ _).alloc (Nat.le_refl _) (.cells #[.int .u8 1] 5)))
          have HZ12 := Lib.hid (own_lower0 (own_byte' _ W11.heap.size rfl 1 1 rfl) HB11.out.size)
          refine wpAnyH_ready (rs := [6]) (by kernel_rfl) (by simp) ?_
          refine AllReadyH.cons rfl (fun K hK => ?_) AllReadyH.nil
          go_simp
          refine (F2.out _).mono ?_
          rintro e W13 ⟨A2, c2, rfl, o13, b13⟩
          have HB13 := Lib.hid (HB12.out.trans (b13.mono HB12.out.size))
          have HK13 := Lib.hid (HK12.out.same (b13.block _ HK12.out.lt))
          have HW13 := Lib.hid (rows_snoc (rows_later HW12.out b13) (own_lower0 o13 HB12.out.size))
          have HZ13 := Lib.hid (own_later HZ12.out b13)
          clear o13 b13
          (try go_wp2_with fail)
          refine hK.out _ _ ?_ (fun hHeld => ?_)
          · exact HK13.out
          clear hK K
          try simp only [Act.put, List.getElem_toArray, List.getElem_cons_succ, List.getElem_cons_zero, List.setIfInBounds_toArray, List.set_cons_zero, List.set_cons_succ]
          refine wpAnyH_ready (rs := [9]) (by kernel_rfl) (by simp) ?_
          refine AllReadyH.cons rfl (fun K hK => ?_) AllReadyH.nil
          go_simp
          refine (F3.out _).mono ?_
          rintro e W14 ⟨A3, c3, rfl, o14, b14⟩
          have HB14 := Lib.hid (HB13.out.trans (b14.mono HB13.out.size))
          have HK14 := Lib.hid (HK13.out.same (b14.block _ HK13.out.lt))
          have HW14 := Lib.hid (rows_snoc (rows_later HW13.out b14) (own_lower0 o14 HB13.out.size))
          have HZ14 := Lib.hid (own_later HZ13.out b14)
          clear o14 b14
          (try go_wp2_with fail)
          refine hK.out _ _ ?_ (fun hHeld => ?_)
          · exact HK14.out
          clear hK K
          try simp only [Act.put, List.getElem_toArray, List.getElem_cons_succ, List.getElem_cons_zero, List.setIfInBounds_toArray, List.set_cons_zero, List.set_cons_succ]
          refine wpAnyH_ready (rs := [12]) (by kernel_rfl) (by simp) ?_
          refine AllReadyH.cons rfl (fun K hK => ?_) AllReadyH.nil
          go_simp
          refine (F4.out _).mono ?_
          rintro e W15 ⟨A4, c4, rfl, o15, b15⟩
          have HB15 := Lib.hid (HB14.out.trans (b15.mono HB14.out.size))
          have HK15 := Lib.hid (HK14.out.same (b15.block _ HK14.out.lt))
          have HW15 := Lib.hid (rows_snoc (rows_later HW14.out b15) (own_lower0 o15 HB14.out.size))
          have HZ15 := Lib.hid (own_later HZ14.out b15)
          clear o15 b15
          (try go_wp2_with fail)
          refine hK.out _ _ ?_ (fun hHeld => ?_)
          · exact HK15.out
          clear hK K
          try simp only [Act.put, List.getElem_toArray, List.getElem_cons_succ, List.getElem_cons_zero, List.setIfInBounds_toArray, List.set_cons_zero, List.set_cons_succ]
          refine wpAnyH_ready (rs := [15]) (by kernel_rfl) (by simp) ?_
          refine AllReadyH.cons rfl (fun K hK => ?_) AllReadyH.nil
          go_simp
          refine (F5.out _).mono ?_
          rintro e W16 ⟨A5, c5, rfl, o16, b16⟩
          have HB16 := Lib.hid (HB15.out.trans (b16.mono HB15.out.size))
          have HK16 := Lib.hid (HK15.out.same (b16.block _ HK15.out.lt))
          have HW16 := Lib.hid (rows_snoc (rows_later HW15.out b16) (own_lower0 o16 HB15.out.size))
          have HZ16 := Lib.hid (own_later HZ15.out b16)
          clear o16 b16
          (try go_wp2_with fail)
          refine hK.out _ _ ?_ (fun hHeld => ?_)
          · exact HK16.out
          clear hK K
          try simp only [Act.put, List.getElem_toArray, List.getElem_cons_succ, List.getElem_cons_zero, List.setIfInBounds_toArray, List.set_cons_zero, List.set_cons_succ]
          refine wpAnyH_ready (rs := [19]) (by kernel_rfl) (by simp) ?_
          refine AllReadyH.cons rfl (fun K hK => ?_) AllReadyH.nil
          go_simp
          refine (F6.out _).mono ?_
          rintro e W17 ⟨A6, c6, rfl, o17, b17⟩
          have HB17 := Lib.hid (HB16.out.trans (b17.mono HB16.out.size))
          have HK17 := Lib.hid (HK16.out.same (b17.block _ HK16.out.lt))
          have HW17 := Lib.hid (rows_snoc (rows_later HW16.out b17) (own_lower0 o17 HB16.out.size))
          have HZ17 := Lib.hid (own_later HZ16.out b17)
          clear o17 b17
          (try go_wp2_with fail)
          refine hK.out _ _ ?_ (fun hHeld => ?_)
          · exact HK17.out
          clear hK K
          try simp only [Act.put, List.getElem_toArray, List.getElem_cons_succ, List.getElem_cons_zero, List.setIfInBounds_toArray, List.set_cons_zero, List.set_cons_succ]
          refine wpAnyH_ready (rs := [23]) (by kernel_rfl) (by simp) ?_
          refine AllReadyH.cons rfl (fun K hK => ?_) AllReadyH.nil
          go_simp
          refine (F7.out _).mono ?_
          rintro e W18 ⟨A7, c7, rfl, o18, b18⟩
          have HB18 := Lib.hid (HB17.out.trans (b18.mono HB17.out.size))
          have HK18 := Lib.hid (HK17.out.same (b18.block _ HK17.out.lt))
          have HW18 := Lib.hid (rows_snoc (rows_later HW17.out b18) (own_lower0 o18 HB17.out.size))
          have HZ18 := Lib.hid (own_later HZ17.out b18)
          clear o18 b18
          (try go_wp2_with fail)
          refine hK.out _ _ ?_ (fun hHeld => ?_)
          · exact HK18.out
          clear hK K
          try simp only [Act.put, List.getElem_toArray, List.getElem_cons_succ, List.getElem_cons_zero, List.setIfInBounds_toArray, List.set_cons_zero, List.set_cons_succ]
          refine wpAnyH_ready (rs := [25]) (by kernel_rfl) (by simp) ?_
          refine AllReadyH.cons rfl (fun K hK => ?_) AllReadyH.nil
          go_simp
          refine (F8.out _).mono ?_
          rintro e W19 ⟨A8, c8, rfl, o19, b19⟩
          have HB19 := Lib.hid (HB18.out.trans (b19.mono HB18.out.size))
          have HK19 := Lib.hid (HK18.out.same (b19.block _ HK18.out.lt))
          have HW19 := Lib.hid (rows_snoc (rows_later HW18.out b19) (own_lower0 o19 HB18.out.size))
          have HZ19 := Lib.hid (own_later HZ18.out b19)
          clear o19 b19
          (try go_wp2_with fail)
          refine hK.out _ _ ?_ (fun hHeld => ?_)
          · exact HK19.out
          clear hK K
          try simp only [Act.put, List.getElem_toArray, List.getElem_cons_succ, List.getElem_cons_zero, List.setIfInBounds_toArray, List.set_cons_zero, List.set_cons_succ]
          refine wpAnyH_ready (rs := [28]) (by kernel_rfl) (by simp) ?_
          refine AllReadyH.cons rfl (fun K hK => ?_) AllReadyH.nil
          go_simp
          refine (F9.out _).mono ?_
          rintro e W20 ⟨A9, c9, rfl, o20, b20⟩
          have HB20 := Lib.hid (HB19.out.trans (b20.mono HB19.out.size))
          have HK20 := Lib.hid (HK19.out.same (b20.block _ HK19.out.lt))
          have HW20 := Lib.hid (rows_snoc (rows_later HW19.out b20) (own_lower0 o20 HB19.out.size))
          have HZ20 := Lib.hid (own_later HZ19.out b20)
          clear o20 b20
          (try go_wp2_with fail)
          refine hK.out _ _ ?_ (fun hHeld => ?_)
          · exact HK20.out
          clear hK K
          try simp only [Act.put, List.getElem_toArray, List.getElem_cons_succ, List.getElem_cons_zero, List.setIfInBounds_toArray, List.set_cons_zero, List.set_cons_succ]
          refine wpAnyH_ready (rs := [29]) (by kernel_rfl) (by simp) ?_
          refine AllReadyH.cons rfl (fun K hK => ?_) AllReadyH.nil
          go_simp
          (try go_wp2_with fail)
          refine hK.out _ _ ?_ (fun hHeld => ?_)
          · exact (HK20.out.same (Below.heap_alloc _ _ _ HK20.out.lt))
          clear hK K
          try simp only [Act.put, List.getElem_toArray, List.getElem_cons_succ, List.getElem_cons_zero, List.setIfInBounds_toArray, List.set_cons_zero, List.set_cons_succ]
          refine wpAnyH_take (i := 30) (v := ?_) rfl (by kernel_rfl) (by kernel_rfl) (by kernel_rfl) (fun _ _ _ h => h) (Or.inl ⟨by rfl, ?_⟩) (by assumption) ?_
          rotate_left
          · intro wq hSw; (try dsimp only at hSw); go_simp; (try with_reducible rfl)
          simp only [Act.put, List.getElem_toArray, List.getElem_cons_succ, List.getElem_cons_zero, List.setIfInBounds_toArray, List.set_cons_zero, List.set_cons_succ]
          refine wpAnyH_done (by kernel_rfl) ?_ _
          clear hHeld
          go_wp2_with fail
          go_meet
          exact ⟨_, rfl, _, own_lower0 (own_rows10 _ _ (by simp) _ _ _ _ _ _ _ _ _ _) HB20.out.size, rfl, rows_later (rows_cons HW20.out HZ20.out) ((Below.refl _ _).alloc (Nat.le_refl _) _), HK20.out.same (Below.heap_alloc _ _ _ HK20.out.lt), HB20.out.alloc HB20.out.size _⟩
        · go_simp
          refine (F2.out _).mono ?_
          rintro e W21 ⟨A2, c2, rfl, o21, b21⟩
          have HB21 := Lib.hid (HB11.out.trans (b21.mono HB11.out.size))
          have HK21 := Lib.hid (HK11.out.same (b21.block _ HK11.out.lt))
          have HW21 := Lib.hid (rows_snoc (rows_later HW11.out b21) (own_lower0 o21 HB11.out.size))
          clear o21 b21
          (try go_wp2_with fail)
          refine hK.out _ _ ?_ (fun hHeld => ?_)
          · exact HK21.out
          clear hK K
          try simp only [Act.put, List.getElem_toArray, List.getElem_cons_succ, List.getElem_cons_zero, List.setIfInBounds_toArray, List.set_cons_zero, List.set_cons_succ]
          refine wpAnyH_ready (rs := [0, 9]) (by kernel_rfl) (by simp) ?_
          refine AllReadyH.cons rfl (fun K hK => ?_) (AllReadyH.cons rfl (fun K hK => ?_) (AllReadyH.nil))
          · go_simp
            (try go_wp2_with fail)
            refine hK.out _ _ ?_ (fun hHeld => ?_)
            · exact (HK21.out.same (Below.heap_alloc _ _ _ HK21.out.lt))
            clear hK K
            try simp only [Act.put, List.getElem_toArray, List.getElem_cons_succ, List.getElem_cons_zero, List.setIfInBounds_toArray, List.set_cons_zero, List.set_cons_succ]
            have HB22 := Lib.hid (HB21.out.alloc HB21.out.size (.cells #[.int .u8 1] 5))
            have HK22 := Lib.hid (HK21.out.same (Below.heap_alloc _ (.cells #[.int .u8 1] 5) _ HK21.out.lt))
            have HW22 := Lib.hid (rows_later HW21.out ((Below.refl _ _).alloc (Nat.le_refl _) (.cells #[.int .u8 1] 5)))
            have HZ22 := Lib.hid (own_lower0 (own_byte' _ W21.heap.size rfl 1 1 rfl) HB21.out.size)
            refine wpAnyH_ready (rs := [9]) (by kernel_rfl) (by simp) ?_
            refine AllReadyH.cons rfl (fun K hK => ?_) AllReadyH.nil
            go_simp
            refine (F3.out _).mono ?_
            rintro e W23 ⟨A3, c3, rfl, o23, b23⟩
            have HB23 := Lib.hid (HB22.out.trans (b23.mono HB22.out.size))
            have HK23 := Lib.hid (HK22.out.same (b23.block _ HK22.out.lt))
            have HW23 := Lib.hid (rows_snoc (rows_later HW22.out b23) (own_lower0 o23 HB22.out.size))
            have HZ23 := Lib.hid (own_later HZ22.out b23)
            clear o23 b23
            (try go_wp2_with fail)
            refine hK.out _ _ ?_ (fun hHeld => ?_)
            · exact HK23.out
            clear hK K
            try simp only [Act.put, List.getElem_toArray, List.getElem_cons_succ, List.getElem_cons_zero, List.setIfInBounds_toArray, List.set_cons_zero, List.set_cons_succ]
            refine wpAnyH_ready (rs := [12]) (by kernel_rfl) (by simp) ?_
            refine AllReadyH.cons rfl (fun K hK => ?_) AllReadyH.nil
            go_simp
            refine (F4.out _).mono ?_
            rintro e W24 ⟨A4, c4, rfl, o24, b24⟩
            have HB24 := Lib.hid (HB23.out.trans (b24.mono HB23.out.size))
            have HK24 := Lib.hid (HK23.out.same (b24.block _ HK23.out.lt))
            have HW24 := Lib.hid (rows_snoc (rows_later HW23.out b24) (own_lower0 o24 HB23.out.size))
            have HZ24 := Lib.hid (own_later HZ23.out b24)
            clear o24 b24
            (try go_wp2_with fail)
            refine hK.out _ _ ?_ (fun hHeld => ?_)
            · exact HK24.out
            clear hK K
            try simp only [Act.put, List.getElem_toArray, List.getElem_cons_succ, List.getElem_cons_zero, List.setIfInBounds_toArray, List.set_cons_zero, List.set_cons_succ]
            refine wpAnyH_ready (rs := [15]) (by kernel_rfl) (by simp) ?_
            refine AllReadyH.cons rfl (fun K hK => ?_) AllReadyH.nil
            go_simp
            refine (F5.out _).mono ?_
            rintro e W25 ⟨A5, c5, rfl, o25, b25⟩
            have HB25 := Lib.hid (HB24.out.trans (b25.mono HB24.out.size))
            have HK25 := Lib.hid (HK24.out.same (b25.block _ HK24.out.lt))
            have HW25 := Lib.hid (rows_snoc (rows_later HW24.out b25) (own_lower0 o25 HB24.out.size))
            have HZ25 := Lib.hid (own_later HZ24.out b25)
            clear o25 b25
            (try go_wp2_with fail)
            refine hK.out _ _ ?_ (fun hHeld => ?_)
            · exact HK25.out
            clear hK K
            try simp only [Act.put, List.getElem_toArray, List.getElem_cons_succ, List.getElem_cons_zero, List.setIfInBounds_toArray, List.set_cons_zero, List.set_cons_succ]
            refine wpAnyH_ready (rs := [19]) (by kernel_rfl) (by simp) ?_
            refine AllReadyH.cons rfl (fun K hK => ?_) AllReadyH.nil
            go_simp
            refine (F6.out _).mono ?_
            rintro e W26 ⟨A6, c6, rfl, o26, b26⟩
            have HB26 := Lib.hid (HB25.out.trans (b26.mono HB25.out.size))
            have HK26 := Lib.hid (HK25.out.same (b26.block _ HK25.out.lt))
            have HW26 := Lib.hid (rows_snoc (rows_later HW25.out b26) (own_lower0 o26 HB25.out.size))
            have HZ26 := Lib.hid (own_later HZ25.out b26)
            clear o26 b26
            (try go_wp2_with fail)
            refine hK.out _ _ ?_ (fun hHeld => ?_)
            · exact HK26.out
            clear hK K
            try simp only [Act.put, List.getElem_toArray, List.getElem_cons_succ, List.getElem_cons_zero, List.setIfInBounds_toArray, List.set_cons_zero, List.set_cons_succ]
            refine wpAnyH_ready (rs := [23]) (by kernel_rfl) (by simp) ?_
            refine AllReadyH.cons rfl (fun K hK => ?_) AllReadyH.nil
            go_simp
            refine (F7.out _).mono ?_
            rintro e W27 ⟨A7, c7, rfl, o27, b27⟩
            have HB27 := Lib.hid (HB26.out.trans (b27.mono HB26.out.size))
            have HK27 := Lib.hid (HK26.out.same (b27.block _ HK26.out.lt))
            have HW27 := Lib.hid (rows_snoc (rows_later HW26.out b27) (own_lower0 o27 HB26.out.size))
            have HZ27 := Lib.hid (own_later HZ26.out b27)
            clear o27 b27
            (try go_wp2_with fail)
            refine hK.out _ _ ?_ (fun hHeld => ?_)
            · exact HK27.out
            clear hK K
            try simp only [Act.put, List.getElem_toArray, List.getElem_cons_succ, List.getElem_cons_zero, List.setIfInBounds_toArray, List.set_cons_zero, List.set_cons_succ]
            refine wpAnyH_ready (rs := [25]) (by kernel_rfl) (by simp) ?_
            refine AllReadyH.cons rfl (fun K hK => ?_) AllReadyH.nil
            go_simp
            refine (F8.out _).mono ?_
            rintro e W28 ⟨A8, c8, rfl, o28, b28⟩
            have HB28 := Lib.hid (HB27.out.trans (b28.mono HB27.out.size))
            have HK28 := Lib.hid (HK27.out.same (b28.block _ HK27.out.lt))
            have HW28 := Lib.hid (rows_snoc (rows_later HW27.out b28) (own_lower0 o28 HB27.out.size))
            have HZ28 := Lib.hid (own_later HZ27.out b28)
            clear o28 b28
            (try go_wp2_with fail)
            refine hK.out _ _ ?_ (fun hHeld => ?_)
            · exact HK28.out
            clear hK K
            try simp only [Act.put, List.getElem_toArray, List.getElem_cons_succ, List.getElem_cons_zero, List.setIfInBounds_toArray, List.set_cons_zero, List.set_cons_succ]
            refine wpAnyH_ready (rs := [28]) (by kernel_rfl) (by simp) ?_
            refine AllReadyH.cons rfl (fun K hK => ?_) AllReadyH.nil
            go_simp
            refine (F9.out _).mono ?_
            rintro e W29 ⟨A9, c9, rfl, o29, b29⟩
            have HB29 := Lib.hid (HB28.out.trans (b29.mono HB28.out.size))
            have HK29 := Lib.hid (HK28.out.same (b29.block _ HK28.out.lt))
            have HW29 := Lib.hid (rows_snoc (rows_later HW28.out b29) (own_lower0 o29 HB28.out.size))
            have HZ29 := Lib.hid (own_later HZ28.out b29)
            clear o29 b29
            (try go_wp2_with fail)
            refine hK.out _ _ ?_ (fun hHeld => ?_)
            · exact HK29.out
            clear hK K
            try simp only [Act.put, List.getElem_toArray, List.getElem_cons_succ, List.getElem_cons_zero, List.setIfInBounds_toArray, List.set_cons_zero, List.set_cons_succ]
            refine wpAnyH_ready (rs := [29]) (by kernel_rfl) (by simp) ?_
            refine AllReadyH.cons rfl (fun K hK => ?_) AllReadyH.nil
            go_simp
            (try go_wp2_with fail)
            refine hK.out _ _ ?_ (fun hHeld => ?_)
            · exact (HK29.out.same (Below.heap_alloc _ _ _ HK29.out.lt))
            clear hK K
            try simp only [Act.put, List.getElem_toArray, List.getElem_cons_succ, List.getElem_cons_zero, List.setIfInBounds_toArray, List.set_cons_zero, List.set_cons_succ]
            refine wpAnyH_take (i := 30) (v := ?_) rfl (by kernel_rfl) (by kernel_rfl) (by kernel_rfl) (fun _ _ _ h => h) (Or.inl ⟨by rfl, ?_⟩) (by assumption) ?_
            rotate_left
            · intro wq hSw; (try dsimp only at hSw); go_simp; (try with_reducible rfl)
            simp only [Act.put, List.getElem_toArray, List.getElem_cons_succ, List.getElem_cons_zero, List.setIfInBounds_toArray, List.set_cons_zero, List.set_cons_succ]
            refine wpAnyH_done (by kernel_rfl) ?_ _
            clear hHeld
            go_wp2_with fail
            go_meet
            exact ⟨_, rfl, _, own_lower0 (own_rows10 _ _ (by simp) _ _ _ _ _ _ _ _ _ _) HB29.out.size, rfl, rows_later (rows_cons HW29.out HZ29.out) ((Below.refl _ _).alloc (Nat.le_refl _) _), HK29.out.same (Below.heap_alloc _ _ _ HK29.out.lt), HB29.out.alloc HB29.out.size _⟩
          · go_simp
            refine (F3.out _).mono ?_
            rintro e W30 ⟨A3, c3, rfl, o30, b30⟩
            have HB30 := Lib.hid (HB21.out.trans (b30.mono HB21.out.size))
            have HK30 := Lib.hid (HK21.out.same (b30.block _ HK21.out.lt))
            have HW30 := Lib.hid (rows_snoc (rows_later HW21.out b30) (own_lower0 o30 HB21.out.size))
            clear o30 b30
            (try go_wp2_with fail)
            refine hK.out _ _ ?_ (fun hHeld => ?_)
            · exact HK30.out
            clear hK K
            try simp only [Act.put, List.getElem_toArray, List.getElem_cons_succ, List.getElem_cons_zero, List.setIfInBounds_toArray, List.set_cons_zero, List.set_cons_succ]
            refine wpAnyH_ready (rs := [0, 12]) (by kernel_rfl) (by simp) ?_
            refine AllReadyH.cons rfl (fun K hK => ?_) (AllReadyH.cons rfl (fun K hK => ?_) (AllReadyH.nil))
            · go_simp
              (try go_wp2_with fail)
              refine hK.out _ _ ?_ (fun hHeld => ?_)
              · exact (HK30.out.same (Below.heap_alloc _ _ _ HK30.out.lt))
              clear hK K
              try simp only [Act.put, List.getElem_toArray, List.getElem_cons_succ, List.getElem_cons_zero, List.setIfInBounds_toArray, List.set_cons_zero, List.set_cons_succ]
              have HB31 := Lib.hid (HB30.out.alloc HB30.out.size (.cells #[.int .u8 1] 5))
              have HK31 := Lib.hid (HK30.out.same (Below.heap_alloc _ (.cells #[.int .u8 1] 5) _ HK30.out.lt))
              have HW31 := Lib.hid (rows_later HW30.out ((Below.refl _ _).alloc (Nat.le_refl _) (.cells #[.int .u8 1] 5)))
              have HZ31 := Lib.hid (own_lower0 (own_byte' _ W30.heap.size rfl 1 1 rfl) HB30.out.size)
              refine wpAnyH_ready (rs := [12]) (by kernel_rfl) (by simp) ?_
              refine AllReadyH.cons rfl (fun K hK => ?_) AllReadyH.nil
              go_simp
              refine (F4.out _).mono ?_
              rintro e W32 ⟨A4, c4, rfl, o32, b32⟩
              have HB32 := Lib.hid (HB31.out.trans (b32.mono HB31.out.size))
              have HK32 := Lib.hid (HK31.out.same (b32.block _ HK31.out.lt))
              have HW32 := Lib.hid (rows_snoc (rows_later HW31.out b32) (own_lower0 o32 HB31.out.size))
              have HZ32 := Lib.hid (own_later HZ31.out b32)
              clear o32 b32
              (try go_wp2_with fail)
              refine hK.out _ _ ?_ (fun hHeld => ?_)
              · exact HK32.out
              clear hK K
              try simp only [Act.put, List.getElem_toArray, List.getElem_cons_succ, List.getElem_cons_zero, List.setIfInBounds_toArray, List.set_cons_zero, List.set_cons_succ]
              refine wpAnyH_ready (rs := [15]) (by kernel_rfl) (by simp) ?_
              refine AllReadyH.cons rfl (fun K hK => ?_) AllReadyH.nil
              go_simp
              refine (F5.out _).mono ?_
              rintro e W33 ⟨A5, c5, rfl, o33, b33⟩
              have HB33 := Lib.hid (HB32.out.trans (b33.mono HB32.out.size))
              have HK33 := Lib.hid (HK32.out.same (b33.block _ HK32.out.lt))
              have HW33 := Lib.hid (rows_snoc (rows_later HW32.out b33) (own_lower0 o33 HB32.out.size))
              have HZ33 := Lib.hid (own_later HZ32.out b33)
              clear o33 b33
              (try go_wp2_with fail)
              refine hK.out _ _ ?_ (fun hHeld => ?_)
              · exact HK33.out
              clear hK K
              try simp only [Act.put, List.getElem_toArray, List.getElem_cons_succ, List.getElem_cons_zero, List.setIfInBounds_toArray, List.set_cons_zero, List.set_cons_succ]
              refine wpAnyH_ready (rs := [19]) (by kernel_rfl) (by simp) ?_
              refine AllReadyH.cons rfl (fun K hK => ?_) AllReadyH.nil
              go_simp
              refine (F6.out _).mono ?_
              rintro e W34 ⟨A6, c6, rfl, o34, b34⟩
              have HB34 := Lib.hid (HB33.out.trans (b34.mono HB33.out.size))
              have HK34 := Lib.hid (HK33.out.same (b34.block _ HK33.out.lt))
              have HW34 := Lib.hid (rows_snoc (rows_later HW33.out b34) (own_lower0 o34 HB33.out.size))
              have HZ34 := Lib.hid (own_later HZ33.out b34)
              clear o34 b34
              (try go_wp2_with fail)
              refine hK.out _ _ ?_ (fun hHeld => ?_)
              · exact HK34.out
              clear hK K
              try simp only [Act.put, List.getElem_toArray, List.getElem_cons_succ, List.getElem_cons_zero, List.setIfInBounds_toArray, List.set_cons_zero, List.set_cons_succ]
              refine wpAnyH_ready (rs := [23]) (by kernel_rfl) (by simp) ?_
              refine AllReadyH.cons rfl (fun K hK => ?_) AllReadyH.nil
              go_simp
              refine (F7.out _).mono ?_
              rintro e W35 ⟨A7, c7, rfl, o35, b35⟩
              have HB35 := Lib.hid (HB34.out.trans (b35.mono HB34.out.size))
              have HK35 := Lib.hid (HK34.out.same (b35.block _ HK34.out.lt))
              have HW35 := Lib.hid (rows_snoc (rows_later HW34.out b35) (own_lower0 o35 HB34.out.size))
              have HZ35 := Lib.hid (own_later HZ34.out b35)
              clear o35 b35
              (try go_wp2_with fail)
              refine hK.out _ _ ?_ (fun hHeld => ?_)
              · exact HK35.out
              clear hK K
              try simp only [Act.put, List.getElem_toArray, List.getElem_cons_succ, List.getElem_cons_zero, List.setIfInBounds_toArray, List.set_cons_zero, List.set_cons_succ]
              refine wpAnyH_ready (rs := [25]) (by kernel_rfl) (by simp) ?_
              refine AllReadyH.cons rfl (fun K hK => ?_) AllReadyH.nil
              go_simp
              refine (F8.out _).mono ?_
              rintro e W36 ⟨A8, c8, rfl, o36, b36⟩
              have HB36 := Lib.hid (HB35.out.trans (b36.mono HB35.out.size))
              have HK36 := Lib.hid (HK35.out.same (b36.block _ HK35.out.lt))
              have HW36 := Lib.hid (rows_snoc (rows_later HW35.out b36) (own_lower0 o36 HB35.out.size))
              have HZ36 := Lib.hid (own_later HZ35.out b36)
              clear o36 b36
              (try go_wp2_with fail)
              refine hK.out _ _ ?_ (fun hHeld => ?_)
              · exact HK36.out
              clear hK K
              try simp only [Act.put, List.getElem_toArray, List.getElem_cons_succ, List.getElem_cons_zero, List.setIfInBounds_toArray, List.set_cons_zero, List.set_cons_succ]
              refine wpAnyH_ready (rs := [28]) (by kernel_rfl) (by simp) ?_
              refine AllReadyH.cons rfl (fun K hK => ?_) AllReadyH.nil
              go_simp
              refine (F9.out _).mono ?_
              rintro e W37 ⟨A9, c9, rfl, o37, b37⟩
              have HB37 := Lib.hid (HB36.out.trans (b37.mono HB36.out.size))
              have HK37 := Lib.hid (HK36.out.same (b37.block _ HK36.out.lt))
              have HW37 := Lib.hid (rows_snoc (rows_later HW36.out b37) (own_lower0 o37 HB36.out.size))
              have HZ37 := Lib.hid (own_later HZ36.out b37)
              clear o37 b37
              (try go_wp2_with fail)
              refine hK.out _ _ ?_ (fun hHeld => ?_)
              · exact HK37.out
              clear hK K
              try simp only [Act.put, List.getElem_toArray, List.getElem_cons_succ, List.getElem_cons_zero, List.setIfInBounds_toArray, List.set_cons_zero, List.set_cons_succ]
              refine wpAnyH_ready (rs := [29]) (by kernel_rfl) (by simp) ?_
              refine AllReadyH.cons rfl (fun K hK => ?_) AllReadyH.nil
              go_simp
              (try go_wp2_with fail)
              refine hK.out _ _ ?_ (fun hHeld => ?_)
              · exact (HK37.out.same (Below.heap_alloc _ _ _ HK37.out.lt))
              clear hK K
              try simp only [Act.put, List.getElem_toArray, List.getElem_cons_succ, List.getElem_cons_zero, List.setIfInBounds_toArray, List.set_cons_zero, List.set_cons_succ]
              refine wpAnyH_take (i := 30) (v := ?_) rfl (by kernel_rfl) (by kernel_rfl) (by kernel_rfl) (fun _ _ _ h => h) (Or.inl ⟨by rfl, ?_⟩) (by assumption) ?_
              rotate_left
              · intro wq hSw; (try dsimp only at hSw); go_simp; (try with_reducible rfl)
              simp only [Act.put, List.getElem_toArray, List.getElem_cons_succ, List.getElem_cons_zero, List.setIfInBounds_toArray, List.set_cons_zero, List.set_cons_succ]
              refine wpAnyH_done (by kernel_rfl) ?_ _
              clear hHeld
              go_wp2_with fail
              go_meet
              exact ⟨_, rfl, _, own_lower0 (own_rows10 _ _ (by simp) _ _ _ _ _ _ _ _ _ _) HB37.out.size, rfl, rows_later (rows_cons HW37.out HZ37.out) ((Below.refl _ _).alloc (Nat.le_refl _) _), HK37.out.same (Below.heap_alloc _ _ _ HK37.out.lt), HB37.out.alloc HB37.out.size _⟩
            · go_simp
              refine (F4.out _).mono ?_
              rintro e W38 ⟨A4, c4, rfl, o38, b38⟩
              have HB38 := Lib.hid (HB30.out.trans (b38.mono HB30.out.size))
              have HK38 := Lib.hid (HK30.out.same (b38.block _ HK30.out.lt))
              have HW38 := Lib.hid (rows_snoc (rows_later HW30.out b38) (own_lower0 o38 HB30.out.size))
              clear o38 b38
              (try go_wp2_with fail)
              refine hK.out _ _ ?_ (fun hHeld => ?_)
              · exact HK38.out
              clear hK K
              try simp only [Act.put, List.getElem_toArray, List.getElem_cons_succ, List.getElem_cons_zero, List.setIfInBounds_toArray, List.set_cons_zero, List.set_cons_succ]
              refine wpAnyH_ready (rs := [0, 15]) (by kernel_rfl) (by simp) ?_
              refine AllReadyH.cons rfl (fun K hK => ?_) (AllReadyH.cons rfl (fun K hK => ?_) (AllReadyH.nil))
              · go_simp
                (try go_wp2_with fail)
                refine hK.out _ _ ?_ (fun hHeld => ?_)
                · exact (HK38.out.same (Below.heap_alloc _ _ _ HK38.out.lt))
                clear hK K
                try simp only [Act.put, List.getElem_toArray, List.getElem_cons_succ, List.getElem_cons_zero, List.setIfInBounds_toArray, List.set_cons_zero, List.set_cons_succ]
                have HB39 := Lib.hid (HB38.out.alloc HB38.out.size (.cells #[.int .u8 1] 5))
                have HK39 := Lib.hid (HK38.out.same (Below.heap_alloc _ (.cells #[.int .u8 1] 5) _ HK38.out.lt))
                have HW39 := Lib.hid (rows_later HW38.out ((Below.refl _ _).alloc (Nat.le_refl _) (.cells #[.int .u8 1] 5)))
                have HZ39 := Lib.hid (own_lower0 (own_byte' _ W38.heap.size rfl 1 1 rfl) HB38.out.size)
                refine wpAnyH_ready (rs := [15]) (by kernel_rfl) (by simp) ?_
                refine AllReadyH.cons rfl (fun K hK => ?_) AllReadyH.nil
                go_simp
                refine (F5.out _).mono ?_
                rintro e W40 ⟨A5, c5, rfl, o40, b40⟩
                have HB40 := Lib.hid (HB39.out.trans (b40.mono HB39.out.size))
                have HK40 := Lib.hid (HK39.out.same (b40.block _ HK39.out.lt))
                have HW40 := Lib.hid (rows_snoc (rows_later HW39.out b40) (own_lower0 o40 HB39.out.size))
                have HZ40 := Lib.hid (own_later HZ39.out b40)
                clear o40 b40
                (try go_wp2_with fail)
                refine hK.out _ _ ?_ (fun hHeld => ?_)
                · exact HK40.out
                clear hK K
                try simp only [Act.put, List.getElem_toArray, List.getElem_cons_succ, List.getElem_cons_zero, List.setIfInBounds_toArray, List.set_cons_zero, List.set_cons_succ]
                refine wpAnyH_ready (rs := [19]) (by kernel_rfl) (by simp) ?_
                refine AllReadyH.cons rfl (fun K hK => ?_) AllReadyH.nil
                go_simp
                refine (F6.out _).mono ?_
                rintro e W41 ⟨A6, c6, rfl, o41, b41⟩
                have HB41 := Lib.hid (HB40.out.trans (b41.mono HB40.out.size))
                have HK41 := Lib.hid (HK40.out.same (b41.block _ HK40.out.lt))
                have HW41 := Lib.hid (rows_snoc (rows_later HW40.out b41) (own_lower0 o41 HB40.out.size))
                have HZ41 := Lib.hid (own_later HZ40.out b41)
                clear o41 b41
                (try go_wp2_with fail)
                refine hK.out _ _ ?_ (fun hHeld => ?_)
                · exact HK41.out
                clear hK K
                try simp only [Act.put, List.getElem_toArray, List.getElem_cons_succ, List.getElem_cons_zero, List.setIfInBounds_toArray, List.set_cons_zero, List.set_cons_succ]
                refine wpAnyH_ready (rs := [23]) (by kernel_rfl) (by simp) ?_
                refine AllReadyH.cons rfl (fun K hK => ?_) AllReadyH.nil
                go_simp
                refine (F7.out _).mono ?_
                rintro e W42 ⟨A7, c7, rfl, o42, b42⟩
                have HB42 := Lib.hid (HB41.out.trans (b42.mono HB41.out.size))
                have HK42 := Lib.hid (HK41.out.same (b42.block _ HK41.out.lt))
                have HW42 := Lib.hid (rows_snoc (rows_later HW41.out b42) (own_lower0 o42 HB41.out.size))
                have HZ42 := Lib.hid (own_later HZ41.out b42)
                clear o42 b42
                (try go_wp2_with fail)
                refine hK.out _ _ ?_ (fun hHeld => ?_)
                · exact HK42.out
                clear hK K
                try simp only [Act.put, List.getElem_toArray, List.getElem_cons_succ, List.getElem_cons_zero, List.setIfInBounds_toArray, List.set_cons_zero, List.set_cons_succ]
                refine wpAnyH_ready (rs := [25]) (by kernel_rfl) (by simp) ?_
                refine AllReadyH.cons rfl (fun K hK => ?_) AllReadyH.nil
                go_simp
                refine (F8.out _).mono ?_
                rintro e W43 ⟨A8, c8, rfl, o43, b43⟩
                have HB43 := Lib.hid (HB42.out.trans (b43.mono HB42.out.size))
                have HK43 := Lib.hid (HK42.out.same (b43.block _ HK42.out.lt))
                have HW43 := Lib.hid (rows_snoc (rows_later HW42.out b43) (own_lower0 o43 HB42.out.size))
                have HZ43 := Lib.hid (own_later HZ42.out b43)
                clear o43 b43
                (try go_wp2_with fail)
                refine hK.out _ _ ?_ (fun hHeld => ?_)
                · exact HK43.out
                clear hK K
                try simp only [Act.put, List.getElem_toArray, List.getElem_cons_succ, List.getElem_cons_zero, List.setIfInBounds_toArray, List.set_cons_zero, List.set_cons_succ]
                refine wpAnyH_ready (rs := [28]) (by kernel_rfl) (by simp) ?_
                refine AllReadyH.cons rfl (fun K hK => ?_) AllReadyH.nil
                go_simp
                refine (F9.out _).mono ?_
                rintro e W44 ⟨A9, c9, rfl, o44, b44⟩
                have HB44 := Lib.hid (HB43.out.trans (b44.mono HB43.out.size))
                have HK44 := Lib.hid (HK43.out.same (b44.block _ HK43.out.lt))
                have HW44 := Lib.hid (rows_snoc (rows_later HW43.out b44) (own_lower0 o44 HB43.out.size))
                have HZ44 := Lib.hid (own_later HZ43.out b44)
                clear o44 b44
                (try go_wp2_with fail)
                refine hK.out _ _ ?_ (fun hHeld => ?_)
                · exact HK44.out
                clear hK K
                try simp only [Act.put, List.getElem_toArray, List.getElem_cons_succ, List.getElem_cons_zero, List.setIfInBounds_toArray, List.set_cons_zero, List.set_cons_succ]
                refine wpAnyH_ready (rs := [29]) (by kernel_rfl) (by simp) ?_
                refine AllReadyH.cons rfl (fun K hK => ?_) AllReadyH.nil
                go_simp
                (try go_wp2_with fail)
                refine hK.out _ _ ?_ (fun hHeld => ?_)
                · exact (HK44.out.same (Below.heap_alloc _ _ _ HK44.out.lt))
                clear hK K
                try simp only [Act.put, List.getElem_toArray, List.getElem_cons_succ, List.getElem_cons_zero, List.setIfInBounds_toArray, List.set_cons_zero, List.set_cons_succ]
                refine wpAnyH_take (i := 30) (v := ?_) rfl (by kernel_rfl) (by kernel_rfl) (by kernel_rfl) (fun _ _ _ h => h) (Or.inl ⟨by rfl, ?_⟩) (by assumption) ?_
                rotate_left
                · intro wq hSw; (try dsimp only at hSw); go_simp; (try with_reducible rfl)
                simp only [Act.put, List.getElem_toArray, List.getElem_cons_succ, List.getElem_cons_zero, List.setIfInBounds_toArray, List.set_cons_zero, List.set_cons_succ]
                refine wpAnyH_done (by kernel_rfl) ?_ _
                clear hHeld
                go_wp2_with fail
                go_meet
                exact ⟨_, rfl, _, own_lower0 (own_rows10 _ _ (by simp) _ _ _ _ _ _ _ _ _ _) HB44.out.size, rfl, rows_later (rows_cons HW44.out HZ44.out) ((Below.refl _ _).alloc (Nat.le_refl _) _), HK44.out.same (Below.heap_alloc _ _ _ HK44.out.lt), HB44.out.alloc HB44.out.size _⟩
              · go_simp
                refine (F5.out _).mono ?_
                rintro e W45 ⟨A5, c5, rfl, o45, b45⟩
                have HB45 := Lib.hid (HB38.out.trans (b45.mono HB38.out.size))
                have HK45 := Lib.hid (HK38.out.same (b45.block _ HK38.out.lt))
                have HW45 := Lib.hid (rows_snoc (rows_later HW38.out b45) (own_lower0 o45 HB38.out.size))
                clear o45 b45
                (try go_wp2_with fail)
                refine hK.out _ _ ?_ (fun hHeld => ?_)
                · exact HK45.out
                clear hK K
                try simp only [Act.put, List.getElem_toArray, List.getElem_cons_succ, List.getElem_cons_zero, List.setIfInBounds_toArray, List.set_cons_zero, List.set_cons_succ]
                refine wpAnyH_ready (rs := [0, 19]) (by kernel_rfl) (by simp) ?_
                refine AllReadyH.cons rfl (fun K hK => ?_) (AllReadyH.cons rfl (fun K hK => ?_) (AllReadyH.nil))
                · go_simp
                  (try go_wp2_with fail)
                  refine hK.out _ _ ?_ (fun hHeld => ?_)
                  · exact (HK45.out.same (Below.heap_alloc _ _ _ HK45.out.lt))
                  clear hK K
                  try simp only [Act.put, List.getElem_toArray, List.getElem_cons_succ, List.getElem_cons_zero, List.setIfInBounds_toArray, List.set_cons_zero, List.set_cons_succ]
                  have HB46 := Lib.hid (HB45.out.alloc HB45.out.size (.cells #[.int .u8 1] 5))
                  have HK46 := Lib.hid (HK45.out.same (Below.heap_alloc _ (.cells #[.int .u8 1] 5) _ HK45.out.lt))
                  have HW46 := Lib.hid (rows_later HW45.out ((Below.refl _ _).alloc (Nat.le_refl _) (.cells #[.int .u8 1] 5)))
                  have HZ46 := Lib.hid (own_lower0 (own_byte' _ W45.heap.size rfl 1 1 rfl) HB45.out.size)
                  refine wpAnyH_ready (rs := [19]) (by kernel_rfl) (by simp) ?_
                  refine AllReadyH.cons rfl (fun K hK => ?_) AllReadyH.nil
                  go_simp
                  refine (F6.out _).mono ?_
                  rintro e W47 ⟨A6, c6, rfl, o47, b47⟩
                  have HB47 := Lib.hid (HB46.out.trans (b47.mono HB46.out.size))
                  have HK47 := Lib.hid (HK46.out.same (b47.block _ HK46.out.lt))
                  have HW47 := Lib.hid (rows_snoc (rows_later HW46.out b47) (own_lower0 o47 HB46.out.size))
                  have HZ47 := Lib.hid (own_later HZ46.out b47)
                  clear o47 b47
                  (try go_wp2_with fail)
                  refine hK.out _ _ ?_ (fun hHeld => ?_)
                  · exact HK47.out
                  clear hK K
                  try simp only [Act.put, List.getElem_toArray, List.getElem_cons_succ, List.getElem_cons_zero, List.setIfInBounds_toArray, List.set_cons_zero, List.set_cons_succ]
                  refine wpAnyH_ready (rs := [23]) (by kernel_rfl) (by simp) ?_
                  refine AllReadyH.cons rfl (fun K hK => ?_) AllReadyH.nil
                  go_simp
                  refine (F7.out _).mono ?_
                  rintro e W48 ⟨A7, c7, rfl, o48, b48⟩
                  have HB48 := Lib.hid (HB47.out.trans (b48.mono HB47.out.size))
                  have HK48 := Lib.hid (HK47.out.same (b48.block _ HK47.out.lt))
                  have HW48 := Lib.hid (rows_snoc (rows_later HW47.out b48) (own_lower0 o48 HB47.out.size))
                  have HZ48 := Lib.hid (own_later HZ47.out b48)
                  clear o48 b48
                  (try go_wp2_with fail)
                  refine hK.out _ _ ?_ (fun hHeld => ?_)
                  · exact HK48.out
                  clear hK K
                  try simp only [Act.put, List.getElem_toArray, List.getElem_cons_succ, List.getElem_cons_zero, List.setIfInBounds_toArray, List.set_cons_zero, List.set_cons_succ]
                  refine wpAnyH_ready (rs := [25]) (by kernel_rfl) (by simp) ?_
                  refine AllReadyH.cons rfl (fun K hK => ?_) AllReadyH.nil
                  go_simp
                  refine (F8.out _).mono ?_
                  rintro e W49 ⟨A8, c8, rfl, o49, b49⟩
                  have HB49 := Lib.hid (HB48.out.trans (b49.mono HB48.out.size))
                  have HK49 := Lib.hid (HK48.out.same (b49.block _ HK48.out.lt))
                  have HW49 := Lib.hid (rows_snoc (rows_later HW48.out b49) (own_lower0 o49 HB48.out.size))
                  have HZ49 := Lib.hid (own_later HZ48.out b49)
                  clear o49 b49
                  (try go_wp2_with fail)
                  refine hK.out _ _ ?_ (fun hHeld => ?_)
                  · exact HK49.out
                  clear hK K
                  try simp only [Act.put, List.getElem_toArray, List.getElem_cons_succ, List.getElem_cons_zero, List.setIfInBounds_toArray, List.set_cons_zero, List.set_cons_succ]
                  refine wpAnyH_ready (rs := [28]) (by kernel_rfl) (by simp) ?_
                  refine AllReadyH.cons rfl (fun K hK => ?_) AllReadyH.nil
                  go_simp
                  refine (F9.out _).mono ?_
                  rintro e W50 ⟨A9, c9, rfl, o50, b50⟩
                  have HB50 := Lib.hid (HB49.out.trans (b50.mono HB49.out.size))
                  have HK50 := Lib.hid (HK49.out.same (b50.block _ HK49.out.lt))
                  have HW50 := Lib.hid (rows_snoc (rows_later HW49.out b50) (own_lower0 o50 HB49.out.size))
                  have HZ50 := Lib.hid (own_later HZ49.out b50)
                  clear o50 b50
                  (try go_wp2_with fail)
                  refine hK.out _ _ ?_ (fun hHeld => ?_)
                  · exact HK50.out
                  clear hK K
                  try simp only [Act.put, List.getElem_toArray, List.getElem_cons_succ, List.getElem_cons_zero, List.setIfInBounds_toArray, List.set_cons_zero, List.set_cons_succ]
                  refine wpAnyH_ready (rs := [29]) (by kernel_rfl) (by simp) ?_
                  refine AllReadyH.cons rfl (fun K hK => ?_) AllReadyH.nil
                  go_simp
                  (try go_wp2_with fail)
                  refine hK.out _ _ ?_ (fun hHeld => ?_)
                  · exact (HK50.out.same (Below.heap_alloc _ _ _ HK50.out.lt))
                  clear hK K
                  try simp only [Act.put, List.getElem_toArray, List.getElem_cons_succ, List.getElem_cons_zero, List.setIfInBounds_toArray, List.set_cons_zero, List.set_cons_succ]
                  refine wpAnyH_take (i := 30) (v := ?_) rfl (by kernel_rfl) (by kernel_rfl) (by kernel_rfl) (fun _ _ _ h => h) (Or.inl ⟨by rfl, ?_⟩) (by assumption) ?_
                  rotate_left
                  · intro wq hSw; (try dsimp only at hSw); go_simp; (try with_reducible rfl)
                  simp only [Act.put, List.getElem_toArray, List.getElem_cons_succ, List.getElem_cons_zero, List.setIfInBounds_toArray, List.set_cons_zero, List.set_cons_succ]
                  refine wpAnyH_done (by kernel_rfl) ?_ _
                  clear hHeld
                  go_wp2_with fail
                  go_meet
                  exact ⟨_, rfl, _, own_lower0 (own_rows10 _ _ (by simp) _ _ _ _ _ _ _ _ _ _) HB50.out.size, rfl, rows_later (rows_cons HW50.out HZ50.out) ((Below.refl _ _).alloc (Nat.le_refl _) _), HK50.out.same (Below.heap_alloc _ _ _ HK50.out.lt), HB50.out.alloc HB50.out.size _⟩
                · go_simp
                  refine (F6.out _).mono ?_
                  rintro e W51 ⟨A6, c6, rfl, o51, b51⟩
                  have HB51 := Lib.hid (HB45.out.trans (b51.mono HB45.out.size))
                  have HK51 := Lib.hid (HK45.out.same (b51.block _ HK45.out.lt))
                  have HW51 := Lib.hid (rows_snoc (rows_later HW45.out b51) (own_lower0 o51 HB45.out.size))
                  clear o51 b51
                  (try go_wp2_with fail)
                  refine hK.out _ _ ?_ (fun hHeld => ?_)
                  · exact HK51.out
                  clear hK K
                  try simp only [Act.put, List.getElem_toArray, List.getElem_cons_succ, List.getElem_cons_zero, List.setIfInBounds_toArray, List.set_cons_zero, List.set_cons_succ]
                  refine wpAnyH_ready (rs := [0, 23]) (by kernel_rfl) (by simp) ?_
                  refine AllReadyH.cons rfl (fun K hK => ?_) (AllReadyH.cons rfl (fun K hK => ?_) (AllReadyH.nil))
                  · go_simp
                    (try go_wp2_with fail)
                    refine hK.out _ _ ?_ (fun hHeld => ?_)
                    · exact (HK51.out.same (Below.heap_alloc _ _ _ HK51.out.lt))
                    clear hK K
                    try simp only [Act.put, List.getElem_toArray, List.getElem_cons_succ, List.getElem_cons_zero, List.setIfInBounds_toArray, List.set_cons_zero, List.set_cons_succ]
                    have HB52 := Lib.hid (HB51.out.alloc HB51.out.size (.cells #[.int .u8 1] 5))
                    have HK52 := Lib.hid (HK51.out.same (Below.heap_alloc _ (.cells #[.int .u8 1] 5) _ HK51.out.lt))
                    have HW52 := Lib.hid (rows_later HW51.out ((Below.refl _ _).alloc (Nat.le_refl _) (.cells #[.int .u8 1] 5)))
                    have HZ52 := Lib.hid (own_lower0 (own_byte' _ W51.heap.size rfl 1 1 rfl) HB51.out.size)
                    refine wpAnyH_ready (rs := [23]) (by kernel_rfl) (by simp) ?_
                    refine AllReadyH.cons rfl (fun K hK => ?_) AllReadyH.nil
                    go_simp
                    refine (F7.out _).mono ?_
                    rintro e W53 ⟨A7, c7, rfl, o53, b53⟩
                    have HB53 := Lib.hid (HB52.out.trans (b53.mono HB52.out.size))
                    have HK53 := Lib.hid (HK52.out.same (b53.block _ HK52.out.lt))
                    have HW53 := Lib.hid (rows_snoc (rows_later HW52.out b53) (own_lower0 o53 HB52.out.size))
                    have HZ53 := Lib.hid (own_later HZ52.out b53)
                    clear o53 b53
                    (try go_wp2_with fail)
                    refine hK.out _ _ ?_ (fun hHeld => ?_)
                    · exact HK53.out
                    clear hK K
                    try simp only [Act.put, List.getElem_toArray, List.getElem_cons_succ, List.getElem_cons_zero, List.setIfInBounds_toArray, List.set_cons_zero, List.set_cons_succ]
                    refine wpAnyH_ready (rs := [25]) (by kernel_rfl) (by simp) ?_
                    refine AllReadyH.cons rfl (fun K hK => ?_) AllReadyH.nil
                    go_simp
                    refine (F8.out _).mono ?_
                    rintro e W54 ⟨A8, c8, rfl, o54, b54⟩
                    have HB54 := Lib.hid (HB53.out.trans (b54.mono HB53.out.size))
                    have HK54 := Lib.hid (HK53.out.same (b54.block _ HK53.out.lt))
                    have HW54 := Lib.hid (rows_snoc (rows_later HW53.out b54) (own_lower0 o54 HB53.out.size))
                    have HZ54 := Lib.hid (own_later HZ53.out b54)
                    clear o54 b54
                    (try go_wp2_with fail)
                    refine hK.out _ _ ?_ (fun hHeld => ?_)
                    · exact HK54.out
                    clear hK K
                    try simp only [Act.put, List.getElem_toArray, List.getElem_cons_succ, List.getElem_cons_zero, List.setIfInBounds_toArray, List.set_cons_zero, List.set_cons_succ]
                    refine wpAnyH_ready (rs := [28]) (by kernel_rfl) (by simp) ?_
                    refine AllReadyH.cons rfl (fun K hK => ?_) AllReadyH.nil
                    go_simp
                    refine (F9.out _).mono ?_
                    rintro e W55 ⟨A9, c9, rfl, o55, b55⟩
                    have HB55 := Lib.hid (HB54.out.trans (b55.mono HB54.out.size))
                    have HK55 := Lib.hid (HK54.out.same (b55.block _ HK54.out.lt))
                    have HW55 := Lib.hid (rows_snoc (rows_later HW54.out b55) (own_lower0 o55 HB54.out.size))
                    have HZ55 := Lib.hid (own_later HZ54.out b55)
                    clear o55 b55
                    (try go_wp2_with fail)
                    refine hK.out _ _ ?_ (fun hHeld => ?_)
                    · exact HK55.out
                    clear hK K
                    try simp only [Act.put, List.getElem_toArray, List.getElem_cons_succ, List.getElem_cons_zero, List.setIfInBounds_toArray, List.set_cons_zero, List.set_cons_succ]
                    refine wpAnyH_ready (rs := [29]) (by kernel_rfl) (by simp) ?_
                    refine AllReadyH.cons rfl (fun K hK => ?_) AllReadyH.nil
                    go_simp
                    (try go_wp2_with fail)
                    refine hK.out _ _ ?_ (fun hHeld => ?_)
                    · exact (HK55.out.same (Below.heap_alloc _ _ _ HK55.out.lt))
                    clear hK K
                    try simp only [Act.put, List.getElem_toArray, List.getElem_cons_succ, List.getElem_cons_zero, List.setIfInBounds_toArray, List.set_cons_zero, List.set_cons_succ]
                    refine wpAnyH_take (i := 30) (v := ?_) rfl (by kernel_rfl) (by kernel_rfl) (by kernel_rfl) (fun _ _ _ h => h) (Or.inl ⟨by rfl, ?_⟩) (by assumption) ?_
                    rotate_left
                    · intro wq hSw; (try dsimp only at hSw); go_simp; (try with_reducible rfl)
                    simp only [Act.put, List.getElem_toArray, List.getElem_cons_succ, List.getElem_cons_zero, List.setIfInBounds_toArray, List.set_cons_zero, List.set_cons_succ]
                    refine wpAnyH_done (by kernel_rfl) ?_ _
                    clear hHeld
                    go_wp2_with fail
                    go_meet
                    exact ⟨_, rfl, _, own_lower0 (own_rows10 _ _ (by simp) _ _ _ _ _ _ _ _ _ _) HB55.out.size, rfl, rows_later (rows_cons HW55.out HZ55.out) ((Below.refl _ _).alloc (Nat.le_refl _) _), HK55.out.same (Below.heap_alloc _ _ _ HK55.out.lt), HB55.out.alloc HB55.out.size _⟩
                  · go_simp
                    refine (F7.out _).mono ?_
                    rintro e W56 ⟨A7, c7, rfl, o56, b56⟩
                    have HB56 := Lib.hid (HB51.out.trans (b56.mono HB51.out.size))
                    have HK56 := Lib.hid (HK51.out.same (b56.block _ HK51.out.lt))
                    have HW56 := Lib.hid (rows_snoc (rows_later HW51.out b56) (own_lower0 o56 HB51.out.size))
                    clear o56 b56
                    (try go_wp2_with fail)
                    refine hK.out _ _ ?_ (fun hHeld => ?_)
                    · exact HK56.out
                    clear hK K
                    try simp only [Act.put, List.getElem_toArray, List.getElem_cons_succ, List.getElem_cons_zero, List.setIfInBounds_toArray, List.set_cons_zero, List.set_cons_succ]
                    refine wpAnyH_ready (rs := [0, 25]) (by kernel_rfl) (by simp) ?_
                    refine AllReadyH.cons rfl (fun K hK => ?_) (AllReadyH.cons rfl (fun K hK => ?_) (AllReadyH.nil))
                    · go_simp
                      (try go_wp2_with fail)
                      refine hK.out _ _ ?_ (fun hHeld => ?_)
                      · exact (HK56.out.same (Below.heap_alloc _ _ _ HK56.out.lt))
                      clear hK K
                      try simp only [Act.put, List.getElem_toArray, List.getElem_cons_succ, List.getElem_cons_zero, List.setIfInBounds_toArray, List.set_cons_zero, List.set_cons_succ]
                      have HB57 := Lib.hid (HB56.out.alloc HB56.out.size (.cells #[.int .u8 1] 5))
                      have HK57 := Lib.hid (HK56.out.same (Below.heap_alloc _ (.cells #[.int .u8 1] 5) _ HK56.out.lt))
                      have HW57 := Lib.hid (rows_later HW56.out ((Below.refl _ _).alloc (Nat.le_refl _) (.cells #[.int .u8 1] 5)))
                      have HZ57 := Lib.hid (own_lower0 (own_byte' _ W56.heap.size rfl 1 1 rfl) HB56.out.size)
                      refine wpAnyH_ready (rs := [25]) (by kernel_rfl) (by simp) ?_
                      refine AllReadyH.cons rfl (fun K hK => ?_) AllReadyH.nil
                      go_simp
                      refine (F8.out _).mono ?_
                      rintro e W58 ⟨A8, c8, rfl, o58, b58⟩
                      have HB58 := Lib.hid (HB57.out.trans (b58.mono HB57.out.size))
                      have HK58 := Lib.hid (HK57.out.same (b58.block _ HK57.out.lt))
                      have HW58 := Lib.hid (rows_snoc (rows_later HW57.out b58) (own_lower0 o58 HB57.out.size))
                      have HZ58 := Lib.hid (own_later HZ57.out b58)
                      clear o58 b58
                      (try go_wp2_with fail)
                      refine hK.out _ _ ?_ (fun hHeld => ?_)
                      · exact HK58.out
                      clear hK K
                      try simp only [Act.put, List.getElem_toArray, List.getElem_cons_succ, List.getElem_cons_zero, List.setIfInBounds_toArray, List.set_cons_zero, List.set_cons_succ]
                      refine wpAnyH_ready (rs := [28]) (by kernel_rfl) (by simp) ?_
                      refine AllReadyH.cons rfl (fun K hK => ?_) AllReadyH.nil
                      go_simp
                      refine (F9.out _).mono ?_
                      rintro e W59 ⟨A9, c9, rfl, o59, b59⟩
                      have HB59 := Lib.hid (HB58.out.trans (b59.mono HB58.out.size))
                      have HK59 := Lib.hid (HK58.out.same (b59.block _ HK58.out.lt))
                      have HW59 := Lib.hid (rows_snoc (rows_later HW58.out b59) (own_lower0 o59 HB58.out.size))
                      have HZ59 := Lib.hid (own_later HZ58.out b59)
                      clear o59 b59
                      (try go_wp2_with fail)
                      refine hK.out _ _ ?_ (fun hHeld => ?_)
                      · exact HK59.out
                      clear hK K
                      try simp only [Act.put, List.getElem_toArray, List.getElem_cons_succ, List.getElem_cons_zero, List.setIfInBounds_toArray, List.set_cons_zero, List.set_cons_succ]
                      refine wpAnyH_ready (rs := [29]) (by kernel_rfl) (by simp) ?_
                      refine AllReadyH.cons rfl (fun K hK => ?_) AllReadyH.nil
                      go_simp
                      (try go_wp2_with fail)
                      refine hK.out _ _ ?_ (fun hHeld => ?_)
                      · exact (HK59.out.same (Below.heap_alloc _ _ _ HK59.out.lt))
                      clear hK K
                      try simp only [Act.put, List.getElem_toArray, List.getElem_cons_succ, List.getElem_cons_zero, List.setIfInBounds_toArray, List.set_cons_zero, List.set_cons_succ]
                      refine wpAnyH_take (i := 30) (v := ?_) rfl (by kernel_rfl) (by kernel_rfl) (by kernel_rfl) (fun _ _ _ h => h) (Or.inl ⟨by rfl, ?_⟩) (by assumption) ?_
                      rotate_left
                      · intro wq hSw; (try dsimp only at hSw); go_simp; (try with_reducible rfl)
                      simp only [Act.put, List.getElem_toArray, List.getElem_cons_succ, List.getElem_cons_zero, List.setIfInBounds_toArray, List.set_cons_zero, List.set_cons_succ]
                      refine wpAnyH_done (by kernel_rfl) ?_ _
                      clear hHeld
                      go_wp2_with fail
                      go_meet
                      exact ⟨_, rfl, _, own_lower0 (own_rows10 _ _ (by simp) _ _ _ _ _ _ _ _ _ _) HB59.out.size, rfl, rows_later (rows_cons HW59.out HZ59.out) ((Below.refl _ _).alloc (Nat.le_refl _) _), HK59.out.same (Below.heap_alloc _ _ _ HK59.out.lt), HB59.out.alloc HB59.out.size _⟩
                    · go_simp
                      refine (F8.out _).mono ?_
                      rintro e W60 ⟨A8, c8, rfl, o60, b60⟩
                      have HB60 := Lib.hid (HB56.out.trans (b60.mono HB56.out.size))
                      have HK60 := Lib.hid (HK56.out.same (b60.block _ HK56.out.lt))
                      have HW60 := Lib.hid (rows_snoc (rows_later HW56.out b60) (own_lower0 o60 HB56.out.size))
                      clear o60 b60
                      (try go_wp2_with fail)
                      refine hK.out _ _ ?_ (fun hHeld => ?_)
                      · exact HK60.out
                      clear hK K
                      try simp only [Act.put, List.getElem_toArray, List.getElem_cons_succ, List.getElem_cons_zero, List.setIfInBounds_toArray, List.set_cons_zero, List.set_cons_succ]
                      refine wpAnyH_ready (rs := [0, 28]) (by kernel_rfl) (by simp) ?_
                      refine AllReadyH.cons rfl (fun K hK => ?_) (AllReadyH.cons rfl (fun K hK => ?_) (AllReadyH.nil))
                      · go_simp
                        (try go_wp2_with fail)
                        refine hK.out _ _ ?_ (fun hHeld => ?_)
                        · exact (HK60.out.same (Below.heap_alloc _ _ _ HK60.out.lt))
                        clear hK K
                        try simp only [Act.put, List.getElem_toArray, List.getElem_cons_succ, List.getElem_cons_zero, List.setIfInBounds_toArray, List.set_cons_zero, List.set_cons_succ]
                        have HB61 := Lib.hid (HB60.out.alloc HB60.out.size (.cells #[.int .u8 1] 5))
                        have HK61 := Lib.hid (HK60.out.same (Below.heap_alloc _ (.cells #[.int .u8 1] 5) _ HK60.out.lt))
                        have HW61 := Lib.hid (rows_later HW60.out ((Below.refl _ _).alloc (Nat.le_refl _) (.cells #[.int .u8 1] 5)))
                        have HZ61 := Lib.hid (own_lower0 (own_byte' _ W60.heap.size rfl 1 1 rfl) HB60.out.size)
                        refine wpAnyH_ready (rs := [28]) (by kernel_rfl) (by simp) ?_
                        refine AllReadyH.cons rfl (fun K hK => ?_) AllReadyH.nil
                        go_simp
                        refine (F9.out _).mono ?_
                        rintro e W62 ⟨A9, c9, rfl, o62, b62⟩
                        have HB62 := Lib.hid (HB61.out.trans (b62.mono HB61.out.size))
                        have HK62 := Lib.hid (HK61.out.same (b62.block _ HK61.out.lt))
                        have HW62 := Lib.hid (rows_snoc (rows_later HW61.out b62) (own_lower0 o62 HB61.out.size))
                        have HZ62 := Lib.hid (own_later HZ61.out b62)
                        clear o62 b62
                        (try go_wp2_with fail)
                        refine hK.out _ _ ?_ (fun hHeld => ?_)
                        · exact HK62.out
                        clear hK K
                        try simp only [Act.put, List.getElem_toArray, List.getElem_cons_succ, List.getElem_cons_zero, List.setIfInBounds_toArray, List.set_cons_zero, List.set_cons_succ]
                        refine wpAnyH_ready (rs := [29]) (by kernel_rfl) (by simp) ?_
                        refine AllReadyH.cons rfl (fun K hK => ?_) AllReadyH.nil
                        go_simp
                        (try go_wp2_with fail)
                        refine hK.out _ _ ?_ (fun hHeld => ?_)
                        · exact (HK62.out.same (Below.heap_alloc _ _ _ HK62.out.lt))
                        clear hK K
                        try simp only [Act.put, List.getElem_toArray, List.getElem_cons_succ, List.getElem_cons_zero, List.setIfInBounds_toArray, List.set_cons_zero, List.set_cons_succ]
                        refine wpAnyH_take (i := 30) (v := ?_) rfl (by kernel_rfl) (by kernel_rfl) (by kernel_rfl) (fun _ _ _ h => h) (Or.inl ⟨by rfl, ?_⟩) (by assumption) ?_
                        rotate_left
                        · intro wq hSw; (try dsimp only at hSw); go_simp; (try with_reducible rfl)
                        simp only [Act.put, List.getElem_toArray, List.getElem_cons_succ, List.getElem_cons_zero, List.setIfInBounds_toArray, List.set_cons_zero, List.set_cons_succ]
                        refine wpAnyH_done (by kernel_rfl) ?_ _
                        clear hHeld
                        go_wp2_with fail
                        go_meet
                        exact ⟨_, rfl, _, own_lower0 (own_rows10 _ _ (by simp) _ _ _ _ _ _ _ _ _ _) HB62.out.size, rfl, rows_later (rows_cons HW62.out HZ62.out) ((Below.refl _ _).alloc (Nat.le_refl _) _), HK62.out.same (Below.heap_alloc _ _ _ HK62.out.lt), HB62.out.alloc HB62.out.size _⟩
                      · go_simp
                        refine (F9.out _).mono ?_
                        rintro e W63 ⟨A9, c9, rfl, o63, b63⟩
                        have HB63 := Lib.hid (HB60.out.trans (b63.mono HB60.out.size))
                        have HK63 := Lib.hid (HK60.out.same (b63.block _ HK60.out.lt))
                        have HW63 := Lib.hid (rows_snoc (rows_later HW60.out b63) (own_lower0 o63 HB60.out.size))
                        clear o63 b63
                        (try go_wp2_with fail)
                        refine hK.out _ _ ?_ (fun hHeld => ?_)
                        · exact HK63.out
                        clear hK K
                        try simp only [Act.put, List.getElem_toArray, List.getElem_cons_succ, List.getElem_cons_zero, List.setIfInBounds_toArray, List.set_cons_zero, List.set_cons_succ]
                        refine wpAnyH_ready (rs := [0]) (by kernel_rfl) (by simp) ?_
                        refine AllReadyH.cons rfl (fun K hK => ?_) AllReadyH.nil
                        go_simp
                        (try go_wp2_with fail)
                        refine hK.out _ _ ?_ (fun hHeld => ?_)
                        · exact (HK63.out.same (Below.heap_alloc _ _ _ HK63.out.lt))
                        clear hK K
                        try simp only [Act.put, List.getElem_toArray, List.getElem_cons_succ, List.getElem_cons_zero, List.setIfInBounds_toArray, List.set_cons_zero, List.set_cons_succ]
                        have HB64 := Lib.hid (HB63.out.alloc HB63.out.size (.cells #[.int .u8 1] 5))
                        have HK64 := Lib.hid (HK63.out.same (Below.heap_alloc _ (.cells #[.int .u8 1] 5) _ HK63.out.lt))
                        have HW64 := Lib.hid (rows_later HW63.out ((Below.refl _ _).alloc (Nat.le_refl _) (.cells #[.int .u8 1] 5)))
                        have HZ64 := Lib.hid (own_lower0 (own_byte' _ W63.heap.size rfl 1 1 rfl) HB63.out.size)
                        refine wpAnyH_ready (rs := [29]) (by kernel_rfl) (by simp) ?_
                        refine AllReadyH.cons rfl (fun K hK => ?_) AllReadyH.nil
                        go_simp
                        (try go_wp2_with fail)
                        refine hK.out _ _ ?_ (fun hHeld => ?_)
                        · exact (HK64.out.same (Below.heap_alloc _ _ _ HK64.out.lt))
                        clear hK K
                        try simp only [Act.put, List.getElem_toArray, List.getElem_cons_succ, List.getElem_cons_zero, List.setIfInBounds_toArray, List.set_cons_zero, List.set_cons_succ]
                        refine wpAnyH_take (i := 30) (v := ?_) rfl (by kernel_rfl) (by kernel_rfl) (by kernel_rfl) (fun _ _ _ h => h) (Or.inl ⟨by rfl, ?_⟩) (by assumption) ?_
                        rotate_left
                        · intro wq hSw; (try dsimp only at hSw); go_simp; (try with_reducible rfl)
                        simp only [Act.put, List.getElem_toArray, List.getElem_cons_succ, List.getElem_cons_zero, List.setIfInBounds_toArray, List.set_cons_zero, List.set_cons_succ]
                        refine wpAnyH_done (by kernel_rfl) ?_ _
                        clear hHeld
                        go_wp2_with fail
                        go_meet
                        exact ⟨_, rfl, _, own_lower0 (own_rows10 _ _ (by simp) _ _ _ _ _ _ _ _ _ _) HB64.out.size, rfl, rows_later (rows_cons HW64.out HZ64.out) ((Below.refl _ _).alloc (Nat.le_refl _) _), HK64.out.same (Below.heap_alloc _ _ _ HK64.out.lt), HB64.out.alloc HB64.out.size _⟩
    case rest =>
      obtain ⟨g10, rfl, hten⟩ := hcut
      obtain ⟨vs0, ho0, hl0, hw0, hk0, hbb0⟩ := hten
      have HO := Lib.hid ho0
      have HW := Lib.hid hw0
      have HK := Lib.hid hk0
      obtain ⟨i0, hi0, hz0', hz1', hz2'⟩ := info_parts info_row
      rw [hl0] at HO
      clear ho0 hw0 hk0 HB0 HK0 HW0 hB0 hK0 F1 F2 F3 F4 F5 F6 F7 F8 F9
      go_wp2_with fail
      go_loopw [4, 5] (fun v b wr => ∃ (i : Nat) (g c : Nat) (vs : List Value), i ≤ n ∧ v = .slice (some ⟨g, 0, none⟩) (10 + i) c ∧ b = .int .i64 (i : Int) ∧ Hid (vs.length = 10 + i) ∧ Hid (wr.ownsRow w.heap.size 22 1 (.slice (some ⟨g, 0, none⟩) (10 + i) c) (10 + i) vs) ∧ Hid (RowsOf wr w.heap.size vs ([[1], z1, z2, z3, z4, z5, z6, z7, z8, z9] ++ attrRows (l.take i))) ∧ Hid (Blk wr w.heap.size #[.int .u64 (hi : Int), .int .u64 (lo : Int), .int .u64 (id : Int), .int .u64 (par : Int), .string name, .int .i64 (st : Int), .int .i64 (sp : Int), .bool bad, .slice A n cap, .int .u64 (rv : Int)] 26) ∧ Below w.heap.size w wr) (fun _ b _ => n - (intOf b).toNat)
      case atStart => exact ⟨0, g10, 10, vs0, by omega, rfl, rfl, Lib.hid hl0, HO, Lib.hid (by simpa [attrRows] using HW.out), HK, hbb0⟩
      case round =>
        obtain ⟨i, g, c, vs, hil, rfl, rfl, hvl, hO, hW, hK, hB⟩ := hrel
        clear HO HW HK
        have x8 := hK.out.cell 8 rfl
        have hKl := hK.out.lt
        by_cases hlt : i < n
        · have dl : decide ((i : Int) < (n : Int)) = true := by simp; omega
          have dl' : decide (i < n) = true := by simp; omega
          obtain ⟨b, off, hA, hbl, hcell⟩ := (HR.out.below hB) (by rw [HN.out]; omega)
          obtain ⟨hc1, hc2, _, _⟩ := hcell i (by rw [HN.out]; exact hlt)
          have hin : l.getD i (none8, none8) ∈ l := by
            rw [List.getD_eq_getElem?_getD, List.getElem?_eq_getElem (by rw [HN.out]; exact hlt)]; simp
          have hsz := HALL.out _ hin
          have htk : l.take (i + 1) = l.take i ++ [l.getD i (none8, none8)] := by
            rw [List.take_succ_eq_append_getElem (by rw [HN.out]; exact hlt)]
            simp [List.getD_eq_getElem?_getD, show i < l.length by rw [HN.out]; exact hlt]
          obtain ⟨a, ha⟩ : ∃ a, l.getD i (none8, none8) = a := ⟨_, rfl⟩
          rw [ha] at hc1 hc2 hsz htk
          obtain ⟨key, val⟩ := a
          dsimp only at hc1 hc2 hsz
          subst hA
          obtain ⟨hs1, hs2, hs3⟩ := hsz
          have pk := fun W => refPutText_holds key W (by omega)
          obtain ⟨lk, hlk⟩ : ∃ lk, (putText key.data.toList).length = lk := ⟨_, rfl⟩
          rw [hlk] at pk
          obtain ⟨kt, hkt⟩ : ∃ kt : ByteArray, kt = ⟨(putText key.data.toList).toArray⟩ := ⟨_, rfl⟩
          obtain ⟨tx, htx⟩ : ∃ tx : ByteArray, tx = kt ++ val := ⟨_, rfl⟩
          have hkl : (putText key.data.toList).length = 1 + key.size := by unfold putText; rw [size_list, put_lt (by omega)]; simp; omega
          have hks : kt.size = 1 + key.size := by rw [← size_list, hkt]; simpa using hkl
          have htxl : tx.data.toList = attrText (key, val) := by rw [htx, hkt]; simp [attrText, putText]
          have htxs : tx.size ≤ 200 := by rw [htx, ByteArray.size_append]; omega
          have etx : kt ++ val = tx := htx.symm
          have ens : ¬ 9223372036854775807 < kt.size + val.size := by omega
          obtain ⟨zt, hzt⟩ : ∃ z, fieldT 10 tx.data.toList = z := ⟨_, rfl⟩
          obtain ⟨mt, hmt⟩ : ∃ m, zt.length = m := ⟨_, rfl⟩
          have FT := Lib.hid (fun W => refText_any 10 tx W (by omega) (by omega) zt mt hzt hmt)
          have PK := Lib.hid pk
          have HKT := Lib.hid hkt
          have HLK := Lib.hid hlk
          have htk2 : [[1], z1, z2, z3, z4, z5, z6, z7, z8, z9] ++ attrRows (l.take (i + 1)) = ([[1], z1, z2, z3, z4, z5, z6, z7, z8, z9] ++ attrRows (l.take i)) ++ [zt] := by
            rw [htk, ← hzt, htxl]; simp [attrRows]
          have HTK := Lib.hid htk2
          have HC1 := Lib.hid ((hB.cell (p := ⟨b, off + i * 2, none⟩) hbl).symm.trans hc1)
          have HC2 := Lib.hid ((hB.cell (p := ⟨b, off + i * 2 + 1, none⟩) hbl).symm.trans hc2)
          have hOd := Lib.hid (own_later (w' := wr.drew) hO.out (Below.refl _ _).drew)
          have hKd : Blk wr.drew w.heap.size #[.int .u64 (hi : Int), .int .u64 (lo : Int), .int .u64 (id : Int), .int .u64 (par : Int), .string name, .int .i64 (st : Int), .int .i64 (sp : Int), .bool bad, .slice (some ⟨b, off, none⟩) n cap, .int .u64 (rv : Int)] 26 := hK.out
          have hWd := Lib.hid (rows_later (W' := wr.drew) hW.out (Below.refl _ _).drew)
          have hBd := Lib.hid hB.drew
          have h1d : wr.drew.cell? ⟨b, off + i * 2, none⟩ = some (.string key) := hc1
          have h2d : wr.drew.cell? ⟨b, off + i * 2 + 1, none⟩ = some (.string val) := hc2
          clear pk hkt hlk htx hkl htxl hzt hmt htk htk2 hin hcell hks
          go_wp2_with fail
          refine wp_region_held_drew (S := fun W => Blk W w.heap.size #[.int .u64 (hi : Int), .int .u64 (lo : Int), .int .u64 (id : Int), .int .u64 (par : Int), .string name, .int .i64 (st : Int), .int .i64 (sp : Int), .bool bad, .slice (some ⟨b, off, none⟩) n cap, .int .u64 (rv : Int)] 26 ∧ W.cell? ⟨b, off + i * 2, none⟩ = some (.string key) ∧ W.cell? ⟨b, off + i * 2 + 1, none⟩ = some (.string val)) (by kernel_rfl) ?_ (fun hHeld => ?_)
          · exact ⟨hKd, h1d, h2d⟩
          refine wpAnyH_take (i := 0) (v := ?_) rfl (by kernel_rfl) (by kernel_rfl) (by kernel_rfl) (fun _ _ _ h => h) (Or.inl ⟨by rfl, ?_⟩) (by assumption) ?_
          rotate_left
          · intro wq hSw; (try dsimp only at hSw); go_simp; (try with_reducible rfl)
          simp only [Act.put, List.getElem_toArray, List.getElem_cons_succ, List.getElem_cons_zero, List.setIfInBounds_toArray, List.set_cons_zero, List.set_cons_succ]
          refine wpAnyH_take (i := 1) (v := ?_) rfl (by kernel_rfl) (by kernel_rfl) (by kernel_rfl) (fun _ _ _ h => h) (Or.inl ⟨by rfl, ?_⟩) (by assumption) ?_
          rotate_left
          · intro wq hSw; (try dsimp only at hSw); go_simp; (try with_reducible rfl)
          simp only [Act.put, List.getElem_toArray, List.getElem_cons_succ, List.getElem_cons_zero, List.setIfInBounds_toArray, List.set_cons_zero, List.set_cons_succ]
          refine wpAnyH_take (i := 2) (v := ?_) rfl (by kernel_rfl) (by kernel_rfl) (by kernel_rfl) (fun _ _ _ h => h) (Or.inl ⟨by rfl, ?_⟩) (by assumption) ?_
          rotate_left
          · intro wq hSw; (try dsimp only at hSw); have hq := hSw.1.cell 8 rfl; go_simp; (try with_reducible rfl)
          simp only [Act.put, List.getElem_toArray, List.getElem_cons_succ, List.getElem_cons_zero, List.setIfInBounds_toArray, List.set_cons_zero, List.set_cons_succ]
          refine wpAnyH_take (i := 3) (v := ?_) rfl (by kernel_rfl) (by kernel_rfl) (by kernel_rfl) (fun _ _ _ h => h) (Or.inl ⟨by rfl, ?_⟩) (by assumption) ?_
          rotate_left
          · intro wq hSw; (try dsimp only at hSw); go_simp; (try with_reducible rfl)
          simp only [Act.put, List.getElem_toArray, List.getElem_cons_succ, List.getElem_cons_zero, List.setIfInBounds_toArray, List.set_cons_zero, List.set_cons_succ]
          refine wpAnyH_take (i := 4) (v := ?_) rfl (by kernel_rfl) (by kernel_rfl) (by kernel_rfl) (fun _ _ _ h => h) (Or.inl ⟨by rfl, ?_⟩) (by assumption) ?_
          rotate_left
          · intro wq hSw; (try dsimp only at hSw); go_simp; (try with_reducible rfl)
          simp only [Act.put, List.getElem_toArray, List.getElem_cons_succ, List.getElem_cons_zero, List.setIfInBounds_toArray, List.set_cons_zero, List.set_cons_succ]
          refine wpAnyH_take (i := 5) (v := ?_) rfl (by kernel_rfl) (by kernel_rfl) (by kernel_rfl) (fun _ _ _ h => h) (Or.inl ⟨by rfl, ?_⟩) (by assumption) ?_
          rotate_left
          · intro wq hSw; (try dsimp only at hSw); go_simp; (try with_reducible rfl)
          simp only [Act.put, List.getElem_toArray, List.getElem_cons_succ, List.getElem_cons_zero, List.setIfInBounds_toArray, List.set_cons_zero, List.set_cons_succ]
          refine wpAnyH_take (i := 6) (v := ?_) rfl (by kernel_rfl) (by kernel_rfl) (by kernel_rfl) (fun _ _ _ h => h) (Or.inl ⟨by rfl, ?_⟩) (by assumption) ?_
          rotate_left
          · intro wq hSw; (try dsimp only at hSw); have hq := hSw.2.1; go_simp; (try with_reducible rfl)
          simp only [Act.put, List.getElem_toArray, List.getElem_cons_succ, List.getElem_cons_zero, List.setIfInBounds_toArray, List.set_cons_zero, List.set_cons_succ]
          refine wpAnyH_take (i := 9) (v := ?_) rfl (by kernel_rfl) (by kernel_rfl) (by kernel_rfl) (fun _ _ _ h => h) (Or.inl ⟨by rfl, ?_⟩) (by assumption) ?_
          rotate_left
          · intro wq hSw; (try dsimp only at hSw); go_simp; (try with_reducible rfl)
          simp only [Act.put, List.getElem_toArray, List.getElem_cons_succ, List.getElem_cons_zero, List.setIfInBounds_toArray, List.set_cons_zero, List.set_cons_succ]
          refine wpAnyH_take (i := 10) (v := ?_) rfl (by kernel_rfl) (by kernel_rfl) (by kernel_rfl) (fun _ _ _ h => h) (Or.inl ⟨by rfl, ?_⟩) (by assumption) ?_
          rotate_left
          · intro wq hSw; (try dsimp only at hSw); have hq := hSw.1.cell 8 rfl; go_simp; (try with_reducible rfl)
          simp only [Act.put, List.getElem_toArray, List.getElem_cons_succ, List.getElem_cons_zero, List.setIfInBounds_toArray, List.set_cons_zero, List.set_cons_succ]
          refine wpAnyH_take (i := 11) (v := ?_) rfl (by kernel_rfl) (by kernel_rfl) (by kernel_rfl) (fun _ _ _ h => h) (Or.inl ⟨by rfl, ?_⟩) (by assumption) ?_
          rotate_left
          · intro wq hSw; (try dsimp only at hSw); go_simp; (try with_reducible rfl)
          simp only [Act.put, List.getElem_toArray, List.getElem_cons_succ, List.getElem_cons_zero, List.setIfInBounds_toArray, List.set_cons_zero, List.set_cons_succ]
          refine wpAnyH_take (i := 12) (v := ?_) rfl (by kernel_rfl) (by kernel_rfl) (by kernel_rfl) (fun _ _ _ h => h) (Or.inl ⟨by rfl, ?_⟩) (by assumption) ?_
          rotate_left
          · intro wq hSw; (try dsimp only at hSw); go_simp; (try with_reducible rfl)
          simp only [Act.put, List.getElem_toArray, List.getElem_cons_succ, List.getElem_cons_zero, List.setIfInBounds_toArray, List.set_cons_zero, List.set_cons_succ]
          refine wpAnyH_take (i := 13) (v := ?_) rfl (by kernel_rfl) (by kernel_rfl) (by kernel_rfl) (fun _ _ _ h => h) (Or.inl ⟨by rfl, ?_⟩) (by assumption) ?_
          rotate_left
          · intro wq hSw; (try dsimp only at hSw); go_simp; (try with_reducible rfl)
          simp only [Act.put, List.getElem_toArray, List.getElem_cons_succ, List.getElem_cons_zero, List.setIfInBounds_toArray, List.set_cons_zero, List.set_cons_succ]
          refine wpAnyH_take (i := 14) (v := ?_) rfl (by kernel_rfl) (by kernel_rfl) (by kernel_rfl) (fun _ _ _ h => h) (Or.inl ⟨by rfl, ?_⟩) (by assumption) ?_
          rotate_left
          · intro wq hSw; (try dsimp only at hSw); have hq := hSw.2.2; go_simp; (try with_reducible rfl)
          simp only [Act.put, List.getElem_toArray, List.getElem_cons_succ, List.getElem_cons_zero, List.setIfInBounds_toArray, List.set_cons_zero, List.set_cons_succ]
          refine wpAnyH_ready (rs := [7]) (by kernel_rfl) (by simp) ?_
          refine AllReadyH.cons rfl (fun K hK => ?_) AllReadyH.nil
          go_simp
          refine (PK.out _).mono ?_
          rintro e W1 ⟨A1, c1, rfl, _, _, r1, b1'⟩
          have HB1 := Lib.hid (hBd.out.trans (b1'.mono hBd.out.size))
          have HK1 := Lib.hid (hKd.same (b1'.block _ hKd.lt))
          have HO1 := Lib.hid (own_later hOd.out b1')
          have HW1 := Lib.hid (rows_later hWd.out b1')
          have hb1c : ∀ o, W1.cell? ⟨b, o, none⟩ = wr.drew.cell? ⟨b, o, none⟩ := fun o => b1'.cell (p := ⟨b, o, none⟩) (Nat.lt_of_lt_of_le hbl hBd.out.size)
          have tr1 := text_run A1 (putText key.data.toList) lk c1 W1 _ HLK.out r1
          rw [← HKT.out] at tr1
          clear r1 b1'
          (try go_wp2_with fail)
          refine hK.out _ _ ?_ (fun hHeld => ?_)
          · exact ⟨HK1.out, (hb1c _).trans hHeld.2.1, (hb1c _).trans hHeld.2.2⟩
          clear hK K
          try simp only [Act.put, List.getElem_toArray, List.getElem_cons_succ, List.getElem_cons_zero, List.setIfInBounds_toArray, List.set_cons_zero, List.set_cons_succ]
          refine wpAnyH_ready (rs := [8]) (by kernel_rfl) (by simp) ?_
          refine AllReadyH.cons rfl (fun K hK => ?_) AllReadyH.nil
          go_simp
          (try go_wp2_with fail)
          refine hK.out _ _ ?_ (fun hHeld => ?_)
          · exact hHeld
          clear hK K
          try simp only [Act.put, List.getElem_toArray, List.getElem_cons_succ, List.getElem_cons_zero, List.setIfInBounds_toArray, List.set_cons_zero, List.set_cons_succ]
          refine wpAnyH_take (i := 15) (v := ?_) rfl (by kernel_rfl) (by kernel_rfl) (by kernel_rfl) (fun _ _ _ h => h) (Or.inl ⟨by rfl, ?_⟩) (by assumption) ?_
          rotate_left
          · intro wq hSw; (try dsimp only at hSw); go_simp; (try with_reducible rfl)
          simp only [Act.put, List.getElem_toArray, List.getElem_cons_succ, List.getElem_cons_zero, List.setIfInBounds_toArray, List.set_cons_zero, List.set_cons_succ]
          refine wpAnyH_ready (rs := [16]) (by kernel_rfl) (by simp) ?_
          refine AllReadyH.cons rfl (fun K hK => ?_) AllReadyH.nil
          go_simp
          refine (FT.out _).mono ?_
          rintro e W2 ⟨A2, c2, rfl, o2, b2'⟩
          have HB2 := Lib.hid (HB1.out.trans (b2'.mono HB1.out.size))
          have HK2 := Lib.hid (HK1.out.same (b2'.block _ HK1.out.lt))
          have HO2 := Lib.hid (own_later HO1.out b2')
          have HW2 := Lib.hid (rows_later HW1.out b2')
          have HU2 := Lib.hid (own_lower0 o2 HB1.out.size)
          have hb2c : ∀ o, W2.cell? ⟨b, o, none⟩ = W1.cell? ⟨b, o, none⟩ := fun o => b2'.cell (p := ⟨b, o, none⟩) (Nat.lt_of_lt_of_le hbl HB1.out.size)
          clear o2 b2'
          (try go_wp2_with fail)
          refine hK.out _ _ ?_ (fun hHeld => ?_)
          · exact ⟨HK2.out, (hb2c _).trans hHeld.2.1, (hb2c _).trans hHeld.2.2⟩
          clear hK K
          try simp only [Act.put, List.getElem_toArray, List.getElem_cons_succ, List.getElem_cons_zero, List.setIfInBounds_toArray, List.set_cons_zero, List.set_cons_succ]
          refine wpAnyH_ready (rs := [17]) (by kernel_rfl) (by simp) ?_
          refine AllReadyH.cons rfl (fun K hK => ?_) AllReadyH.nil
          go_simp
          (try go_wp2_with fail)
          refine hK.out _ _ ?_ (fun hHeld => ?_)
          · exact ⟨HK2.out.same (Below.heap_alloc _ _ _ HK2.out.lt), (cell_alloc_below _ _ _ (Nat.lt_of_lt_of_le hbl HB2.out.size)).trans hHeld.2.1, (cell_alloc_below _ _ _ (Nat.lt_of_lt_of_le hbl HB2.out.size)).trans hHeld.2.2⟩
          clear hK K
          try simp only [Act.put, List.getElem_toArray, List.getElem_cons_succ, List.getElem_cons_zero, List.setIfInBounds_toArray, List.set_cons_zero, List.set_cons_succ]
          refine wpAnyH_ready (rs := [18]) (by kernel_rfl) (by simp) ?_
          refine AllReadyH.cons rfl (fun K hK => ?_) AllReadyH.nil
          refine step_append_lies _ rfl (.tmp 45) (.tmp 62) 67 rfl w.heap.size 22 i0 (.slice none 0 0) 1 24 Try.underlying67 hi0 hz0' hz1' hz2' rfl (by decide) (.slice (some ⟨g, 0, none⟩) (10 + i) c) (10 + i) vs rfl (HO2.out.alloc _) ⟨W2.heap.size, 0, none⟩ 1 1 [.slice A2 mt c2] rfl rfl (cell_one_new _ _ _) (by simp [Value.oneCell']) (by decide) (by unfold maxLen; omega) (by omega) (by rw [World.size_alloc]; have := HB2.out.size; omega) (W2.heap.size + 1) (by simp) ?_
          intro g4 c4 w4 hown4 hgr4 hor4 hlt4
          have HW4 := Lib.hid (rows_step (by rw [hvl.out]; exact HO2.out) HW2.out HU2.out hgr4)
          have HB4 := Lib.hid (below_grown (HB2.out.alloc HB2.out.size _) (by rw [World.size_alloc]; have := HB2.out.size; omega) (HO2.out.alloc _) hgr4)
          have HK4 := Lib.hid ((HK2.out.same (Below.heap_alloc _ _ _ HK2.out.lt)).same (grown_at hgr4 (by rw [World.size_alloc]; have := HK2.out.lt; omega) (own_apart1 HO2.out HK2.out (by decide))))
          have HO4 := Lib.hid hown4
          clear hown4 hgr4 hor4 hlt4
          refine hK.out _ _ ?_ (fun hHeld => ?_)
          · exact ⟨HK4.out, (HB4.out.cell (p := ⟨b, off + i * 2, none⟩) hbl).trans HC1.out, (HB4.out.cell (p := ⟨b, off + i * 2 + 1, none⟩) hbl).trans HC2.out⟩
          clear hK K
          try simp only [Act.put, List.getElem_toArray, List.getElem_cons_succ, List.getElem_cons_zero, List.setIfInBounds_toArray, List.set_cons_zero, List.set_cons_succ]
          refine wpAnyH_take (i := 19) (v := ?_) rfl (by kernel_rfl) (by kernel_rfl) (by kernel_rfl) (fun _ _ _ h => h) (Or.inl ⟨by rfl, ?_⟩) (by assumption) ?_
          rotate_left
          · intro wq hSw; (try dsimp only at hSw); go_simp; (try with_reducible rfl)
          simp only [Act.put, List.getElem_toArray, List.getElem_cons_succ, List.getElem_cons_zero, List.setIfInBounds_toArray, List.set_cons_zero, List.set_cons_succ]
          refine wpAnyH_done (by kernel_rfl) ?_ _
          clear hHeld
          go_wp2_with fail
          go_roundw
          case rel => exact ⟨i + 1, g4, c4, _, by omega, rfl, by go_num, Lib.hid (by rw [List.length_append, hvl.out]; rfl), HO4, Lib.hid (by rw [HTK.out]; exact HW4.out), HK4, HB4.out⟩
          case measure => simp [intOf]; omega
        · have dl : decide ((i : Int) < (n : Int)) = false := by simp; omega
          have dl' : decide (i < n) = false := by simp; omega
          obtain rfl : n = i := by omega
          have e : l.take n = l := List.take_of_length_le (by rw [HN.out]; omega)
          rw [e] at hW
          have hrows := holds_rows (by rw [hvl.out]; exact hO.out) hW.out
          obtain ⟨Ar, cr, e1, _, _, _, hh⟩ := hrows
          have hlen : ([[1], z1, z2, z3, z4, z5, z6, z7, z8, z9] ++ attrRows l).length = 10 + n := by simp [attrRows, HN.out]; omega
          injection e1 with e2 e3 e4
          subst e2
          have hzl : z.length ≤ 500000 := ZBOUND.out
          have hj := fun (W : World) => refJoined_any (some ⟨g, 0, none⟩) ([[1], z1, z2, z3, z4, z5, z6, z7, z8, z9] ++ attrRows l) (10 + n) c W hlen (by omega) (by rw [HFL.out]; exact hzl)
          rw [HFL.out, HM.out] at hj
          have HJ := Lib.hid hj
          have HH := Lib.hid hh
          clear hj hh hlen e e3 e4 hzl
          go_wp2_with fail
          refine (HJ.out _ HH.out).mono ?_
          rintro e w5 ⟨A5, c5, rfl, o5, b5'⟩
          have HO5 := Lib.hid (own_lower0 o5 hB.size)
          have HB5 := Lib.hid (hB.trans (b5'.mono hB.size))
          clear o5 b5'
          go_wp2_with fail
          go_ret
          exact ⟨A5, c5, rfl, by rw [HM.out]; exact HO5.out, HB5.out⟩

end Go.Proofs.Ytklgggolkclebaa
