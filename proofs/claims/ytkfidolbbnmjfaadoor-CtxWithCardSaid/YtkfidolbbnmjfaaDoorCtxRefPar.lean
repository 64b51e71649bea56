/-
  The document's own Print and Parse of layer 4 (telemeterref04) answer as the program's do.
-/
import Derived.Deep.RegionHeld
import Derived.Test.YtkfidolbbnmjfaaDoorCtxPrint
namespace Go.Proofs.YtkfidolbbnmjfaaDoor
open Go.RowKit Go.Proofs.CtxMath

/-! The text of a parent, as a whole. -/
theorem piece_iff (ahead t : List UInt8) (size a : Nat) (t' : List UInt8) : piece ahead size t = some (a, t') ↔ ∃ h : List UInt8, h.length = size ∧ hexNum h = some a ∧ t = ahead ++ (h ++ t') := by
  constructor
  · intro h
    unfold piece at h
    split at h
    · rename_i hp
      split at h
      · cases h
      · rename_i hl
        rcases hx : hexNum ((t.drop ahead.length).take size) with _ | b
        · rw [hx] at h; cases h
        · rw [hx] at h
          injection h with h
          injection h with h1 h2
          subst h1 h2
          refine ⟨(t.drop ahead.length).take size, by rw [List.length_take]; omega, hx, ?_⟩
          rw [List.take_append_drop]
          obtain ⟨r, hr⟩ := List.isPrefixOf_iff_prefix.1 hp
          rw [← hr]; simp
    · cases h
  · rintro ⟨h, h1, h2, rfl⟩
    have h3 := piece_ok (ahead := ahead) (t := ahead ++ (h ++ t')) (size := size) (a := a) (List.isPrefixOf_iff_prefix.2 ⟨_, rfl⟩) (by simp; omega) (by rw [List.drop_left' rfl, List.take_left' h1]; exact h2)
    rw [h3, List.drop_left' rfl, List.drop_left' h1]
def parse55 (cs : List UInt8) : Option (List Nat) :=
  if cs.length = 55 ∧ cs.take 3 = [48, 48, 45] ∧ cs.getD 35 0 = 45 ∧ cs.getD 52 0 = 45 then
    (match hexNum ((cs.drop 3).take 16), hexNum ((cs.drop 19).take 16), hexNum ((cs.drop 36).take 16), hexNum (cs.drop 53) with
      | some a, some b, some c, some d => some [a, b, c, d]
      | _, _, _, _ => none)
  else none
theorem whole_len {cs h1 h2 h3 h4 : List UInt8} (l1 : h1.length = 16) (l2 : h2.length = 16) (l3 : h3.length = 16) (l4 : h4.length = 2) (hc : cs = [48, 48, 45] ++ (h1 ++ ([] ++ (h2 ++ ([45] ++ (h3 ++ ([45] ++ (h4 ++ [])))))))) :
    cs.length = 55 ∧ cs.take 3 = [48, 48, 45] ∧ cs.getD 35 0 = 45 ∧ cs.getD 52 0 = 45 ∧ (cs.drop 3).take 16 = h1 ∧ (cs.drop 19).take 16 = h2 ∧ (cs.drop 36).take 16 = h3 ∧ cs.drop 53 = h4 := by
  have e19 : cs = ([48, 48, 45] ++ h1) ++ (h2 ++ ([45] ++ (h3 ++ ([45] ++ h4)))) := by rw [hc]; simp
  have e35 : cs = ([48, 48, 45] ++ h1 ++ h2) ++ ([45] ++ (h3 ++ ([45] ++ h4))) := by rw [hc]; simp
  have e36 : cs = ([48, 48, 45] ++ h1 ++ h2 ++ [45]) ++ (h3 ++ ([45] ++ h4)) := by rw [hc]; simp
  have e52 : cs = ([48, 48, 45] ++ h1 ++ h2 ++ [45] ++ h3) ++ ([45] ++ h4) := by rw [hc]; simp
  have e53 : cs = ([48, 48, 45] ++ h1 ++ h2 ++ [45] ++ h3 ++ [45]) ++ h4 := by rw [hc]; simp
  refine ⟨by rw [hc]; simp; omega, by rw [hc]; rfl, ?_, ?_, ?_, ?_, ?_, ?_⟩
  · rw [e35, List.getD_eq_getElem?_getD, List.getElem?_append_right (by simp; omega)]
    simp [l1, l2]
  · rw [e52, List.getD_eq_getElem?_getD, List.getElem?_append_right (by simp; omega)]
    simp [l1, l2, l3]
  · rw [hc]; exact List.take_left' l1
  · rw [e19, List.drop_left' (by simp [l1]), List.take_left' l2]
  · rw [e36, List.drop_left' (by simp [l1, l2]), List.take_left' l3]
  · rw [e53, List.drop_left' (by simp [l1, l2, l3])]
theorem readAll_some {cs : List UInt8} {l : List Nat} (h : readAll cs = some l) : ∃ a b c d h1 h2 h3 h4, l = [a, b, c, d] ∧ h1.length = 16 ∧ h2.length = 16 ∧ h3.length = 16 ∧ h4.length = 2 ∧ hexNum h1 = some a ∧ hexNum h2 = some b ∧ hexNum h3 = some c ∧ hexNum h4 = some d ∧
    cs = [48, 48, 45] ++ (h1 ++ ([] ++ (h2 ++ ([45] ++ (h3 ++ ([45] ++ (h4 ++ []))))))) := by
  unfold readAll shapeL at h
  rw [readFrom] at h
  rcases p1 : piece [48, 48, 45] 16 cs with _ | ⟨a, t1⟩
  · rw [p1] at h; cases h
  · rw [p1] at h
    simp only at h
    rw [readFrom] at h
    rcases p2 : piece [] 16 t1 with _ | ⟨b, t2⟩
    · rw [p2] at h; cases h
    · rw [p2] at h
      simp only at h
      rw [readFrom] at h
      rcases p3 : piece [45] 16 t2 with _ | ⟨c, t3⟩
      · rw [p3] at h; cases h
      · rw [p3] at h
        simp only at h
        rw [readFrom] at h
        rcases p4 : piece [45] 2 t3 with _ | ⟨d, t4⟩
        · rw [p4] at h; cases h
        · rw [p4] at h
          simp only at h
          rw [readFrom] at h
          split at h
          · rename_i h0
            injection h with h
            obtain ⟨h1, l1, x1, q1⟩ := (piece_iff _ _ _ _ _).1 p1
            obtain ⟨h2, l2, x2, q2⟩ := (piece_iff _ _ _ _ _).1 p2
            obtain ⟨h3, l3, x3, q3⟩ := (piece_iff _ _ _ _ _).1 p3
            obtain ⟨h4, l4, x4, q4⟩ := (piece_iff _ _ _ _ _).1 p4
            refine ⟨a, b, c, d, h1, h2, h3, h4, h.symm, l1, l2, l3, l4, x1, x2, x3, x4, ?_⟩
            rw [q1, q2, q3, q4, h0]
          · cases h
theorem readAll_of {h1 h2 h3 h4 : List UInt8} {a b c d : Nat} (l1 : h1.length = 16) (l2 : h2.length = 16) (l3 : h3.length = 16) (l4 : h4.length = 2) (x1 : hexNum h1 = some a) (x2 : hexNum h2 = some b) (x3 : hexNum h3 = some c) (x4 : hexNum h4 = some d) :
    readAll ([48, 48, 45] ++ (h1 ++ ([] ++ (h2 ++ ([45] ++ (h3 ++ ([45] ++ (h4 ++ [])))))))) = some [a, b, c, d] := by
  unfold readAll shapeL
  rw [from_some (q := ([48, 48, 45], 16)) ((piece_iff _ _ _ _ _).2 ⟨h1, l1, x1, rfl⟩), from_some (q := ([], 16)) ((piece_iff _ _ _ _ _).2 ⟨h2, l2, x2, rfl⟩), from_some (q := ([45], 16)) ((piece_iff _ _ _ _ _).2 ⟨h3, l3, x3, rfl⟩), from_some (q := ([45], 2)) ((piece_iff _ _ _ _ _).2 ⟨h4, l4, x4, rfl⟩)]
  rfl
theorem readAll_55 (cs : List UInt8) : readAll cs = parse55 cs := by
  apply Option.ext
  intro l
  constructor
  · intro h
    obtain ⟨a, b, c, d, h1, h2, h3, h4, rfl, l1, l2, l3, l4, x1, x2, x3, x4, hc⟩ := readAll_some h
    obtain ⟨g1, g2, g3, g4, g5, g6, g7, g8⟩ := whole_len l1 l2 l3 l4 hc
    unfold parse55
    rw [if_pos ⟨g1, g2, g3, g4⟩, g5, g6, g7, g8, x1, x2, x3, x4]
  · intro h
    unfold parse55 at h
    split at h
    · rename_i hg
      obtain ⟨g1, g2, g3, g4⟩ := hg
      split at h
      · rename_i a b c d x1 x2 x3 x4
        injection h with h
        subst h
        have hcs : cs = [48, 48, 45] ++ ((cs.drop 3).take 16 ++ ([] ++ ((cs.drop 19).take 16 ++ ([45] ++ ((cs.drop 36).take 16 ++ ([45] ++ (cs.drop 53 ++ []))))))) := by
          have c35 : cs.drop 35 = 45 :: cs.drop 36 := by
            rw [List.drop_eq_getElem_cons (by omega)]
            rw [List.getD_eq_getElem?_getD, List.getElem?_eq_getElem (by omega), Option.getD_some] at g3
            rw [g3]
          have c52 : cs.drop 52 = 45 :: cs.drop 53 := by
            rw [List.drop_eq_getElem_cons (by omega)]
            rw [List.getD_eq_getElem?_getD, List.getElem?_eq_getElem (by omega), Option.getD_some] at g4
            rw [g4]
          have d1 : cs = cs.take 3 ++ cs.drop 3 := (List.take_append_drop 3 cs).symm
          have d2 : cs.drop 3 = (cs.drop 3).take 16 ++ cs.drop 19 := by rw [show cs.drop 19 = (cs.drop 3).drop 16 by rw [List.drop_drop], List.take_append_drop]
          have d3 : cs.drop 19 = (cs.drop 19).take 16 ++ cs.drop 35 := by rw [show cs.drop 35 = (cs.drop 19).drop 16 by rw [List.drop_drop], List.take_append_drop]
          have d4 : cs.drop 36 = (cs.drop 36).take 16 ++ cs.drop 52 := by rw [show cs.drop 52 = (cs.drop 36).drop 16 by rw [List.drop_drop], List.take_append_drop]
          calc cs = cs.take 3 ++ cs.drop 3 := d1
            _ = [48, 48, 45] ++ ((cs.drop 3).take 16 ++ cs.drop 19) := by rw [g2, ← d2]
            _ = [48, 48, 45] ++ ((cs.drop 3).take 16 ++ ((cs.drop 19).take 16 ++ cs.drop 35)) := by rw [← d3]
            _ = [48, 48, 45] ++ ((cs.drop 3).take 16 ++ ((cs.drop 19).take 16 ++ (45 :: ((cs.drop 36).take 16 ++ cs.drop 52)))) := by rw [c35, ← d4]
            _ = _ := by rw [c52]; simp
        rw [hcs]
        exact readAll_of (by simp; omega) (by simp; omega) (by simp; omega) (by simp; omega) x1 x2 x3 x4
      · cases h
    · cases h

set_option maxRecDepth 100000 in
set_option maxHeartbeats 2000000 in
theorem refPrint_no (hi lo sp fl : Nat) (w : World) (hb : isPar hi lo sp = false) :
    Calls Tryd.prog 14 #[.agg #[.int .u64 (hi : Int), .int .u64 (lo : Int), .int .u64 (sp : Int), .int .u8 (fl : Int)]] w fun e w' => e = .returned (.tuple #[.string ⟨#[]⟩, .int .i64 1]) ∧ Below w.heap.size w w' := by
  obtain ⟨x, hx⟩ : ∃ x, ((hi : Int) == 0) = x := ⟨_, rfl⟩
  obtain ⟨y, hy⟩ : ∃ y, ((lo : Int) == 0) = y := ⟨_, rfl⟩
  obtain ⟨z, hz⟩ : ∃ z, ((sp : Int) == 0) = z := ⟨_, rfl⟩
  have e : ((x && y) || z) = true := by
    rw [← hx, ← hy, ← hz]
    unfold isPar at hb
    simp at hb
    simp
    try omega
  clear hb
  cases x <;> cases y <;> cases z <;> first | (exact absurd e (by decide)) | (clear e; go_enter Tryd.func14, Tryd.ntmps14; go_wp2_with fail; go_ret2; exact ⟨rfl, box_below _⟩)

set_option linter.unusedSimpArgs false in
set_option linter.unusedVariables false in
set_option maxRecDepth 100000 in
set_option maxHeartbeats 4000000 in
theorem refPrint_yes (hi lo sp fl : Nat) (w : World) (h1 : hi < 18446744073709551616) (h2 : lo < 18446744073709551616) (h3 : sp < 18446744073709551616) (hfl : fl < 256) (hb : isPar hi lo sp = true) :
    Calls Tryd.prog 14 #[.agg #[.int .u64 (hi : Int), .int .u64 (lo : Int), .int .u64 (sp : Int), .int .u8 (fl : Int)]] w fun e w' => e = .returned (.tuple #[.string (textOf (printOf hi lo sp fl)), .int .i64 0]) ∧ Below w.heap.size w w' := by
  obtain ⟨x, hx⟩ : ∃ x, ((hi : Int) == 0) = x := ⟨_, rfl⟩
  obtain ⟨y, hy⟩ : ∃ y, ((lo : Int) == 0) = y := ⟨_, rfl⟩
  obtain ⟨z, hz⟩ : ∃ z, ((sp : Int) == 0) = z := ⟨_, rfl⟩
  have e : ((x && y) || z) = false := by
    rw [← hx, ← hy, ← hz]
    unfold isPar at hb
    simp at hb
    simp
    try omega
  have hw8 : IntKind.u64.wrap (fl : Int) = (fl : Int) := by rw [IntKind.wrap_u64]; omega
  obtain ⟨u1, hu1⟩ : ∃ u, textOf (last hi 16) = u := ⟨_, rfl⟩
  obtain ⟨u2, hu2⟩ : ∃ u, textOf (last lo 16) = u := ⟨_, rfl⟩
  obtain ⟨u3, hu3⟩ : ∃ u, textOf (last sp 16) = u := ⟨_, rfl⟩
  obtain ⟨u4, hu4⟩ : ∃ u, textOf (last fl 2) = u := ⟨_, rfl⟩
  have c1 : ∀ W, Calls Tryd.prog 30 #[.int .u64 (hi : Int), .int .i64 16] W fun e w' => e = .returned (.string u1) ∧ W = w' := fun W => by rw [← hu1]; exact refDigits_any hi 16 W h1 (by omega)
  have c2 : ∀ W, Calls Tryd.prog 30 #[.int .u64 (lo : Int), .int .i64 16] W fun e w' => e = .returned (.string u2) ∧ W = w' := fun W => by rw [← hu2]; exact refDigits_any lo 16 W h2 (by omega)
  have c3 : ∀ W, Calls Tryd.prog 30 #[.int .u64 (sp : Int), .int .i64 16] W fun e w' => e = .returned (.string u3) ∧ W = w' := fun W => by rw [← hu3]; exact refDigits_any sp 16 W h3 (by omega)
  have c4 : ∀ W, Calls Tryd.prog 30 #[.int .u64 (fl : Int), .int .i64 2] W fun e w' => e = .returned (.string u4) ∧ W = w' := fun W => by rw [← hu4]; exact refDigits_any fl 2 W (by omega) (by omega)
  have C1 := Lib.hid c1
  have C2 := Lib.hid c2
  have C3 := Lib.hid c3
  have C4 := Lib.hid c4
  have s1 : u1.size = 16 := by rw [← hu1, text_size, last_len _ _ (by omega)]
  have s2 : u2.size = 16 := by rw [← hu2, text_size, last_len _ _ (by omega)]
  have s3 : u3.size = 16 := by rw [← hu3, text_size, last_len _ _ (by omega)]
  have s4 : u4.size = 2 := by rw [← hu4, text_size, last_len _ _ (by omega)]
  obtain ⟨a1, ha1⟩ : ∃ a, (⟨#[48, 48, 45]⟩ : ByteArray) ++ u1 = a := ⟨_, rfl⟩
  obtain ⟨a2, ha2⟩ : ∃ a, a1 ++ u2 = a := ⟨_, rfl⟩
  obtain ⟨a3, ha3⟩ : ∃ a, a2 ++ (⟨#[45]⟩ : ByteArray) = a := ⟨_, rfl⟩
  obtain ⟨a4, ha4⟩ : ∃ a, a3 ++ u3 = a := ⟨_, rfl⟩
  obtain ⟨a5, ha5⟩ : ∃ a, a4 ++ (⟨#[45]⟩ : ByteArray) = a := ⟨_, rfl⟩
  obtain ⟨a6, ha6⟩ : ∃ a, a5 ++ u4 = a := ⟨_, rfl⟩
  have t1 : a1.size = 19 := by rw [← ha1, ByteArray.size_append, s1]; rfl
  have t2 : a2.size = 35 := by rw [← ha2, ByteArray.size_append, s2, t1]
  have t3 : a3.size = 36 := by rw [← ha3, ByteArray.size_append, t2]; rfl
  have t4 : a4.size = 52 := by rw [← ha4, ByteArray.size_append, s3, t3]
  have t5 : a5.size = 53 := by rw [← ha5, ByteArray.size_append, t4]; rfl
  have hfin : Hid (a6 = textOf (printOf hi lo sp fl)) := Lib.hid (by
    rw [← ha6, ← ha5, ← ha4, ← ha3, ← ha2, ← ha1, ← hu1, ← hu2, ← hu3, ← hu4]
    show textOf [48, 48, 45] ++ textOf (last hi 16) ++ textOf (last lo 16) ++ textOf [45] ++ textOf (last sp 16) ++ textOf [45] ++ textOf (last fl 2) = _
    simp only [text_app]
    first
      | rfl
      | (congr 1; simp [printOf]))
  have hK := blk_new w #[.int .u64 (hi : Int), .int .u64 (lo : Int), .int .u64 (sp : Int), .int .u8 (fl : Int)] 33
  have k0 : (w.alloc (.cells #[.int .u64 (hi : Int), .int .u64 (lo : Int), .int .u64 (sp : Int), .int .u8 (fl : Int)] 33)).drew.cell? ⟨w.heap.size, 0, none⟩ = some (.int .u64 (hi : Int)) := hK.cell 0 rfl
  have k1 : (w.alloc (.cells #[.int .u64 (hi : Int), .int .u64 (lo : Int), .int .u64 (sp : Int), .int .u8 (fl : Int)] 33)).drew.cell? ⟨w.heap.size, 1, none⟩ = some (.int .u64 (lo : Int)) := hK.cell 1 rfl
  have k2 : (w.alloc (.cells #[.int .u64 (hi : Int), .int .u64 (lo : Int), .int .u64 (sp : Int), .int .u8 (fl : Int)] 33)).drew.cell? ⟨w.heap.size, 2, none⟩ = some (.int .u64 (sp : Int)) := hK.cell 2 rfl
  have k3 : (w.alloc (.cells #[.int .u64 (hi : Int), .int .u64 (lo : Int), .int .u64 (sp : Int), .int .u8 (fl : Int)] 33)).drew.cell? ⟨w.heap.size, 3, none⟩ = some (.int .u8 (fl : Int)) := hK.cell 3 rfl
  have HBF := Lib.hid ((box_below (W := w) (.cells #[.int .u64 (hi : Int), .int .u64 (lo : Int), .int .u64 (sp : Int), .int .u8 (fl : Int)] 33)).drew)
  clear hb hK c1 c2 c3 c4 hu1 hu2 hu3 hu4
  cases x <;> cases y <;> cases z <;> first | (exact absurd e (by decide)) | skip
  all_goals
    clear e
    go_enter Tryd.func14, Tryd.ntmps14
    go_wp2_with fail
    refine wp_region_held_drew (S := fun W => W.cell? ⟨w.heap.size, 0, none⟩ = some (.int .u64 (hi : Int)) ∧ W.cell? ⟨w.heap.size, 1, none⟩ = some (.int .u64 (lo : Int)) ∧ W.cell? ⟨w.heap.size, 2, none⟩ = some (.int .u64 (sp : Int)) ∧ W.cell? ⟨w.heap.size, 3, none⟩ = some (.int .u8 (fl : Int))) (by kernel_rfl) ?_ (fun hHeld => ?_)
    · exact ⟨k0, k1, k2, k3⟩
    refine wpAnyH_take (i := 0) (v := ?_) rfl (by kernel_rfl) (by kernel_rfl) (by kernel_rfl) (fun _ _ _ h => h) (Or.inl ⟨by rfl, ?_⟩) (by assumption) ?_
    rotate_left
    · intro wq hSw; (try dsimp only at hSw); go_simp; (try with_reducible rfl)
    simp only [Act.put, List.getElem_toArray, List.getElem_cons_succ, List.getElem_cons_zero, List.setIfInBounds_toArray, List.set_cons_zero, List.set_cons_succ]
    refine wpAnyH_take (i := 1) (v := ?_) rfl (by kernel_rfl) (by kernel_rfl) (by kernel_rfl) (fun _ _ _ h => h) (Or.inl ⟨by rfl, ?_⟩) (by assumption) ?_
    rotate_left
    · intro wq hSw; (try dsimp only at hSw); have hq := hSw.1; go_simp; (try with_reducible rfl)
    simp only [Act.put, List.getElem_toArray, List.getElem_cons_succ, List.getElem_cons_zero, List.setIfInBounds_toArray, List.set_cons_zero, List.set_cons_succ]
    refine wpAnyH_take (i := 4) (v := ?_) rfl (by kernel_rfl) (by kernel_rfl) (by kernel_rfl) (fun _ _ _ h => h) (Or.inl ⟨by rfl, ?_⟩) (by assumption) ?_
    rotate_left
    · intro wq hSw; (try dsimp only at hSw); go_simp; (try with_reducible rfl)
    simp only [Act.put, List.getElem_toArray, List.getElem_cons_succ, List.getElem_cons_zero, List.setIfInBounds_toArray, List.set_cons_zero, List.set_cons_succ]
    refine wpAnyH_take (i := 5) (v := ?_) rfl (by kernel_rfl) (by kernel_rfl) (by kernel_rfl) (fun _ _ _ h => h) (Or.inl ⟨by rfl, ?_⟩) (by assumption) ?_
    rotate_left
    · intro wq hSw; (try dsimp only at hSw); have hq := hSw.2.1; go_simp; (try with_reducible rfl)
    simp only [Act.put, List.getElem_toArray, List.getElem_cons_succ, List.getElem_cons_zero, List.setIfInBounds_toArray, List.set_cons_zero, List.set_cons_succ]
    refine wpAnyH_take (i := 9) (v := ?_) rfl (by kernel_rfl) (by kernel_rfl) (by kernel_rfl) (fun _ _ _ h => h) (Or.inl ⟨by rfl, ?_⟩) (by assumption) ?_
    rotate_left
    · intro wq hSw; (try dsimp only at hSw); go_simp; (try with_reducible rfl)
    simp only [Act.put, List.getElem_toArray, List.getElem_cons_succ, List.getElem_cons_zero, List.setIfInBounds_toArray, List.set_cons_zero, List.set_cons_succ]
    refine wpAnyH_take (i := 10) (v := ?_) rfl (by kernel_rfl) (by kernel_rfl) (by kernel_rfl) (fun _ _ _ h => h) (Or.inl ⟨by rfl, ?_⟩) (by assumption) ?_
    rotate_left
    · intro wq hSw; (try dsimp only at hSw); have hq := hSw.2.2.1; go_simp; (try with_reducible rfl)
    simp only [Act.put, List.getElem_toArray, List.getElem_cons_succ, List.getElem_cons_zero, List.setIfInBounds_toArray, List.set_cons_zero, List.set_cons_succ]
    refine wpAnyH_take (i := 14) (v := ?_) rfl (by kernel_rfl) (by kernel_rfl) (by kernel_rfl) (fun _ _ _ h => h) (Or.inl ⟨by rfl, ?_⟩) (by assumption) ?_
    rotate_left
    · intro wq hSw; (try dsimp only at hSw); go_simp; (try with_reducible rfl)
    simp only [Act.put, List.getElem_toArray, List.getElem_cons_succ, List.getElem_cons_zero, List.setIfInBounds_toArray, List.set_cons_zero, List.set_cons_succ]
    refine wpAnyH_take (i := 15) (v := ?_) rfl (by kernel_rfl) (by kernel_rfl) (by kernel_rfl) (fun _ _ _ h => h) (Or.inl ⟨by rfl, ?_⟩) (by assumption) ?_
    rotate_left
    · intro wq hSw; (try dsimp only at hSw); have hq := hSw.2.2.2; go_simp; (try with_reducible rfl)
    simp only [Act.put, List.getElem_toArray, List.getElem_cons_succ, List.getElem_cons_zero, List.setIfInBounds_toArray, List.set_cons_zero, List.set_cons_succ]
    refine wpAnyH_take (i := 16) (v := ?_) rfl (by kernel_rfl) (by kernel_rfl) (by kernel_rfl) (fun _ _ _ h => h) (Or.inl ⟨by rfl, ?_⟩) (by assumption) ?_
    rotate_left
    · intro wq hSw; (try dsimp only at hSw); go_simp; (try with_reducible rfl)
    simp only [Act.put, List.getElem_toArray, List.getElem_cons_succ, List.getElem_cons_zero, List.setIfInBounds_toArray, List.set_cons_zero, List.set_cons_succ]
    refine wpAnyH_ready (rs := [2]) (by kernel_rfl) (by simp) ?_
    refine AllReadyH.cons rfl (fun K hK => ?_) AllReadyH.nil
    go_simp
    refine (C1.out _).mono ?_
    rintro e w3 ⟨rfl, rfl⟩
    (try go_wp2_with fail)
    refine hK.out _ _ ?_ (fun hHeld => ?_)
    · exact hHeld
    clear hK K
    try simp only [Act.put, List.getElem_toArray, List.getElem_cons_succ, List.getElem_cons_zero, List.setIfInBounds_toArray, List.set_cons_zero, List.set_cons_succ]
    refine wpAnyH_take (i := 3) (v := ?_) rfl (by kernel_rfl) (by kernel_rfl) (by kernel_rfl) (fun _ _ _ h => h) (Or.inl ⟨by rfl, ?_⟩) (by assumption) ?_
    rotate_left
    · intro wq hSw; (try dsimp only at hSw); go_simp; (try with_reducible rfl)
    simp only [Act.put, List.getElem_toArray, List.getElem_cons_succ, List.getElem_cons_zero, List.setIfInBounds_toArray, List.set_cons_zero, List.set_cons_succ]
    refine wpAnyH_ready (rs := [6]) (by kernel_rfl) (by simp) ?_
    refine AllReadyH.cons rfl (fun K hK => ?_) AllReadyH.nil
    go_simp
    refine (C2.out _).mono ?_
    rintro e w3 ⟨rfl, rfl⟩
    (try go_wp2_with fail)
    refine hK.out _ _ ?_ (fun hHeld => ?_)
    · exact hHeld
    clear hK K
    try simp only [Act.put, List.getElem_toArray, List.getElem_cons_succ, List.getElem_cons_zero, List.setIfInBounds_toArray, List.set_cons_zero, List.set_cons_succ]
    refine wpAnyH_take (i := 7) (v := ?_) rfl (by kernel_rfl) (by kernel_rfl) (by kernel_rfl) (fun _ _ _ h => h) (Or.inl ⟨by rfl, ?_⟩) (by assumption) ?_
    rotate_left
    · intro wq hSw; (try dsimp only at hSw); go_simp; (try with_reducible rfl)
    simp only [Act.put, List.getElem_toArray, List.getElem_cons_succ, List.getElem_cons_zero, List.setIfInBounds_toArray, List.set_cons_zero, List.set_cons_succ]
    refine wpAnyH_take (i := 8) (v := ?_) rfl (by kernel_rfl) (by kernel_rfl) (by kernel_rfl) (fun _ _ _ h => h) (Or.inl ⟨by rfl, ?_⟩) (by assumption) ?_
    rotate_left
    · intro wq hSw; (try dsimp only at hSw); go_simp; (try with_reducible rfl)
    simp only [Act.put, List.getElem_toArray, List.getElem_cons_succ, List.getElem_cons_zero, List.setIfInBounds_toArray, List.set_cons_zero, List.set_cons_succ]
    refine wpAnyH_ready (rs := [11]) (by kernel_rfl) (by simp) ?_
    refine AllReadyH.cons rfl (fun K hK => ?_) AllReadyH.nil
    go_simp
    refine (C3.out _).mono ?_
    rintro e w3 ⟨rfl, rfl⟩
    (try go_wp2_with fail)
    refine hK.out _ _ ?_ (fun hHeld => ?_)
    · exact hHeld
    clear hK K
    try simp only [Act.put, List.getElem_toArray, List.getElem_cons_succ, List.getElem_cons_zero, List.setIfInBounds_toArray, List.set_cons_zero, List.set_cons_succ]
    refine wpAnyH_take (i := 12) (v := ?_) rfl (by kernel_rfl) (by kernel_rfl) (by kernel_rfl) (fun _ _ _ h => h) (Or.inl ⟨by rfl, ?_⟩) (by assumption) ?_
    rotate_left
    · intro wq hSw; (try dsimp only at hSw); go_simp; (try with_reducible rfl)
    simp only [Act.put, List.getElem_toArray, List.getElem_cons_succ, List.getElem_cons_zero, List.setIfInBounds_toArray, List.set_cons_zero, List.set_cons_succ]
    refine wpAnyH_take (i := 13) (v := ?_) rfl (by kernel_rfl) (by kernel_rfl) (by kernel_rfl) (fun _ _ _ h => h) (Or.inl ⟨by rfl, ?_⟩) (by assumption) ?_
    rotate_left
    · intro wq hSw; (try dsimp only at hSw); go_simp; (try with_reducible rfl)
    simp only [Act.put, List.getElem_toArray, List.getElem_cons_succ, List.getElem_cons_zero, List.setIfInBounds_toArray, List.set_cons_zero, List.set_cons_succ]
    refine wpAnyH_ready (rs := [17]) (by kernel_rfl) (by simp) ?_
    refine AllReadyH.cons rfl (fun K hK => ?_) AllReadyH.nil
    go_simp
    refine (C4.out _).mono ?_
    rintro e w3 ⟨rfl, rfl⟩
    (try go_wp2_with fail)
    refine hK.out _ _ ?_ (fun hHeld => ?_)
    · exact hHeld
    clear hK K
    try simp only [Act.put, List.getElem_toArray, List.getElem_cons_succ, List.getElem_cons_zero, List.setIfInBounds_toArray, List.set_cons_zero, List.set_cons_succ]
    refine wpAnyH_take (i := 18) (v := ?_) rfl (by kernel_rfl) (by kernel_rfl) (by kernel_rfl) (fun _ _ _ h => h) (Or.inl ⟨by rfl, ?_⟩) (by assumption) ?_
    rotate_left
    · intro wq hSw; (try dsimp only at hSw); go_simp; (try with_reducible rfl)
    simp only [Act.put, List.getElem_toArray, List.getElem_cons_succ, List.getElem_cons_zero, List.setIfInBounds_toArray, List.set_cons_zero, List.set_cons_succ]
    refine wpAnyH_take (i := 19) (v := ?_) rfl (by kernel_rfl) (by kernel_rfl) (by kernel_rfl) (fun _ _ _ h => h) (Or.inl ⟨by rfl, ?_⟩) (by assumption) ?_
    rotate_left
    · intro wq hSw; (try dsimp only at hSw); go_simp; (try with_reducible rfl)
    simp only [Act.put, List.getElem_toArray, List.getElem_cons_succ, List.getElem_cons_zero, List.setIfInBounds_toArray, List.set_cons_zero, List.set_cons_succ]
    refine wpAnyH_take (i := 20) (v := ?_) rfl (by kernel_rfl) (by kernel_rfl) (by kernel_rfl) (fun _ _ _ h => h) (Or.inl ⟨by rfl, ?_⟩) (by assumption) ?_
    rotate_left
    · intro wq hSw; (try dsimp only at hSw); go_simp; (try with_reducible rfl)
    simp only [Act.put, List.getElem_toArray, List.getElem_cons_succ, List.getElem_cons_zero, List.setIfInBounds_toArray, List.set_cons_zero, List.set_cons_succ]
    refine wpAnyH_done (by kernel_rfl) ?_ _
    clear hHeld
    go_wp2_with fail
    go_ret2
    exact ⟨by rw [hfin.out]; rfl, HBF.out⟩
end Go.Proofs.YtkfidolbbnmjfaaDoor
