/-
  What ctx.Print tells, whatever the parent.
-/
import Derived.Deep.RegionHeld
import Derived.Test.YtkfidolbbnmjfaaDoorCtxParse
namespace Go.Proofs.YtkfidolbbnmjfaaDoor
open Go.RowKit Go.Proofs.CtxMath

def printOf (hi lo sp fl : Nat) : List UInt8 := (([] : List UInt8) ++ ([48, 48, 45] ++ last hi 16) ++ ([] ++ last lo 16) ++ ([45] ++ last sp 16) ++ ([45] ++ last fl 2))
def textOf (l : List UInt8) : ByteArray := ⟨l.toArray⟩
theorem text_list (l : List UInt8) : (textOf l).data.toList = l := by simp [textOf]
theorem text_size (l : List UInt8) : (textOf l).size = l.length := by rw [← size_list, text_list]
theorem text_app (a b : List UInt8) : textOf a ++ textOf b = textOf (a ++ b) := by
  have : (textOf a ++ textOf b).data.toList = (textOf (a ++ b)).data.toList := by simp [textOf, ByteArray.data_append]
  cases h1 : textOf a ++ textOf b
  cases h2 : textOf (a ++ b)
  rw [h1, h2] at this
  congr 1
  exact Array.toList_inj.1 this

theorem idxN0 (hi lo sp fl : Nat) (W : World) : (Instr.index 60 (.agg #[.int .u64 (hi : Int), .int .u64 (lo : Int), .int .u64 (sp : Int), .int .u64 (fl : Int)]) (.int .i64 0)).run Tryd.prog W = .ok (.int .u64 (hi : Int)) W := by kernel_rfl
theorem idxN1 (hi lo sp fl : Nat) (W : World) : (Instr.index 60 (.agg #[.int .u64 (hi : Int), .int .u64 (lo : Int), .int .u64 (sp : Int), .int .u64 (fl : Int)]) (.int .i64 1)).run Tryd.prog W = .ok (.int .u64 (lo : Int)) W := by kernel_rfl
theorem idxN2 (hi lo sp fl : Nat) (W : World) : (Instr.index 60 (.agg #[.int .u64 (hi : Int), .int .u64 (lo : Int), .int .u64 (sp : Int), .int .u64 (fl : Int)]) (.int .i64 2)).run Tryd.prog W = .ok (.int .u64 (sp : Int)) W := by kernel_rfl
theorem idxN3 (hi lo sp fl : Nat) (W : World) : (Instr.index 60 (.agg #[.int .u64 (hi : Int), .int .u64 (lo : Int), .int .u64 (sp : Int), .int .u64 (fl : Int)]) (.int .i64 3)).run Tryd.prog W = .ok (.int .u64 (fl : Int)) W := by kernel_rfl

set_option maxRecDepth 100000 in
set_option maxHeartbeats 2000000 in
theorem print_no (hi lo sp fl : Nat) (w : World) (hb : isPar hi lo sp = false) :
    Calls Tryd.prog 13 #[.agg #[.int .u64 (hi : Int), .int .u64 (lo : Int), .int .u64 (sp : Int), .int .u8 (fl : Int)]] w fun e w' => e = .returned (.tuple #[.string ⟨#[]⟩, .int .u16 1]) ∧ Below w.heap.size w w' := by
  have HI := Lib.hid (fun W => isParent_any hi lo sp fl W false hb)
  clear hb
  go_enter Tryd.func13, Tryd.ntmps13
  go_wp2_with fail
  refine (HI.out _).mono ?_
  rintro e w1 ⟨rfl, hb1⟩
  have HB1 := Lib.hid ((box_below (.cells #[.int .u64 (hi : Int), .int .u64 (lo : Int), .int .u64 (sp : Int), .int .u8 (fl : Int)] 33)).trans (hb1.mono (by rw [World.size_alloc]; omega)))
  clear hb1
  go_wp2_with fail
  go_ret2
  exact ⟨rfl, HB1.out⟩

set_option linter.unusedSimpArgs false in
set_option linter.unusedVariables false in
set_option maxRecDepth 100000 in
set_option maxHeartbeats 8000000 in
theorem print_yes (hi lo sp fl : Nat) (w : World) (hS : Shape w) (hfl : fl < 256) (hb : isPar hi lo sp = true) :
    Calls Tryd.prog 13 #[.agg #[.int .u64 (hi : Int), .int .u64 (lo : Int), .int .u64 (sp : Int), .int .u8 (fl : Int)]] w fun e w' => e = .returned (.tuple #[.string (textOf (printOf hi lo sp fl)), .int .u16 0]) ∧ Below w.heap.size w w' := by
  have HI := Lib.hid (fun W => isParent_any hi lo sp fl W true hb)
  have HS := Lib.hid hS
  have hw8 : IntKind.u64.wrap (fl : Int) = (fl : Int) := by rw [IntKind.wrap_u64]; omega
  clear hb
  go_enter Tryd.func13, Tryd.ntmps13
  go_wp2_with fail
  refine (HI.out _).mono ?_
  rintro e w1 ⟨rfl, hb1⟩
  have HB1 := Lib.hid ((box_below (.cells #[.int .u64 (hi : Int), .int .u64 (lo : Int), .int .u64 (sp : Int), .int .u8 (fl : Int)] 33)).trans (hb1.mono (by rw [World.size_alloc]; omega)))
  have hK := (blk_new w #[.int .u64 (hi : Int), .int .u64 (lo : Int), .int .u64 (sp : Int), .int .u8 (fl : Int)] 33).later hb1
  have k0 : w1.cell? ⟨w.heap.size, 0, none⟩ = some (.int .u64 (hi : Int)) := hK.cell 0 rfl
  have k1 : w1.cell? ⟨w.heap.size, 1, none⟩ = some (.int .u64 (lo : Int)) := hK.cell 1 rfl
  have k2 : w1.cell? ⟨w.heap.size, 2, none⟩ = some (.int .u64 (sp : Int)) := hK.cell 2 rfl
  have k3 : w1.cell? ⟨w.heap.size, 3, none⟩ = some (.int .u8 (fl : Int)) := hK.cell 3 rfl
  clear hb1 hK
  go_wp2_with fail
  go_loopw [4, 20] (fun sv iv wr => ∃ (k : Nat) (t : ByteArray), iv = .int .i64 (k : Int) ∧ sv = .string t ∧ Hid (Below w.heap.size w wr) ∧ (k = 0 ∧ t.size = 0 ∧ Hid (t = textOf (([] : List UInt8))) ∨ k = 1 ∧ t.size = 19 ∧ Hid (t = textOf (([] : List UInt8) ++ ([48, 48, 45] ++ last hi 16))) ∨ k = 2 ∧ t.size = 35 ∧ Hid (t = textOf (([] : List UInt8) ++ ([48, 48, 45] ++ last hi 16) ++ ([] ++ last lo 16))) ∨ k = 3 ∧ t.size = 52 ∧ Hid (t = textOf (([] : List UInt8) ++ ([48, 48, 45] ++ last hi 16) ++ ([] ++ last lo 16) ++ ([45] ++ last sp 16))) ∨ k = 4 ∧ t.size = 55 ∧ Hid (t = textOf (([] : List UInt8) ++ ([48, 48, 45] ++ last hi 16) ++ ([] ++ last lo 16) ++ ([45] ++ last sp 16) ++ ([45] ++ last fl 2))))) (fun _ iv _ => 4 - (intOf iv).toNat)
  case atStart => exact ⟨0, ⟨#[]⟩, rfl, rfl, HB1, .inl ⟨rfl, rfl, Lib.hid rfl⟩⟩
  case round =>
    obtain ⟨k, t, rfl, rfl, HB, hcase⟩ := hrel
    have hsh := (HS.out.later HB.out).cells
    rcases hcase with ⟨rfl, hts, HT⟩ | ⟨rfl, hts, HT⟩ | ⟨rfl, hts, HT⟩ | ⟨rfl, hts, HT⟩ | ⟨rfl, hts, HT⟩
    · have s0 : wr.drew.cell? ⟨0, 0, none⟩ = some (.string ⟨#[48, 48, 45]⟩) := hsh.1
      have s1 : wr.drew.cell? ⟨0, 1, none⟩ = some (.int .i64 16) := hsh.2.1
      have hgl : 0 < wr.drew.heap.size := (HS.out.later HB.out).lt
      have hix := idxN0 hi lo sp fl wr
      have HBd := Lib.hid HB.out.drew
      obtain ⟨u, hu⟩ : ∃ u, textOf (last hi 16) = u := ⟨_, rfl⟩
      have HL : Hid (∀ W, Calls Tryd.prog 29 #[.int .u64 (hi : Int), .int .i64 16] W fun e w' => e = .returned (.string u) ∧ Below W.heap.size W w') := Lib.hid (fun W => by
        rw [← hu]
        exact laid_any hi 16 W (by omega) (by omega))
      have hus : u.size = 16 := by rw [← hu, text_size, last_len _ _ (by omega)]
      obtain ⟨v1, hv1⟩ : ∃ v1, (⟨#[48, 48, 45]⟩ : ByteArray) ++ u = v1 := ⟨_, rfl⟩
      have hv1' : v1 = textOf ([48, 48, 45] ++ last hi 16) := by rw [← hv1, ← hu]; exact text_app [48, 48, 45] _
      have hv1s : v1.size = 19 := by rw [hv1', text_size, List.length_append, last_len _ _ (by omega)]; rfl
      obtain ⟨t2, ht2⟩ : ∃ t2, t ++ v1 = t2 := ⟨_, rfl⟩
      have HT2 : Hid (t2 = textOf (([] : List UInt8) ++ ([48, 48, 45] ++ last hi 16))) := Lib.hid (by rw [← ht2, HT.out, hv1']; exact text_app _ _)
      have ht2s : t2.size = 19 := by rw [← ht2, ByteArray.size_append, hts, hv1s]
      clear hu hv1' HT hsh
      go_wp2_with fail
      refine wp_region_held_drew (S := fun W => W.cell? ⟨0, 0, none⟩ = some (.string ⟨#[48, 48, 45]⟩) ∧ W.cell? ⟨0, 1, none⟩ = some (.int .i64 16)) (by kernel_rfl) ?_ (fun hHeld => ?_)
      · exact ⟨s0, s1⟩
      refine wpAnyH_take (i := 0) (v := ?_) rfl (by kernel_rfl) (by kernel_rfl) (by kernel_rfl) (fun _ _ _ h => h) (Or.inl ⟨by rfl, ?_⟩) (by assumption) ?_
      rotate_left
      · intro wq hSw; (try dsimp only at hSw); go_simp; (try with_reducible rfl)
      simp only [Act.put, List.getElem_toArray, List.getElem_cons_succ, List.getElem_cons_zero, List.setIfInBounds_toArray, List.set_cons_zero, List.set_cons_succ]
      refine wpAnyH_take (i := 1) (v := ?_) rfl (by kernel_rfl) (by kernel_rfl) (by kernel_rfl) (fun _ _ _ h => h) (Or.inl ⟨by rfl, ?_⟩) (by assumption) ?_
      rotate_left
      · intro wq hSw; (try dsimp only at hSw); go_simp; (try with_reducible rfl)
      simp only [Act.put, List.getElem_toArray, List.getElem_cons_succ, List.getElem_cons_zero, List.setIfInBounds_toArray, List.set_cons_zero, List.set_cons_succ]
      refine wpAnyH_take (i := 2) (v := ?_) rfl (by kernel_rfl) (by kernel_rfl) (by kernel_rfl) (fun _ _ _ h => h) (Or.inl ⟨by rfl, ?_⟩) (by assumption) ?_
      rotate_left
      · intro wq hSw; (try dsimp only at hSw); go_simp; (try with_reducible rfl)
      simp only [Act.put, List.getElem_toArray, List.getElem_cons_succ, List.getElem_cons_zero, List.setIfInBounds_toArray, List.set_cons_zero, List.set_cons_succ]
      refine wpAnyH_take (i := 3) (v := ?_) rfl (by kernel_rfl) (by kernel_rfl) (by kernel_rfl) (fun _ _ _ h => h) (Or.inl ⟨by rfl, ?_⟩) (by assumption) ?_
      rotate_left
      · intro wq hSw; (try dsimp only at hSw); go_simp; (try with_reducible rfl)
      simp only [Act.put, List.getElem_toArray, List.getElem_cons_succ, List.getElem_cons_zero, List.setIfInBounds_toArray, List.set_cons_zero, List.set_cons_succ]
      refine wpAnyH_take (i := 4) (v := ?_) rfl (by kernel_rfl) (by kernel_rfl) (by kernel_rfl) (fun _ _ _ h => h) (Or.inl ⟨by rfl, ?_⟩) (by assumption) ?_
      rotate_left
      · intro wq hSw; (try dsimp only at hSw); have hq := hSw.1; go_simp; (try with_reducible rfl)
      simp only [Act.put, List.getElem_toArray, List.getElem_cons_succ, List.getElem_cons_zero, List.setIfInBounds_toArray, List.set_cons_zero, List.set_cons_succ]
      refine wpAnyH_take (i := 5) (v := ?_) rfl (by kernel_rfl) (by kernel_rfl) (by kernel_rfl) (fun _ _ _ h => h) (Or.inl ⟨by rfl, ?_⟩) (by assumption) ?_
      rotate_left
      · intro wq hSw; (try dsimp only at hSw); go_simp; (try with_reducible rfl)
      simp only [Act.put, List.getElem_toArray, List.getElem_cons_succ, List.getElem_cons_zero, List.setIfInBounds_toArray, List.set_cons_zero, List.set_cons_succ]
      refine wpAnyH_take (i := 6) (v := ?_) rfl (by kernel_rfl) (by kernel_rfl) (by kernel_rfl) (fun _ _ _ h => h) (Or.inl ⟨by rfl, ?_⟩) (by assumption) ?_
      rotate_left
      · intro wq hSw; (try dsimp only at hSw); go_simp; (try with_reducible rfl)
      simp only [Act.put, List.getElem_toArray, List.getElem_cons_succ, List.getElem_cons_zero, List.setIfInBounds_toArray, List.set_cons_zero, List.set_cons_succ]
      refine wpAnyH_take (i := 7) (v := ?_) rfl (by kernel_rfl) (by kernel_rfl) (by kernel_rfl) (fun _ _ _ h => h) (Or.inl ⟨by rfl, ?_⟩) (by assumption) ?_
      rotate_left
      · intro wq hSw; (try dsimp only at hSw); go_simp; (try with_reducible rfl)
      simp only [Act.put, List.getElem_toArray, List.getElem_cons_succ, List.getElem_cons_zero, List.setIfInBounds_toArray, List.set_cons_zero, List.set_cons_succ]
      refine wpAnyH_take (i := 8) (v := ?_) rfl (by kernel_rfl) (by kernel_rfl) (by kernel_rfl) (fun _ _ _ h => h) (Or.inl ⟨by rfl, ?_⟩) (by assumption) ?_
      rotate_left
      · intro wq hSw; (try dsimp only at hSw); go_simp; (try with_reducible rfl)
      simp only [Act.put, List.getElem_toArray, List.getElem_cons_succ, List.getElem_cons_zero, List.setIfInBounds_toArray, List.set_cons_zero, List.set_cons_succ]
      refine wpAnyH_take (i := 9) (v := ?_) rfl (by kernel_rfl) (by kernel_rfl) (by kernel_rfl) (fun _ _ _ h => h) (Or.inl ⟨by rfl, ?_⟩) (by assumption) ?_
      rotate_left
      · intro wq hSw; (try dsimp only at hSw); have hq := hSw.2; go_simp; (try with_reducible rfl)
      simp only [Act.put, List.getElem_toArray, List.getElem_cons_succ, List.getElem_cons_zero, List.setIfInBounds_toArray, List.set_cons_zero, List.set_cons_succ]
      refine wpAnyH_ready (rs := [10]) (by kernel_rfl) (by simp) ?_
      refine AllReadyH.cons rfl (fun K hK => ?_) AllReadyH.nil
      go_simp
      refine (HL.out _).mono ?_
      rintro e w3 ⟨rfl, hb3⟩
      have HB3 := Lib.hid (HBd.out.trans (hb3.mono HBd.out.size))
      (try go_wp2_with fail)
      refine hK.out _ _ ?_ (fun hHeld => ?_)
      · exact ⟨(hb3.cell (p := ⟨0, 0, none⟩) hgl).trans s0, (hb3.cell (p := ⟨0, 1, none⟩) hgl).trans s1⟩
      clear hK K
      try simp only [Act.put, List.getElem_toArray, List.getElem_cons_succ, List.getElem_cons_zero, List.setIfInBounds_toArray, List.set_cons_zero, List.set_cons_succ]
      refine wpAnyH_take (i := 11) (v := ?_) rfl (by kernel_rfl) (by kernel_rfl) (by kernel_rfl) (fun _ _ _ h => h) (Or.inl ⟨by rfl, ?_⟩) (by assumption) ?_
      rotate_left
      · intro wq hSw; (try dsimp only at hSw); go_simp; (try with_reducible rfl)
      simp only [Act.put, List.getElem_toArray, List.getElem_cons_succ, List.getElem_cons_zero, List.setIfInBounds_toArray, List.set_cons_zero, List.set_cons_succ]
      refine wpAnyH_take (i := 12) (v := ?_) rfl (by kernel_rfl) (by kernel_rfl) (by kernel_rfl) (fun _ _ _ h => h) (Or.inl ⟨by rfl, ?_⟩) (by assumption) ?_
      rotate_left
      · intro wq hSw; (try dsimp only at hSw); go_simp; (try with_reducible rfl)
      simp only [Act.put, List.getElem_toArray, List.getElem_cons_succ, List.getElem_cons_zero, List.setIfInBounds_toArray, List.set_cons_zero, List.set_cons_succ]
      refine wpAnyH_take (i := 13) (v := ?_) rfl (by kernel_rfl) (by kernel_rfl) (by kernel_rfl) (fun _ _ _ h => h) (Or.inl ⟨by rfl, ?_⟩) (by assumption) ?_
      rotate_left
      · intro wq hSw; (try dsimp only at hSw); go_simp; (try with_reducible rfl)
      simp only [Act.put, List.getElem_toArray, List.getElem_cons_succ, List.getElem_cons_zero, List.setIfInBounds_toArray, List.set_cons_zero, List.set_cons_succ]
      refine wpAnyH_done (by kernel_rfl) ?_ _
      clear hHeld
      clear hb3
      go_wp2_with fail
      go_roundw
      case rel => exact ⟨1, t2, rfl, rfl, HB3, .inr (.inl ⟨rfl, ht2s, HT2⟩)⟩
      case measure => simp [intOf]
    · have s0 : wr.drew.cell? ⟨0, 2, none⟩ = some (.string ⟨#[]⟩) := hsh.2.2.1
      have s1 : wr.drew.cell? ⟨0, 3, none⟩ = some (.int .i64 16) := hsh.2.2.2.1
      have hgl : 0 < wr.drew.heap.size := (HS.out.later HB.out).lt
      have hix := idxN1 hi lo sp fl wr
      have HBd := Lib.hid HB.out.drew
      obtain ⟨u, hu⟩ : ∃ u, textOf (last lo 16) = u := ⟨_, rfl⟩
      have HL : Hid (∀ W, Calls Tryd.prog 29 #[.int .u64 (lo : Int), .int .i64 16] W fun e w' => e = .returned (.string u) ∧ Below W.heap.size W w') := Lib.hid (fun W => by
        rw [← hu]
        exact laid_any lo 16 W (by omega) (by omega))
      have hus : u.size = 16 := by rw [← hu, text_size, last_len _ _ (by omega)]
      obtain ⟨v1, hv1⟩ : ∃ v1, (⟨#[]⟩ : ByteArray) ++ u = v1 := ⟨_, rfl⟩
      have hv1' : v1 = textOf ([] ++ last lo 16) := by rw [← hv1, ← hu]; exact text_app [] _
      have hv1s : v1.size = 16 := by rw [hv1', text_size, List.length_append, last_len _ _ (by omega)]; rfl
      obtain ⟨t2, ht2⟩ : ∃ t2, t ++ v1 = t2 := ⟨_, rfl⟩
      have HT2 : Hid (t2 = textOf (([] : List UInt8) ++ ([48, 48, 45] ++ last hi 16) ++ ([] ++ last lo 16))) := Lib.hid (by rw [← ht2, HT.out, hv1']; exact text_app _ _)
      have ht2s : t2.size = 35 := by rw [← ht2, ByteArray.size_append, hts, hv1s]
      clear hu hv1' HT hsh
      go_wp2_with fail
      refine wp_region_held_drew (S := fun W => W.cell? ⟨0, 2, none⟩ = some (.string ⟨#[]⟩) ∧ W.cell? ⟨0, 3, none⟩ = some (.int .i64 16)) (by kernel_rfl) ?_ (fun hHeld => ?_)
      · exact ⟨s0, s1⟩
      refine wpAnyH_take (i := 0) (v := ?_) rfl (by kernel_rfl) (by kernel_rfl) (by kernel_rfl) (fun _ _ _ h => h) (Or.inl ⟨by rfl, ?_⟩) (by assumption) ?_
      rotate_left
      · intro wq hSw; (try dsimp only at hSw); go_simp; (try with_reducible rfl)
      simp only [Act.put, List.getElem_toArray, List.getElem_cons_succ, List.getElem_cons_zero, List.setIfInBounds_toArray, List.set_cons_zero, List.set_cons_succ]
      refine wpAnyH_take (i := 1) (v := ?_) rfl (by kernel_rfl) (by kernel_rfl) (by kernel_rfl) (fun _ _ _ h => h) (Or.inl ⟨by rfl, ?_⟩) (by assumption) ?_
      rotate_left
      · intro wq hSw; (try dsimp only at hSw); go_simp; (try with_reducible rfl)
      simp only [Act.put, List.getElem_toArray, List.getElem_cons_succ, List.getElem_cons_zero, List.setIfInBounds_toArray, List.set_cons_zero, List.set_cons_succ]
      refine wpAnyH_take (i := 2) (v := ?_) rfl (by kernel_rfl) (by kernel_rfl) (by kernel_rfl) (fun _ _ _ h => h) (Or.inl ⟨by rfl, ?_⟩) (by assumption) ?_
      rotate_left
      · intro wq hSw; (try dsimp only at hSw); go_simp; (try with_reducible rfl)
      simp only [Act.put, List.getElem_toArray, List.getElem_cons_succ, List.getElem_cons_zero, List.setIfInBounds_toArray, List.set_cons_zero, List.set_cons_succ]
      refine wpAnyH_take (i := 3) (v := ?_) rfl (by kernel_rfl) (by kernel_rfl) (by kernel_rfl) (fun _ _ _ h => h) (Or.inl ⟨by rfl, ?_⟩) (by assumption) ?_
      rotate_left
      · intro wq hSw; (try dsimp only at hSw); go_simp; (try with_reducible rfl)
      simp only [Act.put, List.getElem_toArray, List.getElem_cons_succ, List.getElem_cons_zero, List.setIfInBounds_toArray, List.set_cons_zero, List.set_cons_succ]
      refine wpAnyH_take (i := 4) (v := ?_) rfl (by kernel_rfl) (by kernel_rfl) (by kernel_rfl) (fun _ _ _ h => h) (Or.inl ⟨by rfl, ?_⟩) (by assumption) ?_
      rotate_left
      · intro wq hSw; (try dsimp only at hSw); have hq := hSw.1; go_simp; (try with_reducible rfl)
      simp only [Act.put, List.getElem_toArray, List.getElem_cons_succ, List.getElem_cons_zero, List.setIfInBounds_toArray, List.set_cons_zero, List.set_cons_succ]
      refine wpAnyH_take (i := 5) (v := ?_) rfl (by kernel_rfl) (by kernel_rfl) (by kernel_rfl) (fun _ _ _ h => h) (Or.inl ⟨by rfl, ?_⟩) (by assumption) ?_
      rotate_left
      · intro wq hSw; (try dsimp only at hSw); go_simp; (try with_reducible rfl)
      simp only [Act.put, List.getElem_toArray, List.getElem_cons_succ, List.getElem_cons_zero, List.setIfInBounds_toArray, List.set_cons_zero, List.set_cons_succ]
      refine wpAnyH_take (i := 6) (v := ?_) rfl (by kernel_rfl) (by kernel_rfl) (by kernel_rfl) (fun _ _ _ h => h) (Or.inl ⟨by rfl, ?_⟩) (by assumption) ?_
      rotate_left
      · intro wq hSw; (try dsimp only at hSw); go_simp; (try with_reducible rfl)
      simp only [Act.put, List.getElem_toArray, List.getElem_cons_succ, List.getElem_cons_zero, List.setIfInBounds_toArray, List.set_cons_zero, List.set_cons_succ]
      refine wpAnyH_take (i := 7) (v := ?_) rfl (by kernel_rfl) (by kernel_rfl) (by kernel_rfl) (fun _ _ _ h => h) (Or.inl ⟨by rfl, ?_⟩) (by assumption) ?_
      rotate_left
      · intro wq hSw; (try dsimp only at hSw); go_simp; (try with_reducible rfl)
      simp only [Act.put, List.getElem_toArray, List.getElem_cons_succ, List.getElem_cons_zero, List.setIfInBounds_toArray, List.set_cons_zero, List.set_cons_succ]
      refine wpAnyH_take (i := 8) (v := ?_) rfl (by kernel_rfl) (by kernel_rfl) (by kernel_rfl) (fun _ _ _ h => h) (Or.inl ⟨by rfl, ?_⟩) (by assumption) ?_
      rotate_left
      · intro wq hSw; (try dsimp only at hSw); go_simp; (try with_reducible rfl)
      simp only [Act.put, List.getElem_toArray, List.getElem_cons_succ, List.getElem_cons_zero, List.setIfInBounds_toArray, List.set_cons_zero, List.set_cons_succ]
      refine wpAnyH_take (i := 9) (v := ?_) rfl (by kernel_rfl) (by kernel_rfl) (by kernel_rfl) (fun _ _ _ h => h) (Or.inl ⟨by rfl, ?_⟩) (by assumption) ?_
      rotate_left
      · intro wq hSw; (try dsimp only at hSw); have hq := hSw.2; go_simp; (try with_reducible rfl)
      simp only [Act.put, List.getElem_toArray, List.getElem_cons_succ, List.getElem_cons_zero, List.setIfInBounds_toArray, List.set_cons_zero, List.set_cons_succ]
      refine wpAnyH_ready (rs := [10]) (by kernel_rfl) (by simp) ?_
      refine AllReadyH.cons rfl (fun K hK => ?_) AllReadyH.nil
      go_simp
      refine (HL.out _).mono ?_
      rintro e w3 ⟨rfl, hb3⟩
      have HB3 := Lib.hid (HBd.out.trans (hb3.mono HBd.out.size))
      (try go_wp2_with fail)
      refine hK.out _ _ ?_ (fun hHeld => ?_)
      · exact ⟨(hb3.cell (p := ⟨0, 2, none⟩) hgl).trans s0, (hb3.cell (p := ⟨0, 3, none⟩) hgl).trans s1⟩
      clear hK K
      try simp only [Act.put, List.getElem_toArray, List.getElem_cons_succ, List.getElem_cons_zero, List.setIfInBounds_toArray, List.set_cons_zero, List.set_cons_succ]
      refine wpAnyH_take (i := 11) (v := ?_) rfl (by kernel_rfl) (by kernel_rfl) (by kernel_rfl) (fun _ _ _ h => h) (Or.inl ⟨by rfl, ?_⟩) (by assumption) ?_
      rotate_left
      · intro wq hSw; (try dsimp only at hSw); go_simp; (try with_reducible rfl)
      simp only [Act.put, List.getElem_toArray, List.getElem_cons_succ, List.getElem_cons_zero, List.setIfInBounds_toArray, List.set_cons_zero, List.set_cons_succ]
      refine wpAnyH_take (i := 12) (v := ?_) rfl (by kernel_rfl) (by kernel_rfl) (by kernel_rfl) (fun _ _ _ h => h) (Or.inl ⟨by rfl, ?_⟩) (by assumption) ?_
      rotate_left
      · intro wq hSw; (try dsimp only at hSw); go_simp; (try with_reducible rfl)
      simp only [Act.put, List.getElem_toArray, List.getElem_cons_succ, List.getElem_cons_zero, List.setIfInBounds_toArray, List.set_cons_zero, List.set_cons_succ]
      refine wpAnyH_take (i := 13) (v := ?_) rfl (by kernel_rfl) (by kernel_rfl) (by kernel_rfl) (fun _ _ _ h => h) (Or.inl ⟨by rfl, ?_⟩) (by assumption) ?_
      rotate_left
      · intro wq hSw; (try dsimp only at hSw); go_simp; (try with_reducible rfl)
      simp only [Act.put, List.getElem_toArray, List.getElem_cons_succ, List.getElem_cons_zero, List.setIfInBounds_toArray, List.set_cons_zero, List.set_cons_succ]
      refine wpAnyH_done (by kernel_rfl) ?_ _
      clear hHeld
      clear hb3
      go_wp2_with fail
      go_roundw
      case rel => exact ⟨2, t2, rfl, rfl, HB3, .inr (.inr (.inl ⟨rfl, ht2s, HT2⟩))⟩
      case measure => simp [intOf]
    · have s0 : wr.drew.cell? ⟨0, 4, none⟩ = some (.string ⟨#[45]⟩) := hsh.2.2.2.2.1
      have s1 : wr.drew.cell? ⟨0, 5, none⟩ = some (.int .i64 16) := hsh.2.2.2.2.2.1
      have hgl : 0 < wr.drew.heap.size := (HS.out.later HB.out).lt
      have hix := idxN2 hi lo sp fl wr
      have HBd := Lib.hid HB.out.drew
      obtain ⟨u, hu⟩ : ∃ u, textOf (last sp 16) = u := ⟨_, rfl⟩
      have HL : Hid (∀ W, Calls Tryd.prog 29 #[.int .u64 (sp : Int), .int .i64 16] W fun e w' => e = .returned (.string u) ∧ Below W.heap.size W w') := Lib.hid (fun W => by
        rw [← hu]
        exact laid_any sp 16 W (by omega) (by omega))
      have hus : u.size = 16 := by rw [← hu, text_size, last_len _ _ (by omega)]
      obtain ⟨v1, hv1⟩ : ∃ v1, (⟨#[45]⟩ : ByteArray) ++ u = v1 := ⟨_, rfl⟩
      have hv1' : v1 = textOf ([45] ++ last sp 16) := by rw [← hv1, ← hu]; exact text_app [45] _
      have hv1s : v1.size = 17 := by rw [hv1', text_size, List.length_append, last_len _ _ (by omega)]; rfl
      obtain ⟨t2, ht2⟩ : ∃ t2, t ++ v1 = t2 := ⟨_, rfl⟩
      have HT2 : Hid (t2 = textOf (([] : List UInt8) ++ ([48, 48, 45] ++ last hi 16) ++ ([] ++ last lo 16) ++ ([45] ++ last sp 16))) := Lib.hid (by rw [← ht2, HT.out, hv1']; exact text_app _ _)
      have ht2s : t2.size = 52 := by rw [← ht2, ByteArray.size_append, hts, hv1s]
      clear hu hv1' HT hsh
      go_wp2_with fail
      refine wp_region_held_drew (S := fun W => W.cell? ⟨0, 4, none⟩ = some (.string ⟨#[45]⟩) ∧ W.cell? ⟨0, 5, none⟩ = some (.int .i64 16)) (by kernel_rfl) ?_ (fun hHeld => ?_)
      · exact ⟨s0, s1⟩
      refine wpAnyH_take (i := 0) (v := ?_) rfl (by kernel_rfl) (by kernel_rfl) (by kernel_rfl) (fun _ _ _ h => h) (Or.inl ⟨by rfl, ?_⟩) (by assumption) ?_
      rotate_left
      · intro wq hSw; (try dsimp only at hSw); go_simp; (try with_reducible rfl)
      simp only [Act.put, List.getElem_toArray, List.getElem_cons_succ, List.getElem_cons_zero, List.setIfInBounds_toArray, List.set_cons_zero, List.set_cons_succ]
      refine wpAnyH_take (i := 1) (v := ?_) rfl (by kernel_rfl) (by kernel_rfl) (by kernel_rfl) (fun _ _ _ h => h) (Or.inl ⟨by rfl, ?_⟩) (by assumption) ?_
      rotate_left
      · intro wq hSw; (try dsimp only at hSw); go_simp; (try with_reducible rfl)
      simp only [Act.put, List.getElem_toArray, List.getElem_cons_succ, List.getElem_cons_zero, List.setIfInBounds_toArray, List.set_cons_zero, List.set_cons_succ]
      refine wpAnyH_take (i := 2) (v := ?_) rfl (by kernel_rfl) (by kernel_rfl) (by kernel_rfl) (fun _ _ _ h => h) (Or.inl ⟨by rfl, ?_⟩) (by assumption) ?_
      rotate_left
      · intro wq hSw; (try dsimp only at hSw); go_simp; (try with_reducible rfl)
      simp only [Act.put, List.getElem_toArray, List.getElem_cons_succ, List.getElem_cons_zero, List.setIfInBounds_toArray, List.set_cons_zero, List.set_cons_succ]
      refine wpAnyH_take (i := 3) (v := ?_) rfl (by kernel_rfl) (by kernel_rfl) (by kernel_rfl) (fun _ _ _ h => h) (Or.inl ⟨by rfl, ?_⟩) (by assumption) ?_
      rotate_left
      · intro wq hSw; (try dsimp only at hSw); go_simp; (try with_reducible rfl)
      simp only [Act.put, List.getElem_toArray, List.getElem_cons_succ, List.getElem_cons_zero, List.setIfInBounds_toArray, List.set_cons_zero, List.set_cons_succ]
      refine wpAnyH_take (i := 4) (v := ?_) rfl (by kernel_rfl) (by kernel_rfl) (by kernel_rfl) (fun _ _ _ h => h) (Or.inl ⟨by rfl, ?_⟩) (by assumption) ?_
      rotate_left
      · intro wq hSw; (try dsimp only at hSw); have hq := hSw.1; go_simp; (try with_reducible rfl)
      simp only [Act.put, List.getElem_toArray, List.getElem_cons_succ, List.getElem_cons_zero, List.setIfInBounds_toArray, List.set_cons_zero, List.set_cons_succ]
      refine wpAnyH_take (i := 5) (v := ?_) rfl (by kernel_rfl) (by kernel_rfl) (by kernel_rfl) (fun _ _ _ h => h) (Or.inl ⟨by rfl, ?_⟩) (by assumption) ?_
      rotate_left
      · intro wq hSw; (try dsimp only at hSw); go_simp; (try with_reducible rfl)
      simp only [Act.put, List.getElem_toArray, List.getElem_cons_succ, List.getElem_cons_zero, List.setIfInBounds_toArray, List.set_cons_zero, List.set_cons_succ]
      refine wpAnyH_take (i := 6) (v := ?_) rfl (by kernel_rfl) (by kernel_rfl) (by kernel_rfl) (fun _ _ _ h => h) (Or.inl ⟨by rfl, ?_⟩) (by assumption) ?_
      rotate_left
      · intro wq hSw; (try dsimp only at hSw); go_simp; (try with_reducible rfl)
      simp only [Act.put, List.getElem_toArray, List.getElem_cons_succ, List.getElem_cons_zero, List.setIfInBounds_toArray, List.set_cons_zero, List.set_cons_succ]
      refine wpAnyH_take (i := 7) (v := ?_) rfl (by kernel_rfl) (by kernel_rfl) (by kernel_rfl) (fun _ _ _ h => h) (Or.inl ⟨by rfl, ?_⟩) (by assumption) ?_
      rotate_left
      · intro wq hSw; (try dsimp only at hSw); go_simp; (try with_reducible rfl)
      simp only [Act.put, List.getElem_toArray, List.getElem_cons_succ, List.getElem_cons_zero, List.setIfInBounds_toArray, List.set_cons_zero, List.set_cons_succ]
      refine wpAnyH_take (i := 8) (v := ?_) rfl (by kernel_rfl) (by kernel_rfl) (by kernel_rfl) (fun _ _ _ h => h) (Or.inl ⟨by rfl, ?_⟩) (by assumption) ?_
      rotate_left
      · intro wq hSw; (try dsimp only at hSw); go_simp; (try with_reducible rfl)
      simp only [Act.put, List.getElem_toArray, List.getElem_cons_succ, List.getElem_cons_zero, List.setIfInBounds_toArray, List.set_cons_zero, List.set_cons_succ]
      refine wpAnyH_take (i := 9) (v := ?_) rfl (by kernel_rfl) (by kernel_rfl) (by kernel_rfl) (fun _ _ _ h => h) (Or.inl ⟨by rfl, ?_⟩) (by assumption) ?_
      rotate_left
      · intro wq hSw; (try dsimp only at hSw); have hq := hSw.2; go_simp; (try with_reducible rfl)
      simp only [Act.put, List.getElem_toArray, List.getElem_cons_succ, List.getElem_cons_zero, List.setIfInBounds_toArray, List.set_cons_zero, List.set_cons_succ]
      refine wpAnyH_ready (rs := [10]) (by kernel_rfl) (by simp) ?_
      refine AllReadyH.cons rfl (fun K hK => ?_) AllReadyH.nil
      go_simp
      refine (HL.out _).mono ?_
      rintro e w3 ⟨rfl, hb3⟩
      have HB3 := Lib.hid (HBd.out.trans (hb3.mono HBd.out.size))
      (try go_wp2_with fail)
      refine hK.out _ _ ?_ (fun hHeld => ?_)
      · exact ⟨(hb3.cell (p := ⟨0, 4, none⟩) hgl).trans s0, (hb3.cell (p := ⟨0, 5, none⟩) hgl).trans s1⟩
      clear hK K
      try simp only [Act.put, List.getElem_toArray, List.getElem_cons_succ, List.getElem_cons_zero, List.setIfInBounds_toArray, List.set_cons_zero, List.set_cons_succ]
      refine wpAnyH_take (i := 11) (v := ?_) rfl (by kernel_rfl) (by kernel_rfl) (by kernel_rfl) (fun _ _ _ h => h) (Or.inl ⟨by rfl, ?_⟩) (by assumption) ?_
      rotate_left
      · intro wq hSw; (try dsimp only at hSw); go_simp; (try with_reducible rfl)
      simp only [Act.put, List.getElem_toArray, List.getElem_cons_succ, List.getElem_cons_zero, List.setIfInBounds_toArray, List.set_cons_zero, List.set_cons_succ]
      refine wpAnyH_take (i := 12) (v := ?_) rfl (by kernel_rfl) (by kernel_rfl) (by kernel_rfl) (fun _ _ _ h => h) (Or.inl ⟨by rfl, ?_⟩) (by assumption) ?_
      rotate_left
      · intro wq hSw; (try dsimp only at hSw); go_simp; (try with_reducible rfl)
      simp only [Act.put, List.getElem_toArray, List.getElem_cons_succ, List.getElem_cons_zero, List.setIfInBounds_toArray, List.set_cons_zero, List.set_cons_succ]
      refine wpAnyH_take (i := 13) (v := ?_) rfl (by kernel_rfl) (by kernel_rfl) (by kernel_rfl) (fun _ _ _ h => h) (Or.inl ⟨by rfl, ?_⟩) (by assumption) ?_
      rotate_left
      · intro wq hSw; (try dsimp only at hSw); go_simp; (try with_reducible rfl)
      simp only [Act.put, List.getElem_toArray, List.getElem_cons_succ, List.getElem_cons_zero, List.setIfInBounds_toArray, List.set_cons_zero, List.set_cons_succ]
      refine wpAnyH_done (by kernel_rfl) ?_ _
      clear hHeld
      clear hb3
      go_wp2_with fail
      go_roundw
      case rel => exact ⟨3, t2, rfl, rfl, HB3, .inr (.inr (.inr (.inl ⟨rfl, ht2s, HT2⟩)))⟩
      case measure => simp [intOf]
    · have s0 : wr.drew.cell? ⟨0, 6, none⟩ = some (.string ⟨#[45]⟩) := hsh.2.2.2.2.2.2.1
      have s1 : wr.drew.cell? ⟨0, 7, none⟩ = some (.int .i64 2) := hsh.2.2.2.2.2.2.2
      have hgl : 0 < wr.drew.heap.size := (HS.out.later HB.out).lt
      have hix := idxN3 hi lo sp fl wr
      have HBd := Lib.hid HB.out.drew
      obtain ⟨u, hu⟩ : ∃ u, textOf (last fl 2) = u := ⟨_, rfl⟩
      have HL : Hid (∀ W, Calls Tryd.prog 29 #[.int .u64 (fl : Int), .int .i64 2] W fun e w' => e = .returned (.string u) ∧ Below W.heap.size W w') := Lib.hid (fun W => by
        rw [← hu]
        exact laid_any fl 2 W (by omega) (by omega))
      have hus : u.size = 2 := by rw [← hu, text_size, last_len _ _ (by omega)]
      obtain ⟨v1, hv1⟩ : ∃ v1, (⟨#[45]⟩ : ByteArray) ++ u = v1 := ⟨_, rfl⟩
      have hv1' : v1 = textOf ([45] ++ last fl 2) := by rw [← hv1, ← hu]; exact text_app [45] _
      have hv1s : v1.size = 3 := by rw [hv1', text_size, List.length_append, last_len _ _ (by omega)]; rfl
      obtain ⟨t2, ht2⟩ : ∃ t2, t ++ v1 = t2 := ⟨_, rfl⟩
      have HT2 : Hid (t2 = textOf (([] : List UInt8) ++ ([48, 48, 45] ++ last hi 16) ++ ([] ++ last lo 16) ++ ([45] ++ last sp 16) ++ ([45] ++ last fl 2))) := Lib.hid (by rw [← ht2, HT.out, hv1']; exact text_app _ _)
      have ht2s : t2.size = 55 := by rw [← ht2, ByteArray.size_append, hts, hv1s]
      clear hu hv1' HT hsh
      go_wp2_with fail
      refine wp_region_held_drew (S := fun W => W.cell? ⟨0, 6, none⟩ = some (.string ⟨#[45]⟩) ∧ W.cell? ⟨0, 7, none⟩ = some (.int .i64 2)) (by kernel_rfl) ?_ (fun hHeld => ?_)
      · exact ⟨s0, s1⟩
      refine wpAnyH_take (i := 0) (v := ?_) rfl (by kernel_rfl) (by kernel_rfl) (by kernel_rfl) (fun _ _ _ h => h) (Or.inl ⟨by rfl, ?_⟩) (by assumption) ?_
      rotate_left
      · intro wq hSw; (try dsimp only at hSw); go_simp; (try with_reducible rfl)
      simp only [Act.put, List.getElem_toArray, List.getElem_cons_succ, List.getElem_cons_zero, List.setIfInBounds_toArray, List.set_cons_zero, List.set_cons_succ]
      refine wpAnyH_take (i := 1) (v := ?_) rfl (by kernel_rfl) (by kernel_rfl) (by kernel_rfl) (fun _ _ _ h => h) (Or.inl ⟨by rfl, ?_⟩) (by assumption) ?_
      rotate_left
      · intro wq hSw; (try dsimp only at hSw); go_simp; (try with_reducible rfl)
      simp only [Act.put, List.getElem_toArray, List.getElem_cons_succ, List.getElem_cons_zero, List.setIfInBounds_toArray, List.set_cons_zero, List.set_cons_succ]
      refine wpAnyH_take (i := 2) (v := ?_) rfl (by kernel_rfl) (by kernel_rfl) (by kernel_rfl) (fun _ _ _ h => h) (Or.inl ⟨by rfl, ?_⟩) (by assumption) ?_
      rotate_left
      · intro wq hSw; (try dsimp only at hSw); go_simp; (try with_reducible rfl)
      simp only [Act.put, List.getElem_toArray, List.getElem_cons_succ, List.getElem_cons_zero, List.setIfInBounds_toArray, List.set_cons_zero, List.set_cons_succ]
      refine wpAnyH_take (i := 3) (v := ?_) rfl (by kernel_rfl) (by kernel_rfl) (by kernel_rfl) (fun _ _ _ h => h) (Or.inl ⟨by rfl, ?_⟩) (by assumption) ?_
      rotate_left
      · intro wq hSw; (try dsimp only at hSw); go_simp; (try with_reducible rfl)
      simp only [Act.put, List.getElem_toArray, List.getElem_cons_succ, List.getElem_cons_zero, List.setIfInBounds_toArray, List.set_cons_zero, List.set_cons_succ]
      refine wpAnyH_take (i := 4) (v := ?_) rfl (by kernel_rfl) (by kernel_rfl) (by kernel_rfl) (fun _ _ _ h => h) (Or.inl ⟨by rfl, ?_⟩) (by assumption) ?_
      rotate_left
      · intro wq hSw; (try dsimp only at hSw); have hq := hSw.1; go_simp; (try with_reducible rfl)
      simp only [Act.put, List.getElem_toArray, List.getElem_cons_succ, List.getElem_cons_zero, List.setIfInBounds_toArray, List.set_cons_zero, List.set_cons_succ]
      refine wpAnyH_take (i := 5) (v := ?_) rfl (by kernel_rfl) (by kernel_rfl) (by kernel_rfl) (fun _ _ _ h => h) (Or.inl ⟨by rfl, ?_⟩) (by assumption) ?_
      rotate_left
      · intro wq hSw; (try dsimp only at hSw); go_simp; (try with_reducible rfl)
      simp only [Act.put, List.getElem_toArray, List.getElem_cons_succ, List.getElem_cons_zero, List.setIfInBounds_toArray, List.set_cons_zero, List.set_cons_succ]
      refine wpAnyH_take (i := 6) (v := ?_) rfl (by kernel_rfl) (by kernel_rfl) (by kernel_rfl) (fun _ _ _ h => h) (Or.inl ⟨by rfl, ?_⟩) (by assumption) ?_
      rotate_left
      · intro wq hSw; (try dsimp only at hSw); go_simp; (try with_reducible rfl)
      simp only [Act.put, List.getElem_toArray, List.getElem_cons_succ, List.getElem_cons_zero, List.setIfInBounds_toArray, List.set_cons_zero, List.set_cons_succ]
      refine wpAnyH_take (i := 7) (v := ?_) rfl (by kernel_rfl) (by kernel_rfl) (by kernel_rfl) (fun _ _ _ h => h) (Or.inl ⟨by rfl, ?_⟩) (by assumption) ?_
      rotate_left
      · intro wq hSw; (try dsimp only at hSw); go_simp; (try with_reducible rfl)
      simp only [Act.put, List.getElem_toArray, List.getElem_cons_succ, List.getElem_cons_zero, List.setIfInBounds_toArray, List.set_cons_zero, List.set_cons_succ]
      refine wpAnyH_take (i := 8) (v := ?_) rfl (by kernel_rfl) (by kernel_rfl) (by kernel_rfl) (fun _ _ _ h => h) (Or.inl ⟨by rfl, ?_⟩) (by assumption) ?_
      rotate_left
      · intro wq hSw; (try dsimp only at hSw); go_simp; (try with_reducible rfl)
      simp only [Act.put, List.getElem_toArray, List.getElem_cons_succ, List.getElem_cons_zero, List.setIfInBounds_toArray, List.set_cons_zero, List.set_cons_succ]
      refine wpAnyH_take (i := 9) (v := ?_) rfl (by kernel_rfl) (by kernel_rfl) (by kernel_rfl) (fun _ _ _ h => h) (Or.inl ⟨by rfl, ?_⟩) (by assumption) ?_
      rotate_left
      · intro wq hSw; (try dsimp only at hSw); have hq := hSw.2; go_simp; (try with_reducible rfl)
      simp only [Act.put, List.getElem_toArray, List.getElem_cons_succ, List.getElem_cons_zero, List.setIfInBounds_toArray, List.set_cons_zero, List.set_cons_succ]
      refine wpAnyH_ready (rs := [10]) (by kernel_rfl) (by simp) ?_
      refine AllReadyH.cons rfl (fun K hK => ?_) AllReadyH.nil
      go_simp
      refine (HL.out _).mono ?_
      rintro e w3 ⟨rfl, hb3⟩
      have HB3 := Lib.hid (HBd.out.trans (hb3.mono HBd.out.size))
      (try go_wp2_with fail)
      refine hK.out _ _ ?_ (fun hHeld => ?_)
      · exact ⟨(hb3.cell (p := ⟨0, 6, none⟩) hgl).trans s0, (hb3.cell (p := ⟨0, 7, none⟩) hgl).trans s1⟩
      clear hK K
      try simp only [Act.put, List.getElem_toArray, List.getElem_cons_succ, List.getElem_cons_zero, List.setIfInBounds_toArray, List.set_cons_zero, List.set_cons_succ]
      refine wpAnyH_take (i := 11) (v := ?_) rfl (by kernel_rfl) (by kernel_rfl) (by kernel_rfl) (fun _ _ _ h => h) (Or.inl ⟨by rfl, ?_⟩) (by assumption) ?_
      rotate_left
      · intro wq hSw; (try dsimp only at hSw); go_simp; (try with_reducible rfl)
      simp only [Act.put, List.getElem_toArray, List.getElem_cons_succ, List.getElem_cons_zero, List.setIfInBounds_toArray, List.set_cons_zero, List.set_cons_succ]
      refine wpAnyH_take (i := 12) (v := ?_) rfl (by kernel_rfl) (by kernel_rfl) (by kernel_rfl) (fun _ _ _ h => h) (Or.inl ⟨by rfl, ?_⟩) (by assumption) ?_
      rotate_left
      · intro wq hSw; (try dsimp only at hSw); go_simp; (try with_reducible rfl)
      simp only [Act.put, List.getElem_toArray, List.getElem_cons_succ, List.getElem_cons_zero, List.setIfInBounds_toArray, List.set_cons_zero, List.set_cons_succ]
      refine wpAnyH_take (i := 13) (v := ?_) rfl (by kernel_rfl) (by kernel_rfl) (by kernel_rfl) (fun _ _ _ h => h) (Or.inl ⟨by rfl, ?_⟩) (by assumption) ?_
      rotate_left
      · intro wq hSw; (try dsimp only at hSw); go_simp; (try with_reducible rfl)
      simp only [Act.put, List.getElem_toArray, List.getElem_cons_succ, List.getElem_cons_zero, List.setIfInBounds_toArray, List.set_cons_zero, List.set_cons_succ]
      refine wpAnyH_done (by kernel_rfl) ?_ _
      clear hHeld
      clear hb3
      go_wp2_with fail
      go_roundw
      case rel => exact ⟨4, t2, rfl, rfl, HB3, .inr (.inr (.inr (.inr ⟨rfl, ht2s, HT2⟩)))⟩
      case measure => simp [intOf]
    · have HR : Hid (t = textOf (printOf hi lo sp fl)) := HT
      clear hsh
      go_wp2_with fail
      go_ret2
      exact ⟨by rw [HR.out]; rfl, HB.out⟩
end Go.Proofs.YtkfidolbbnmjfaaDoor
