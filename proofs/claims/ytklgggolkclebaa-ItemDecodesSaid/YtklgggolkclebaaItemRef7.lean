/-
  The document's own answer of layer 3 (telemeterref03): Encode of a right log alone, whatever the empty list of attributes is.
-/
import Derived.Test.YtklgggolkclebaaItemRef5
import Derived.Test.YtklgggolkclebaaItemRef6
namespace Go.Proofs.Ytklgggolkclebaa
open Go.RowKit Go.Proofs.NumMath Go.Proofs.ItemMath

set_option linter.unusedSimpArgs false in
set_option linter.unusedVariables false in
set_option maxRecDepth 100000 in
set_option maxHeartbeats 8000000 in
/-- **A right log alone.** -/
theorem refEncode_log_on (A0 : Option Addr) (cap0 : Nat) (key body : ByteArray) (weight : Nat) (at0 : Int) (w : World) (hright : rightLog ⟨key, weight, at0, body⟩ = true) (z : List UInt8) (m : Nat) (hz : (2 : UInt8) :: encLog ⟨key, weight, at0, body⟩ = z) (hm : z.length = m) :
    Calls Try.prog 17 #[.agg #[.int .u8 2, .int .u64 0, .int .u64 0, .int .u64 0, .int .u64 0, .string ⟨#[]⟩, .int .i64 0, .int .i64 0, .bool false, .slice A0 0 cap0, .int .u64 0, .string key, .int .u64 (weight : Int), .int .i64 at0, .string body]] w fun e w' => ∃ A' c', e = .returned (.tuple #[.slice A' m c', .int .i64 0]) ∧ w'.ownsRow w.heap.size 5 1 (.slice A' m c') z.length (z.map b8) ∧ Below w.heap.size w w' := by
  obtain ⟨p1, p2, p3, p4, p5, p6⟩ := rightLog_parts hright
  dsimp only at p1 p2 p3 p4 p5 p6
  obtain ⟨at_, rfl⟩ : ∃ a : Nat, at0 = (a : Int) := ⟨at0.toNat, by omega⟩
  have hR := fun (W : World) => refRightLog_any key body weight (at_ : Int) W true (by omega) (by omega) hright
  unfold lgCells at hR
  have HR := Lib.hid hR
  have hno := fun (W : World) => refNothing_any 0 0 0 0 0 ⟨#[]⟩ 0 0 false A0 [] 0 cap0 W true rfl rfl
  unfold spCells at hno
  have HNO := Lib.hid hno
  clear hno
  have kw : IntKind.u64.wrap (at_ : Int) = (at_ : Int) := by rw [IntKind.wrap_u64]; omega
  obtain ⟨z1, hz1⟩ : ∃ z, fieldT 1 key.data.toList = z := ⟨_, rfl⟩
  obtain ⟨m1, hm1⟩ : ∃ m, z1.length = m := ⟨_, rfl⟩
  have F1 := Lib.hid (fun W => refText_any 1 key W (by omega) (by omega) z1 m1 hz1 hm1)
  obtain ⟨z2, hz2⟩ : ∃ z, fieldN 2 weight = z := ⟨_, rfl⟩
  obtain ⟨m2, hm2⟩ : ∃ m, z2.length = m := ⟨_, rfl⟩
  have F2 := Lib.hid (fun W => refNumber_any 2 weight W (by omega) (by omega) z2 m2 hz2 hm2)
  obtain ⟨z3, hz3⟩ : ∃ z, fieldN 3 at_ = z := ⟨_, rfl⟩
  obtain ⟨m3, hm3⟩ : ∃ m, z3.length = m := ⟨_, rfl⟩
  have F3 := Lib.hid (fun W => refNumber_any 3 at_ W (by omega) (by omega) z3 m3 hz3 hm3)
  obtain ⟨z4, hz4⟩ : ∃ z, fieldT 4 body.data.toList = z := ⟨_, rfl⟩
  obtain ⟨m4, hm4⟩ : ∃ m, z4.length = m := ⟨_, rfl⟩
  have F4 := Lib.hid (fun W => refText_any 4 body W (by omega) (by omega) z4 m4 hz4 hm4)
  have hflat : ([[2], z1, z2, z3, z4] : List (List UInt8)).flatten = z := by
    rw [← hz, ← hz1, ← hz2, ← hz3, ← hz4]; simp [encLog]
  have hzl : z.length ≤ 500000 := by
    have q1 := refT_len 1 key.data.toList (by omega) (by rw [size_list]; omega)
    have q2 := refN_len 2 weight (by omega) (by omega)
    have q3 := refN_len 3 at_ (by omega) (by omega)
    have q4 := refT_len 4 body.data.toList (by omega) (by rw [size_list]; omega)
    rw [size_list] at q1 q4
    rw [hz1] at q1
    rw [hz2] at q2
    rw [hz3] at q3
    rw [hz4] at q4
    rw [← hflat]; simp; omega
  have hJ := fun (A : Option Addr) (W : World) => refJoined_any A [[2], z1, z2, z3, z4] 5 5 W rfl (by omega) (by rw [hflat]; exact hzl)
  rw [hflat, hm] at hJ
  have HJ := Lib.hid hJ
  have HM := Lib.hid hm
  have HB0 := Lib.hid ((Below.refl w.heap.size w).alloc (Nat.le_refl _) (.cells #[.int .u8 2, .int .u64 0, .int .u64 0, .int .u64 0, .int .u64 0, .string ⟨#[]⟩, .int .i64 0, .int .i64 0, .bool false, .slice A0 0 cap0, .int .u64 0, .string key, .int .u64 (weight : Int), .int .i64 (at_ : Int), .string body] 38))
  clear hJ hR hz hm hright p1 p2 p3 p4 p5 p6 hz1 hz2 hz3 hz4 hm1 hm2 hm3 hm4 hflat hzl
  go_enter Try.func17, Try.ntmps17
  go_wp2_with fail
  refine (HR.out _).mono ?_
  rintro e w1 ⟨rfl, hb1⟩
  have hI0 := blk_new w #[.int .u8 2, .int .u64 0, .int .u64 0, .int .u64 0, .int .u64 0, .string ⟨#[]⟩, .int .i64 0, .int .i64 0, .bool false, .slice A0 0 cap0, .int .u64 0, .string key, .int .u64 (weight : Int), .int .i64 (at_ : Int), .string body] 38
  have hI1 := hI0.same (Below.heap_alloc _ (.cells #[.string key, .int .u64 (weight : Int), .int .i64 (at_ : Int), .string body] 29) _ hI0.lt)
  have hI2 := hI1.same (hb1.block _ (by simp; omega))
  have hL1 := blk_new (w.alloc (.cells #[.int .u8 2, .int .u64 0, .int .u64 0, .int .u64 0, .int .u64 0, .string ⟨#[]⟩, .int .i64 0, .int .i64 0, .bool false, .slice A0 0 cap0, .int .u64 0, .string key, .int .u64 (weight : Int), .int .i64 (at_ : Int), .string body] 38)) #[.string key, .int .u64 (weight : Int), .int .i64 (at_ : Int), .string body] 29
  rw [World.size_alloc] at hL1
  have hL2 := hL1.same (hb1.block _ (by simp))
  have HB1 := Lib.hid ((HB0.out.alloc HB0.out.size (.cells #[.string key, .int .u64 (weight : Int), .int .i64 (at_ : Int), .string body] 29)).trans (hb1.mono (by simp; omega)))
  have HI := Lib.hid hI2
  have HL := Lib.hid hL2
  clear hb1 hI0 hI1 hI2 hL1 hL2

  have g0 : w1.cell? ⟨w.heap.size, 0, none⟩ = some (.int .u8 2) := HI.out.cell 0 rfl
  have g1 : w1.cell? ⟨w.heap.size, 1, none⟩ = some (.int .u64 0) := HI.out.cell 1 rfl
  have g2 : w1.cell? ⟨w.heap.size, 2, none⟩ = some (.int .u64 0) := HI.out.cell 2 rfl
  have g3 : w1.cell? ⟨w.heap.size, 3, none⟩ = some (.int .u64 0) := HI.out.cell 3 rfl
  have g4 : w1.cell? ⟨w.heap.size, 4, none⟩ = some (.int .u64 0) := HI.out.cell 4 rfl
  have g5 : w1.cell? ⟨w.heap.size, 5, none⟩ = some (.string ⟨#[]⟩) := HI.out.cell 5 rfl
  have g6 : w1.cell? ⟨w.heap.size, 6, none⟩ = some (.int .i64 0) := HI.out.cell 6 rfl
  have g7 : w1.cell? ⟨w.heap.size, 7, none⟩ = some (.int .i64 0) := HI.out.cell 7 rfl
  have g8 : w1.cell? ⟨w.heap.size, 8, none⟩ = some (.bool false) := HI.out.cell 8 rfl
  have g9 : w1.cell? ⟨w.heap.size, 9, none⟩ = some (.slice A0 0 cap0) := HI.out.cell 9 rfl
  have g10 : w1.cell? ⟨w.heap.size, 10, none⟩ = some (.int .u64 0) := HI.out.cell 10 rfl
  have g11 : w1.cell? ⟨w.heap.size, 11, none⟩ = some (.string key) := HI.out.cell 11 rfl
  have g12 : w1.cell? ⟨w.heap.size, 12, none⟩ = some (.int .u64 (weight : Int)) := HI.out.cell 12 rfl
  have g13 : w1.cell? ⟨w.heap.size, 13, none⟩ = some (.int .i64 (at_ : Int)) := HI.out.cell 13 rfl
  have g14 : w1.cell? ⟨w.heap.size, 14, none⟩ = some (.string body) := HI.out.cell 14 rfl
  go_wp2_with fail
  refine (HNO.out _).mono ?_
  rintro e w2 ⟨rfl, hb2⟩
  have HB2 := Lib.hid (HB1.out.trans (hb2.mono HB1.out.size))
  have HLb := Lib.hid (HL.out.same (hb2.block _ HL.out.lt))
  clear hb2 g0 g1 g2 g3 g4 g5 g6 g7 g8 g9 g10 g11 g12 g13 g14
  go_wp2_with fail
  have hBd := Lib.hid HB2.out.drew
  have hKd : Blk w2.drew (w.heap.size + 1) #[.string key, .int .u64 (weight : Int), .int .i64 (at_ : Int), .string body] 29 := HLb.out
  have HBa := hBd
  have HKa := Lib.hid hKd
  have HWa := Lib.hid (rows_nil w2.drew w.heap.size)
  refine wp_region_held_drew (S := fun W => Blk W (w.heap.size + 1) #[.string key, .int .u64 (weight : Int), .int .i64 (at_ : Int), .string body] 29) (by kernel_rfl) ?_ (fun hHeld => ?_)
  · exact HKa.out
  refine wpAnyH_take (i := 1) (v := ?_) rfl (by kernel_rfl) (by kernel_rfl) (by kernel_rfl) (fun _ _ _ h => h) (Or.inl ⟨by rfl, ?_⟩) (by assumption) ?_
  rotate_left
  · intro wq hSw; (try dsimp only at hSw); go_simp; (try with_reducible rfl)
  simp only [Act.put, List.getElem_toArray, List.getElem_cons_succ, List.getElem_cons_zero, List.setIfInBounds_toArray, List.set_cons_zero, List.set_cons_succ]
  refine wpAnyH_take (i := 2) (v := ?_) rfl (by kernel_rfl) (by kernel_rfl) (by kernel_rfl) (fun _ _ _ h => h) (Or.inl ⟨by rfl, ?_⟩) (by assumption) ?_
  rotate_left
  · intro wq hSw; (try dsimp only at hSw); have hq := hSw.cell 0 rfl; go_simp; (try with_reducible rfl)
  simp only [Act.put, List.getElem_toArray, List.getElem_cons_succ, List.getElem_cons_zero, List.setIfInBounds_toArray, List.set_cons_zero, List.set_cons_succ]
  refine wpAnyH_take (i := 4) (v := ?_) rfl (by kernel_rfl) (by kernel_rfl) (by kernel_rfl) (fun _ _ _ h => h) (Or.inl ⟨by rfl, ?_⟩) (by assumption) ?_
  rotate_left
  · intro wq hSw; (try dsimp only at hSw); go_simp; (try with_reducible rfl)
  simp only [Act.put, List.getElem_toArray, List.getElem_cons_succ, List.getElem_cons_zero, List.setIfInBounds_toArray, List.set_cons_zero, List.set_cons_succ]
  refine wpAnyH_take (i := 5) (v := ?_) rfl (by kernel_rfl) (by kernel_rfl) (by kernel_rfl) (fun _ _ _ h => h) (Or.inl ⟨by rfl, ?_⟩) (by assumption) ?_
  rotate_left
  · intro wq hSw; (try dsimp only at hSw); have hq := hSw.cell 1 rfl; go_simp; (try with_reducible rfl)
  simp only [Act.put, List.getElem_toArray, List.getElem_cons_succ, List.getElem_cons_zero, List.setIfInBounds_toArray, List.set_cons_zero, List.set_cons_succ]
  refine wpAnyH_take (i := 7) (v := ?_) rfl (by kernel_rfl) (by kernel_rfl) (by kernel_rfl) (fun _ _ _ h => h) (Or.inl ⟨by rfl, ?_⟩) (by assumption) ?_
  rotate_left
  · intro wq hSw; (try dsimp only at hSw); go_simp; (try with_reducible rfl)
  simp only [Act.put, List.getElem_toArray, List.getElem_cons_succ, List.getElem_cons_zero, List.setIfInBounds_toArray, List.set_cons_zero, List.set_cons_succ]
  refine wpAnyH_take (i := 8) (v := ?_) rfl (by kernel_rfl) (by kernel_rfl) (by kernel_rfl) (fun _ _ _ h => h) (Or.inl ⟨by rfl, ?_⟩) (by assumption) ?_
  rotate_left
  · intro wq hSw; (try dsimp only at hSw); have hq := hSw.cell 2 rfl; go_simp; (try with_reducible rfl)
  simp only [Act.put, List.getElem_toArray, List.getElem_cons_succ, List.getElem_cons_zero, List.setIfInBounds_toArray, List.set_cons_zero, List.set_cons_succ]
  refine wpAnyH_take (i := 9) (v := ?_) rfl (by kernel_rfl) (by kernel_rfl) (by kernel_rfl) (fun _ _ _ h => h) (Or.inl ⟨by rfl, ?_⟩) (by assumption) ?_
  rotate_left
  · intro wq hSw; (try dsimp only at hSw); go_simp; (try with_reducible rfl)
  simp only [Act.put, List.getElem_toArray, List.getElem_cons_succ, List.getElem_cons_zero, List.setIfInBounds_toArray, List.set_cons_zero, List.set_cons_succ]
  refine wpAnyH_take (i := 11) (v := ?_) rfl (by kernel_rfl) (by kernel_rfl) (by kernel_rfl) (fun _ _ _ h => h) (Or.inl ⟨by rfl, ?_⟩) (by assumption) ?_
  rotate_left
  · intro wq hSw; (try dsimp only at hSw); go_simp; (try with_reducible rfl)
  simp only [Act.put, List.getElem_toArray, List.getElem_cons_succ, List.getElem_cons_zero, List.setIfInBounds_toArray, List.set_cons_zero, List.set_cons_succ]
  refine wpAnyH_take (i := 12) (v := ?_) rfl (by kernel_rfl) (by kernel_rfl) (by kernel_rfl) (fun _ _ _ h => h) (Or.inl ⟨by rfl, ?_⟩) (by assumption) ?_
  rotate_left
  · intro wq hSw; (try dsimp only at hSw); have hq := hSw.cell 3 rfl; go_simp; (try with_reducible rfl)
  simp only [Act.put, List.getElem_toArray, List.getElem_cons_succ, List.getElem_cons_zero, List.setIfInBounds_toArray, List.set_cons_zero, List.set_cons_succ]
  refine wpAnyH_ready (rs := [0, 3]) (by kernel_rfl) (by simp) ?_
  refine AllReadyH.cons rfl (fun K hK => ?_) (AllReadyH.cons rfl (fun K hK => ?_) (AllReadyH.nil))
  · go_simp
    (try go_wp2_with fail)
    refine hK.out _ _ ?_ (fun hHeld => ?_)
    · exact (HKa.out.same (Below.heap_alloc _ _ _ HKa.out.lt))
    clear hK K
    try simp only [Act.put, List.getElem_toArray, List.getElem_cons_succ, List.getElem_cons_zero, List.setIfInBounds_toArray, List.set_cons_zero, List.set_cons_succ]
    have HBs1 := Lib.hid (HBa.out.alloc HBa.out.size (.cells #[.int .u8 2] 5))
    have HKs1 := Lib.hid (HKa.out.same (Below.heap_alloc _ (.cells #[.int .u8 2] 5) _ HKa.out.lt))
    have HWs1 := Lib.hid (rows_later HWa.out ((Below.refl _ _).alloc (Nat.le_refl _) (.cells #[.int .u8 2] 5)))
    have HZs1 := Lib.hid (own_lower0 (own_byte' w2.drew w2.heap.size rfl 2 2 rfl) HBa.out.size)
    refine wpAnyH_ready (rs := [3]) (by kernel_rfl) (by simp) ?_
    refine AllReadyH.cons rfl (fun K hK => ?_) AllReadyH.nil
    go_simp
    refine (F1.out _).mono ?_
    rintro e Ws2 ⟨A1, c1, rfl, os2, bs2⟩
    have HBs2 := Lib.hid (HBs1.out.trans (bs2.mono HBs1.out.size))
    have HKs2 := Lib.hid (HKs1.out.same (bs2.block _ HKs1.out.lt))
    have HWs2 := Lib.hid (rows_snoc (rows_later HWs1.out bs2) (own_lower0 os2 HBs1.out.size))
    have HZs2 := Lib.hid (own_later HZs1.out bs2)
    clear os2 bs2
    (try go_wp2_with fail)
    refine hK.out _ _ ?_ (fun hHeld => ?_)
    · exact HKs2.out
    clear hK K
    try simp only [Act.put, List.getElem_toArray, List.getElem_cons_succ, List.getElem_cons_zero, List.setIfInBounds_toArray, List.set_cons_zero, List.set_cons_succ]
    refine wpAnyH_ready (rs := [6]) (by kernel_rfl) (by simp) ?_
    refine AllReadyH.cons rfl (fun K hK => ?_) AllReadyH.nil
    go_simp
    refine (F2.out _).mono ?_
    rintro e Ws3 ⟨A2, c2, rfl, os3, bs3⟩
    have HBs3 := Lib.hid (HBs2.out.trans (bs3.mono HBs2.out.size))
    have HKs3 := Lib.hid (HKs2.out.same (bs3.block _ HKs2.out.lt))
    have HWs3 := Lib.hid (rows_snoc (rows_later HWs2.out bs3) (own_lower0 os3 HBs2.out.size))
    have HZs3 := Lib.hid (own_later HZs2.out bs3)
    clear os3 bs3
    (try go_wp2_with fail)
    refine hK.out _ _ ?_ (fun hHeld => ?_)
    · exact HKs3.out
    clear hK K
    try simp only [Act.put, List.getElem_toArray, List.getElem_cons_succ, List.getElem_cons_zero, List.setIfInBounds_toArray, List.set_cons_zero, List.set_cons_succ]
    refine wpAnyH_ready (rs := [10]) (by kernel_rfl) (by simp) ?_
    refine AllReadyH.cons rfl (fun K hK => ?_) AllReadyH.nil
    go_simp
    refine (F3.out _).mono ?_
    rintro e Ws4 ⟨A3, c3, rfl, os4, bs4⟩
    have HBs4 := Lib.hid (HBs3.out.trans (bs4.mono HBs3.out.size))
    have HKs4 := Lib.hid (HKs3.out.same (bs4.block _ HKs3.out.lt))
    have HWs4 := Lib.hid (rows_snoc (rows_later HWs3.out bs4) (own_lower0 os4 HBs3.out.size))
    have HZs4 := Lib.hid (own_later HZs3.out bs4)
    clear os4 bs4
    (try go_wp2_with fail)
    refine hK.out _ _ ?_ (fun hHeld => ?_)
    · exact HKs4.out
    clear hK K
    try simp only [Act.put, List.getElem_toArray, List.getElem_cons_succ, List.getElem_cons_zero, List.setIfInBounds_toArray, List.set_cons_zero, List.set_cons_succ]
    refine wpAnyH_ready (rs := [13]) (by kernel_rfl) (by simp) ?_
    refine AllReadyH.cons rfl (fun K hK => ?_) AllReadyH.nil
    go_simp
    refine (F4.out _).mono ?_
    rintro e Ws5 ⟨A4, c4, rfl, os5, bs5⟩
    have HBs5 := Lib.hid (HBs4.out.trans (bs5.mono HBs4.out.size))
    have HKs5 := Lib.hid (HKs4.out.same (bs5.block _ HKs4.out.lt))
    have HWs5 := Lib.hid (rows_snoc (rows_later HWs4.out bs5) (own_lower0 os5 HBs4.out.size))
    have HZs5 := Lib.hid (own_later HZs4.out bs5)
    clear os5 bs5
    (try go_wp2_with fail)
    refine hK.out _ _ ?_ (fun hHeld => ?_)
    · exact HKs5.out
    clear hK K
    try simp only [Act.put, List.getElem_toArray, List.getElem_cons_succ, List.getElem_cons_zero, List.setIfInBounds_toArray, List.set_cons_zero, List.set_cons_succ]
    refine wpAnyH_ready (rs := [14]) (by kernel_rfl) (by simp) ?_
    refine AllReadyH.cons rfl (fun K hK => ?_) AllReadyH.nil
    go_simp
    (try go_wp2_with fail)
    refine hK.out _ _ ?_ (fun hHeld => ?_)
    · exact (HKs5.out.same (Below.heap_alloc _ _ _ HKs5.out.lt))
    clear hK K
    try simp only [Act.put, List.getElem_toArray, List.getElem_cons_succ, List.getElem_cons_zero, List.setIfInBounds_toArray, List.set_cons_zero, List.set_cons_succ]
    refine wpAnyH_ready (rs := [15]) (by kernel_rfl) (by simp) ?_
    refine AllReadyH.cons rfl (fun K hK => ?_) AllReadyH.nil
    go_simp
    refine (HJ.out _ _ (rows_hold5 (own_lower0 (own_rows5 Ws5 _ (by simp) _ _ _ _ _) HBs5.out.size) (rows_later (rows_cons HWs5.out HZs5.out) ((Below.refl _ _).alloc (Nat.le_refl _) _)))).mono ?_
    rintro e W9 ⟨A9, c9, rfl, o9, b9⟩
    have hB9 := (HBs5.out.alloc HBs5.out.size _).trans (b9.mono (HBs5.out.alloc HBs5.out.size _).size)
    have HO9 := Lib.hid (own_lower0 o9 (HBs5.out.alloc HBs5.out.size _).size)
    (try go_wp2_with fail)
    refine hK.out _ _ ?_ (fun hHeld => ?_)
    · exact ((HKs5.out.same (Below.heap_alloc _ _ _ HKs5.out.lt)).same (b9.block _ (by rw [World.size_alloc]; have := HKs5.out.lt; omega)))
    clear hK K
    try simp only [Act.put, List.getElem_toArray, List.getElem_cons_succ, List.getElem_cons_zero, List.setIfInBounds_toArray, List.set_cons_zero, List.set_cons_succ]
    refine wpAnyH_take (i := 16) (v := ?_) rfl (by kernel_rfl) (by kernel_rfl) (by kernel_rfl) (fun _ _ _ h => h) (Or.inl ⟨by rfl, ?_⟩) (by assumption) ?_
    rotate_left
    · intro wq hSw; (try dsimp only at hSw); go_simp; (try with_reducible rfl)
    simp only [Act.put, List.getElem_toArray, List.getElem_cons_succ, List.getElem_cons_zero, List.setIfInBounds_toArray, List.set_cons_zero, List.set_cons_succ]
    refine wpAnyH_take (i := 17) (v := ?_) rfl (by kernel_rfl) (by kernel_rfl) (by kernel_rfl) (fun _ _ _ h => h) (Or.inl ⟨by rfl, ?_⟩) (by assumption) ?_
    rotate_left
    · intro wq hSw; (try dsimp only at hSw); go_simp; (try with_reducible rfl)
    simp only [Act.put, List.getElem_toArray, List.getElem_cons_succ, List.getElem_cons_zero, List.setIfInBounds_toArray, List.set_cons_zero, List.set_cons_succ]
    refine wpAnyH_done (by kernel_rfl) ?_ _
    clear hHeld
    clear b9 o9
    go_wp2_with fail
    go_ret2
    exact ⟨A9, c9, rfl, by rw [HM.out]; exact HO9.out, hB9⟩
  · go_simp
    refine (F1.out _).mono ?_
    rintro e Ws6 ⟨A1, c1, rfl, os6, bs6⟩
    have HBs6 := Lib.hid (HBa.out.trans (bs6.mono HBa.out.size))
    have HKs6 := Lib.hid (HKa.out.same (bs6.block _ HKa.out.lt))
    have HWs6 := Lib.hid (rows_snoc (rows_later HWa.out bs6) (own_lower0 os6 HBa.out.size))
    clear os6 bs6
    (try go_wp2_with fail)
    refine hK.out _ _ ?_ (fun hHeld => ?_)
    · exact HKs6.out
    clear hK K
    try simp only [Act.put, List.getElem_toArray, List.getElem_cons_succ, List.getElem_cons_zero, List.setIfInBounds_toArray, List.set_cons_zero, List.set_cons_succ]
    refine wpAnyH_ready (rs := [0, 6]) (by kernel_rfl) (by simp) ?_
    refine AllReadyH.cons rfl (fun K hK => ?_) (AllReadyH.cons rfl (fun K hK => ?_) (AllReadyH.nil))
    · go_simp
      (try go_wp2_with fail)
      refine hK.out _ _ ?_ (fun hHeld => ?_)
      · exact (HKs6.out.same (Below.heap_alloc _ _ _ HKs6.out.lt))
      clear hK K
      try simp only [Act.put, List.getElem_toArray, List.getElem_cons_succ, List.getElem_cons_zero, List.setIfInBounds_toArray, List.set_cons_zero, List.set_cons_succ]
      have HBs7 := Lib.hid (HBs6.out.alloc HBs6.out.size (.cells #[.int .u8 2] 5))
      have HKs7 := Lib.hid (HKs6.out.same (Below.heap_alloc _ (.cells #[.int .u8 2] 5) _ HKs6.out.lt))
      have HWs7 := Lib.hid (rows_later HWs6.out ((Below.refl _ _).alloc (Nat.le_refl _) (.cells #[.int .u8 2] 5)))
      have HZs7 := Lib.hid (own_lower0 (own_byte' Ws6 Ws6.heap.size rfl 2 2 rfl) HBs6.out.size)
      refine wpAnyH_ready (rs := [6]) (by kernel_rfl) (by simp) ?_
      refine AllReadyH.cons rfl (fun K hK => ?_) AllReadyH.nil
      go_simp
      refine (F2.out _).mono ?_
      rintro e Ws8 ⟨A2, c2, rfl, os8, bs8⟩
      have HBs8 := Lib.hid (HBs7.out.trans (bs8.mono HBs7.out.size))
      have HKs8 := Lib.hid (HKs7.out.same (bs8.block _ HKs7.out.lt))
      have HWs8 := Lib.hid (rows_snoc (rows_later HWs7.out bs8) (own_lower0 os8 HBs7.out.size))
      have HZs8 := Lib.hid (own_later HZs7.out bs8)
      clear os8 bs8
      (try go_wp2_with fail)
      refine hK.out _ _ ?_ (fun hHeld => ?_)
      · exact HKs8.out
      clear hK K
      try simp only [Act.put, List.getElem_toArray, List.getElem_cons_succ, List.getElem_cons_zero, List.setIfInBounds_toArray, List.set_cons_zero, List.set_cons_succ]
      refine wpAnyH_ready (rs := [10]) (by kernel_rfl) (by simp) ?_
      refine AllReadyH.cons rfl (fun K hK => ?_) AllReadyH.nil
      go_simp
      refine (F3.out _).mono ?_
      rintro e Ws9 ⟨A3, c3, rfl, os9, bs9⟩
      have HBs9 := Lib.hid (HBs8.out.trans (bs9.mono HBs8.out.size))
      have HKs9 := Lib.hid (HKs8.out.same (bs9.block _ HKs8.out.lt))
      have HWs9 := Lib.hid (rows_snoc (rows_later HWs8.out bs9) (own_lower0 os9 HBs8.out.size))
      have HZs9 := Lib.hid (own_later HZs8.out bs9)
      clear os9 bs9
      (try go_wp2_with fail)
      refine hK.out _ _ ?_ (fun hHeld => ?_)
      · exact HKs9.out
      clear hK K
      try simp only [Act.put, List.getElem_toArray, List.getElem_cons_succ, List.getElem_cons_zero, List.setIfInBounds_toArray, List.set_cons_zero, List.set_cons_succ]
      refine wpAnyH_ready (rs := [13]) (by kernel_rfl) (by simp) ?_
      refine AllReadyH.cons rfl (fun K hK => ?_) AllReadyH.nil
      go_simp
      refine (F4.out _).mono ?_
      rintro e Ws10 ⟨A4, c4, rfl, os10, bs10⟩
      have HBs10 := Lib.hid (HBs9.out.trans (bs10.mono HBs9.out.size))
      have HKs10 := Lib.hid (HKs9.out.same (bs10.block _ HKs9.out.lt))
      have HWs10 := Lib.hid (rows_snoc (rows_later HWs9.out bs10) (own_lower0 os10 HBs9.out.size))
      have HZs10 := Lib.hid (own_later HZs9.out bs10)
      clear os10 bs10
      (try go_wp2_with fail)
      refine hK.out _ _ ?_ (fun hHeld => ?_)
      · exact HKs10.out
      clear hK K
      try simp only [Act.put, List.getElem_toArray, List.getElem_cons_succ, List.getElem_cons_zero, List.setIfInBounds_toArray, List.set_cons_zero, List.set_cons_succ]
      refine wpAnyH_ready (rs := [14]) (by kernel_rfl) (by simp) ?_
      refine AllReadyH.cons rfl (fun K hK => ?_) AllReadyH.nil
      go_simp
      (try go_wp2_with fail)
      refine hK.out _ _ ?_ (fun hHeld => ?_)
      · exact (HKs10.out.same (Below.heap_alloc _ _ _ HKs10.out.lt))
      clear hK K
      try simp only [Act.put, List.getElem_toArray, List.getElem_cons_succ, List.getElem_cons_zero, List.setIfInBounds_toArray, List.set_cons_zero, List.set_cons_succ]
      refine wpAnyH_ready (rs := [15]) (by kernel_rfl) (by simp) ?_
      refine AllReadyH.cons rfl (fun K hK => ?_) AllReadyH.nil
      go_simp
      refine (HJ.out _ _ (rows_hold5 (own_lower0 (own_rows5 Ws10 _ (by simp) _ _ _ _ _) HBs10.out.size) (rows_later (rows_cons HWs10.out HZs10.out) ((Below.refl _ _).alloc (Nat.le_refl _) _)))).mono ?_
      rintro e W9 ⟨A9, c9, rfl, o9, b9⟩
      have hB9 := (HBs10.out.alloc HBs10.out.size _).trans (b9.mono (HBs10.out.alloc HBs10.out.size _).size)
      have HO9 := Lib.hid (own_lower0 o9 (HBs10.out.alloc HBs10.out.size _).size)
      (try go_wp2_with fail)
      refine hK.out _ _ ?_ (fun hHeld => ?_)
      · exact ((HKs10.out.same (Below.heap_alloc _ _ _ HKs10.out.lt)).same (b9.block _ (by rw [World.size_alloc]; have := HKs10.out.lt; omega)))
      clear hK K
      try simp only [Act.put, List.getElem_toArray, List.getElem_cons_succ, List.getElem_cons_zero, List.setIfInBounds_toArray, List.set_cons_zero, List.set_cons_succ]
      refine wpAnyH_take (i := 16) (v := ?_) rfl (by kernel_rfl) (by kernel_rfl) (by kernel_rfl) (fun _ _ _ h => h) (Or.inl ⟨by rfl, ?_⟩) (by assumption) ?_
      rotate_left
      · intro wq hSw; (try dsimp only at hSw); go_simp; (try with_reducible rfl)
      simp only [Act.put, List.getElem_toArray, List.getElem_cons_succ, List.getElem_cons_zero, List.setIfInBounds_toArray, List.set_cons_zero, List.set_cons_succ]
      refine wpAnyH_take (i := 17) (v := ?_) rfl (by kernel_rfl) (by kernel_rfl) (by kernel_rfl) (fun _ _ _ h => h) (Or.inl ⟨by rfl, ?_⟩) (by assumption) ?_
      rotate_left
      · intro wq hSw; (try dsimp only at hSw); go_simp; (try with_reducible rfl)
      simp only [Act.put, List.getElem_toArray, List.getElem_cons_succ, List.getElem_cons_zero, List.setIfInBounds_toArray, List.set_cons_zero, List.set_cons_succ]
      refine wpAnyH_done (by kernel_rfl) ?_ _
      clear hHeld
      clear b9 o9
      go_wp2_with fail
      go_ret2
      exact ⟨A9, c9, rfl, by rw [HM.out]; exact HO9.out, hB9⟩
    · go_simp
      refine (F2.out _).mono ?_
      rintro e Ws11 ⟨A2, c2, rfl, os11, bs11⟩
      have HBs11 := Lib.hid (HBs6.out.trans (bs11.mono HBs6.out.size))
      have HKs11 := Lib.hid (HKs6.out.same (bs11.block _ HKs6.out.lt))
      have HWs11 := Lib.hid (rows_snoc (rows_later HWs6.out bs11) (own_lower0 os11 HBs6.out.size))
      clear os11 bs11
      (try go_wp2_with fail)
      refine hK.out _ _ ?_ (fun hHeld => ?_)
      · exact HKs11.out
      clear hK K
      try simp only [Act.put, List.getElem_toArray, List.getElem_cons_succ, List.getElem_cons_zero, List.setIfInBounds_toArray, List.set_cons_zero, List.set_cons_succ]
      refine wpAnyH_ready (rs := [0, 10]) (by kernel_rfl) (by simp) ?_
      refine AllReadyH.cons rfl (fun K hK => ?_) (AllReadyH.cons rfl (fun K hK => ?_) (AllReadyH.nil))
      · go_simp
        (try go_wp2_with fail)
        refine hK.out _ _ ?_ (fun hHeld => ?_)
        · exact (HKs11.out.same (Below.heap_alloc _ _ _ HKs11.out.lt))
        clear hK K
        try simp only [Act.put, List.getElem_toArray, List.getElem_cons_succ, List.getElem_cons_zero, List.setIfInBounds_toArray, List.set_cons_zero, List.set_cons_succ]
        have HBs12 := Lib.hid (HBs11.out.alloc HBs11.out.size (.cells #[.int .u8 2] 5))
        have HKs12 := Lib.hid (HKs11.out.same (Below.heap_alloc _ (.cells #[.int .u8 2] 5) _ HKs11.out.lt))
        have HWs12 := Lib.hid (rows_later HWs11.out ((Below.refl _ _).alloc (Nat.le_refl _) (.cells #[.int .u8 2] 5)))
        have HZs12 := Lib.hid (own_lower0 (own_byte' Ws11 Ws11.heap.size rfl 2 2 rfl) HBs11.out.size)
        refine wpAnyH_ready (rs := [10]) (by kernel_rfl) (by simp) ?_
        refine AllReadyH.cons rfl (fun K hK => ?_) AllReadyH.nil
        go_simp
        refine (F3.out _).mono ?_
        rintro e Ws13 ⟨A3, c3, rfl, os13, bs13⟩
        have HBs13 := Lib.hid (HBs12.out.trans (bs13.mono HBs12.out.size))
        have HKs13 := Lib.hid (HKs12.out.same (bs13.block _ HKs12.out.lt))
        have HWs13 := Lib.hid (rows_snoc (rows_later HWs12.out bs13) (own_lower0 os13 HBs12.out.size))
        have HZs13 := Lib.hid (own_later HZs12.out bs13)
        clear os13 bs13
        (try go_wp2_with fail)
        refine hK.out _ _ ?_ (fun hHeld => ?_)
        · exact HKs13.out
        clear hK K
        try simp only [Act.put, List.getElem_toArray, List.getElem_cons_succ, List.getElem_cons_zero, List.setIfInBounds_toArray, List.set_cons_zero, List.set_cons_succ]
        refine wpAnyH_ready (rs := [13]) (by kernel_rfl) (by simp) ?_
        refine AllReadyH.cons rfl (fun K hK => ?_) AllReadyH.nil
        go_simp
        refine (F4.out _).mono ?_
        rintro e Ws14 ⟨A4, c4, rfl, os14, bs14⟩
        have HBs14 := Lib.hid (HBs13.out.trans (bs14.mono HBs13.out.size))
        have HKs14 := Lib.hid (HKs13.out.same (bs14.block _ HKs13.out.lt))
        have HWs14 := Lib.hid (rows_snoc (rows_later HWs13.out bs14) (own_lower0 os14 HBs13.out.size))
        have HZs14 := Lib.hid (own_later HZs13.out bs14)
        clear os14 bs14
        (try go_wp2_with fail)
        refine hK.out _ _ ?_ (fun hHeld => ?_)
        · exact HKs14.out
        clear hK K
        try simp only [Act.put, List.getElem_toArray, List.getElem_cons_succ, List.getElem_cons_zero, List.setIfInBounds_toArray, List.set_cons_zero, List.set_cons_succ]
        refine wpAnyH_ready (rs := [14]) (by kernel_rfl) (by simp) ?_
        refine AllReadyH.cons rfl (fun K hK => ?_) AllReadyH.nil
        go_simp
        (try go_wp2_with fail)
        refine hK.out _ _ ?_ (fun hHeld => ?_)
        · exact (HKs14.out.same (Below.heap_alloc _ _ _ HKs14.out.lt))
        clear hK K
        try simp only [Act.put, List.getElem_toArray, List.getElem_cons_succ, List.getElem_cons_zero, List.setIfInBounds_toArray, List.set_cons_zero, List.set_cons_succ]
        refine wpAnyH_ready (rs := [15]) (by kernel_rfl) (by simp) ?_
        refine AllReadyH.cons rfl (fun K hK => ?_) AllReadyH.nil
        go_simp
        refine (HJ.out _ _ (rows_hold5 (own_lower0 (own_rows5 Ws14 _ (by simp) _ _ _ _ _) HBs14.out.size) (rows_later (rows_cons HWs14.out HZs14.out) ((Below.refl _ _).alloc (Nat.le_refl _) _)))).mono ?_
        rintro e W9 ⟨A9, c9, rfl, o9, b9⟩
        have hB9 := (HBs14.out.alloc HBs14.out.size _).trans (b9.mono (HBs14.out.alloc HBs14.out.size _).size)
        have HO9 := Lib.hid (own_lower0 o9 (HBs14.out.alloc HBs14.out.size _).size)
        (try go_wp2_with fail)
        refine hK.out _ _ ?_ (fun hHeld => ?_)
        · exact ((HKs14.out.same (Below.heap_alloc _ _ _ HKs14.out.lt)).same (b9.block _ (by rw [World.size_alloc]; have := HKs14.out.lt; omega)))
        clear hK K
        try simp only [Act.put, List.getElem_toArray, List.getElem_cons_succ, List.getElem_cons_zero, List.setIfInBounds_toArray, List.set_cons_zero, List.set_cons_succ]
        refine wpAnyH_take (i := 16) (v := ?_) rfl (by kernel_rfl) (by kernel_rfl) (by kernel_rfl) (fun _ _ _ h => h) (Or.inl ⟨by rfl, ?_⟩) (by assumption) ?_
        rotate_left
        · intro wq hSw; (try dsimp only at hSw); go_simp; (try with_reducible rfl)
        simp only [Act.put, List.getElem_toArray, List.getElem_cons_succ, List.getElem_cons_zero, List.setIfInBounds_toArray, List.set_cons_zero, List.set_cons_succ]
        refine wpAnyH_take (i := 17) (v := ?_) rfl (by kernel_rfl) (by kernel_rfl) (by kernel_rfl) (fun _ _ _ h => h) (Or.inl ⟨by rfl, ?_⟩) (by assumption) ?_
        rotate_left
        · intro wq hSw; (try dsimp only at hSw); go_simp; (try with_reducible rfl)
        simp only [Act.put, List.getElem_toArray, List.getElem_cons_succ, List.getElem_cons_zero, List.setIfInBounds_toArray, List.set_cons_zero, List.set_cons_succ]
        refine wpAnyH_done (by kernel_rfl) ?_ _
        clear hHeld
        clear b9 o9
        go_wp2_with fail
        go_ret2
        exact ⟨A9, c9, rfl, by rw [HM.out]; exact HO9.out, hB9⟩
      · go_simp
        refine (F3.out _).mono ?_
        rintro e Ws15 ⟨A3, c3, rfl, os15, bs15⟩
        have HBs15 := Lib.hid (HBs11.out.trans (bs15.mono HBs11.out.size))
        have HKs15 := Lib.hid (HKs11.out.same (bs15.block _ HKs11.out.lt))
        have HWs15 := Lib.hid (rows_snoc (rows_later HWs11.out bs15) (own_lower0 os15 HBs11.out.size))
        clear os15 bs15
        (try go_wp2_with fail)
        refine hK.out _ _ ?_ (fun hHeld => ?_)
        · exact HKs15.out
        clear hK K
        try simp only [Act.put, List.getElem_toArray, List.getElem_cons_succ, List.getElem_cons_zero, List.setIfInBounds_toArray, List.set_cons_zero, List.set_cons_succ]
        refine wpAnyH_ready (rs := [0, 13]) (by kernel_rfl) (by simp) ?_
        refine AllReadyH.cons rfl (fun K hK => ?_) (AllReadyH.cons rfl (fun K hK => ?_) (AllReadyH.nil))
        · go_simp
          (try go_wp2_with fail)
          refine hK.out _ _ ?_ (fun hHeld => ?_)
          · exact (HKs15.out.same (Below.heap_alloc _ _ _ HKs15.out.lt))
          clear hK K
          try simp only [Act.put, List.getElem_toArray, List.getElem_cons_succ, List.getElem_cons_zero, List.setIfInBounds_toArray, List.set_cons_zero, List.set_cons_succ]
          have HBs16 := Lib.hid (HBs15.out.alloc HBs15.out.size (.cells #[.int .u8 2] 5))
          have HKs16 := Lib.hid (HKs15.out.same (Below.heap_alloc _ (.cells #[.int .u8 2] 5) _ HKs15.out.lt))
          have HWs16 := Lib.hid (rows_later HWs15.out ((Below.refl _ _).alloc (Nat.le_refl _) (.cells #[.int .u8 2] 5)))
          have HZs16 := Lib.hid (own_lower0 (own_byte' Ws15 Ws15.heap.size rfl 2 2 rfl) HBs15.out.size)
          refine wpAnyH_ready (rs := [13]) (by kernel_rfl) (by simp) ?_
          refine AllReadyH.cons rfl (fun K hK => ?_) AllReadyH.nil
          go_simp
          refine (F4.out _).mono ?_
          rintro e Ws17 ⟨A4, c4, rfl, os17, bs17⟩
          have HBs17 := Lib.hid (HBs16.out.trans (bs17.mono HBs16.out.size))
          have HKs17 := Lib.hid (HKs16.out.same (bs17.block _ HKs16.out.lt))
          have HWs17 := Lib.hid (rows_snoc (rows_later HWs16.out bs17) (own_lower0 os17 HBs16.out.size))
          have HZs17 := Lib.hid (own_later HZs16.out bs17)
          clear os17 bs17
          (try go_wp2_with fail)
          refine hK.out _ _ ?_ (fun hHeld => ?_)
          · exact HKs17.out
          clear hK K
          try simp only [Act.put, List.getElem_toArray, List.getElem_cons_succ, List.getElem_cons_zero, List.setIfInBounds_toArray, List.set_cons_zero, List.set_cons_succ]
          refine wpAnyH_ready (rs := [14]) (by kernel_rfl) (by simp) ?_
          refine AllReadyH.cons rfl (fun K hK => ?_) AllReadyH.nil
          go_simp
          (try go_wp2_with fail)
          refine hK.out _ _ ?_ (fun hHeld => ?_)
          · exact (HKs17.out.same (Below.heap_alloc _ _ _ HKs17.out.lt))
          clear hK K
          try simp only [Act.put, List.getElem_toArray, List.getElem_cons_succ, List.getElem_cons_zero, List.setIfInBounds_toArray, List.set_cons_zero, List.set_cons_succ]
          refine wpAnyH_ready (rs := [15]) (by kernel_rfl) (by simp) ?_
          refine AllReadyH.cons rfl (fun K hK => ?_) AllReadyH.nil
          go_simp
          refine (HJ.out _ _ (rows_hold5 (own_lower0 (own_rows5 Ws17 _ (by simp) _ _ _ _ _) HBs17.out.size) (rows_later (rows_cons HWs17.out HZs17.out) ((Below.refl _ _).alloc (Nat.le_refl _) _)))).mono ?_
          rintro e W9 ⟨A9, c9, rfl, o9, b9⟩
          have hB9 := (HBs17.out.alloc HBs17.out.size _).trans (b9.mono (HBs17.out.alloc HBs17.out.size _).size)
          have HO9 := Lib.hid (own_lower0 o9 (HBs17.out.alloc HBs17.out.size _).size)
          (try go_wp2_with fail)
          refine hK.out _ _ ?_ (fun hHeld => ?_)
          · exact ((HKs17.out.same (Below.heap_alloc _ _ _ HKs17.out.lt)).same (b9.block _ (by rw [World.size_alloc]; have := HKs17.out.lt; omega)))
          clear hK K
          try simp only [Act.put, List.getElem_toArray, List.getElem_cons_succ, List.getElem_cons_zero, List.setIfInBounds_toArray, List.set_cons_zero, List.set_cons_succ]
          refine wpAnyH_take (i := 16) (v := ?_) rfl (by kernel_rfl) (by kernel_rfl) (by kernel_rfl) (fun _ _ _ h => h) (Or.inl ⟨by rfl, ?_⟩) (by assumption) ?_
          rotate_left
          · intro wq hSw; (try dsimp only at hSw); go_simp; (try with_reducible rfl)
          simp only [Act.put, List.getElem_toArray, List.getElem_cons_succ, List.getElem_cons_zero, List.setIfInBounds_toArray, List.set_cons_zero, List.set_cons_succ]
          refine wpAnyH_take (i := 17) (v := ?_) rfl (by kernel_rfl) (by kernel_rfl) (by kernel_rfl) (fun _ _ _ h => h) (Or.inl ⟨by rfl, ?_⟩) (by assumption) ?_
          rotate_left
          · intro wq hSw; (try dsimp only at hSw); go_simp; (try with_reducible rfl)
          simp only [Act.put, List.getElem_toArray, List.getElem_cons_succ, List.getElem_cons_zero, List.setIfInBounds_toArray, List.set_cons_zero, List.set_cons_succ]
          refine wpAnyH_done (by kernel_rfl) ?_ _
          clear hHeld
          clear b9 o9
          go_wp2_with fail
          go_ret2
          exact ⟨A9, c9, rfl, by rw [HM.out]; exact HO9.out, hB9⟩
        · go_simp
          refine (F4.out _).mono ?_
          rintro e Ws18 ⟨A4, c4, rfl, os18, bs18⟩
          have HBs18 := Lib.hid (HBs15.out.trans (bs18.mono HBs15.out.size))
          have HKs18 := Lib.hid (HKs15.out.same (bs18.block _ HKs15.out.lt))
          have HWs18 := Lib.hid (rows_snoc (rows_later HWs15.out bs18) (own_lower0 os18 HBs15.out.size))
          clear os18 bs18
          (try go_wp2_with fail)
          refine hK.out _ _ ?_ (fun hHeld => ?_)
          · exact HKs18.out
          clear hK K
          try simp only [Act.put, List.getElem_toArray, List.getElem_cons_succ, List.getElem_cons_zero, List.setIfInBounds_toArray, List.set_cons_zero, List.set_cons_succ]
          refine wpAnyH_ready (rs := [0]) (by kernel_rfl) (by simp) ?_
          refine AllReadyH.cons rfl (fun K hK => ?_) AllReadyH.nil
          go_simp
          (try go_wp2_with fail)
          refine hK.out _ _ ?_ (fun hHeld => ?_)
          · exact (HKs18.out.same (Below.heap_alloc _ _ _ HKs18.out.lt))
          clear hK K
          try simp only [Act.put, List.getElem_toArray, List.getElem_cons_succ, List.getElem_cons_zero, List.setIfInBounds_toArray, List.set_cons_zero, List.set_cons_succ]
          have HBs19 := Lib.hid (HBs18.out.alloc HBs18.out.size (.cells #[.int .u8 2] 5))
          have HKs19 := Lib.hid (HKs18.out.same (Below.heap_alloc _ (.cells #[.int .u8 2] 5) _ HKs18.out.lt))
          have HWs19 := Lib.hid (rows_later HWs18.out ((Below.refl _ _).alloc (Nat.le_refl _) (.cells #[.int .u8 2] 5)))
          have HZs19 := Lib.hid (own_lower0 (own_byte' Ws18 Ws18.heap.size rfl 2 2 rfl) HBs18.out.size)
          refine wpAnyH_ready (rs := [14]) (by kernel_rfl) (by simp) ?_
          refine AllReadyH.cons rfl (fun K hK => ?_) AllReadyH.nil
          go_simp
          (try go_wp2_with fail)
          refine hK.out _ _ ?_ (fun hHeld => ?_)
          · exact (HKs19.out.same (Below.heap_alloc _ _ _ HKs19.out.lt))
          clear hK K
          try simp only [Act.put, List.getElem_toArray, List.getElem_cons_succ, List.getElem_cons_zero, List.setIfInBounds_toArray, List.set_cons_zero, List.set_cons_succ]
          refine wpAnyH_ready (rs := [15]) (by kernel_rfl) (by simp) ?_
          refine AllReadyH.cons rfl (fun K hK => ?_) AllReadyH.nil
          go_simp
          refine (HJ.out _ _ (rows_hold5 (own_lower0 (own_rows5 (Ws18.alloc (.cells #[.int .u8 2] 5)) _ (by simp) _ _ _ _ _) HBs19.out.size) (rows_later (rows_cons HWs19.out HZs19.out) ((Below.refl _ _).alloc (Nat.le_refl _) _)))).mono ?_
          rintro e W9 ⟨A9, c9, rfl, o9, b9⟩
          have hB9 := (HBs19.out.alloc HBs19.out.size _).trans (b9.mono (HBs19.out.alloc HBs19.out.size _).size)
          have HO9 := Lib.hid (own_lower0 o9 (HBs19.out.alloc HBs19.out.size _).size)
          (try go_wp2_with fail)
          refine hK.out _ _ ?_ (fun hHeld => ?_)
          · exact ((HKs19.out.same (Below.heap_alloc _ _ _ HKs19.out.lt)).same (b9.block _ (by rw [World.size_alloc]; have := HKs19.out.lt; omega)))
          clear hK K
          try simp only [Act.put, List.getElem_toArray, List.getElem_cons_succ, List.getElem_cons_zero, List.setIfInBounds_toArray, List.set_cons_zero, List.set_cons_succ]
          refine wpAnyH_take (i := 16) (v := ?_) rfl (by kernel_rfl) (by kernel_rfl) (by kernel_rfl) (fun _ _ _ h => h) (Or.inl ⟨by rfl, ?_⟩) (by assumption) ?_
          rotate_left
          · intro wq hSw; (try dsimp only at hSw); go_simp; (try with_reducible rfl)
          simp only [Act.put, List.getElem_toArray, List.getElem_cons_succ, List.getElem_cons_zero, List.setIfInBounds_toArray, List.set_cons_zero, List.set_cons_succ]
          refine wpAnyH_take (i := 17) (v := ?_) rfl (by kernel_rfl) (by kernel_rfl) (by kernel_rfl) (fun _ _ _ h => h) (Or.inl ⟨by rfl, ?_⟩) (by assumption) ?_
          rotate_left
          · intro wq hSw; (try dsimp only at hSw); go_simp; (try with_reducible rfl)
          simp only [Act.put, List.getElem_toArray, List.getElem_cons_succ, List.getElem_cons_zero, List.setIfInBounds_toArray, List.set_cons_zero, List.set_cons_succ]
          refine wpAnyH_done (by kernel_rfl) ?_ _
          clear hHeld
          clear b9 o9
          go_wp2_with fail
          go_ret2
          exact ⟨A9, c9, rfl, by rw [HM.out]; exact HO9.out, hB9⟩

end Go.Proofs.Ytklgggolkclebaa
