/-
  Proved: HeapDrop returns true for every two rows of bytes: what is dropped does not come out; all else does, in order. No condition.
-/
import Derived.Test.YtlbopajnnbnolaaBytes0
import Derived.Test.YtlbopajnnbnolaaHpMarks
namespace Go.Proofs.Ytlbopajnnbnolaa
open Go.ChangeShapes Go.WideShapes Go.ChangeAt Go.RowKit Go.Maps Go.Proofs.HeapMath

/-- The times. -/
def f16 (cs : List UInt8) (i : Nat) : Int := fB cs i % 16
theorem f16_range (cs : List UInt8) (i : Nat) : 0 ≤ f16 cs i ∧ f16 cs i ≤ 15 := by unfold f16; omega
theorem mk_eq (b : Bool) : ((mk1 b : Int) == 1) = b := by cases b <;> rfl

set_option linter.unusedSimpArgs false in
set_option maxRecDepth 100000 in
set_option maxHeartbeats 4000000 in
theorem heapDrop_walk (A0 : Option Addr) (cs : List UInt8) (cap : Nat) (A1 : Option Addr) (gs : List UInt8) (capg : Nat) (w : World) (hH : Holds8 w.heap.size w A0 cs) (hcap : cs.length ≤ cap) (hG : Holds8 w.heap.size w A1 gs) :
    Calls Try.prog 3 #[.slice A0 cs.length cap, .slice A1 gs.length capg] w fun e w' => e = .returned (.bool true) ∧ Below w.heap.size w w' := by
  obtain ⟨N, hN⟩ : ∃ N, cs.length = N := ⟨_, rfl⟩
  obtain ⟨G, hGl⟩ : ∃ G, gs.length = G := ⟨_, rfl⟩
  rw [hN] at hcap ⊢
  rw [hGl]
  have HH := Lib.hid hH
  have HG := Lib.hid hG
  have HN := Lib.hid hN
  have HGL := Lib.hid hGl
  have hNew := own_new (w₀ := w) (W := w) 200 (Below.refl _ _) (by omega) (by omega)
  have HNEW := Lib.hid hNew
  clear hH hG hN hGl hNew
  by_cases hbig : 100 < N
  · have d1 : decide ((100 : Int) < (N : Int)) = true := by simp; omega
    go_enter Try.func3, Try.ntmps3
    go_wp2_with fail
    refine HNEW.out.mono ?_
    rintro e w1 ⟨S, bs, rfl, HO⟩
    go_wp2_with fail
    refine (known_any _).mono ?_
    rintro e w2 ⟨rfl, hb⟩
    have HB := Lib.hid (HO.out.1.later hb).2.1
    clear hb HO
    go_wp2_with fail
    go_ret
    exact ⟨rfl, HB.out⟩
  have d1 : decide ((100 : Int) < (N : Int)) = false := by simp; omega
  by_cases hbig2 : 100 < G
  · have d2 : decide ((100 : Int) < (G : Int)) = true := by simp; omega
    go_enter Try.func3, Try.ntmps3
    go_wp2_with fail
    refine HNEW.out.mono ?_
    rintro e w1 ⟨S, bs, rfl, HO⟩
    go_wp2_with fail
    refine (known_any _).mono ?_
    rintro e w2 ⟨rfl, hb⟩
    have HB := Lib.hid (HO.out.1.later hb).2.1
    clear hb HO
    go_wp2_with fail
    go_ret
    exact ⟨rfl, HB.out⟩
  have d2 : decide ((100 : Int) < (G : Int)) = false := by simp; omega
  have hPush : ∀ S bs W k T th, k < N → Om w W S 200 (pushed (f16 cs) k) T N th bs → Calls Try.prog 10 #[.pointer (some ⟨S, 0, none⟩), .agg #[.int .i64 (f16 cs k), .int .i64 (k : Int)]] W fun e w' => e = .returned (.int .u16 0) ∧ ∃ bs', Hid (Om w w' S 200 (pushed (f16 cs) (k + 1)) T N th bs') := fun S bs W k T th hk h =>
    (own_push (f16 cs k, (k : Int)) h.o ⟨by have := f16_range cs k; simp only; omega, by simp only; omega⟩ (pushed_not _ _) (by rw [pushed_len]; omega)).mono fun e w' ⟨x1, bs', x2⟩ => ⟨x1, bs', Lib.hid (h.next x2.out.1 x2.out.2.1 x2.out.2.2)⟩
  have hDrop : ∀ S bs W k T th s, k < N → Th (f16 cs) N th s → Om w W S 200 s T N th bs → Calls Try.prog 11 #[.pointer (some ⟨S, 0, none⟩), .int .i64 (k : Int)] W fun e w' => e = .returned (.bool (th k)) ∧ ∃ bs', Hid (Om w w' S 200 (del (k : Int) s) T N th bs') := fun S bs W k T th s hk ht h =>
    (own_drop (k : Int) h.o (by omega) (by omega)).mono fun e w' ⟨x1, bs', x2⟩ => ⟨by rw [x1, ht.isin hk], bs', Lib.hid (h.next x2.out.1 x2.out.2.1 x2.out.2.2)⟩
  have hPop : ∀ S bs W T th t r, Om w W S 200 (t :: r) T N th bs → Calls Try.prog 13 #[.pointer (some ⟨S, 0, none⟩)] W fun e w' => e = .returned (.tuple #[.agg #[.int .i64 t.1, .int .i64 t.2], .bool true]) ∧ ∃ bs', Hid (Om w w' S 200 r T N th bs') := fun S bs W T th t r h =>
    (own_pop h.o).mono fun e w' ⟨x1, bs', x2⟩ => ⟨x1, bs', Lib.hid (h.next x2.out.1 x2.out.2.1 x2.out.2.2)⟩
  have hLen : ∀ S bs W T th s, Om w W S 200 s T N th bs → Calls Try.prog 12 #[.pointer (some ⟨S, 0, none⟩)] W fun e w' => e = .returned (.int .i64 (s.length : Int)) ∧ W = w' := fun S bs W T th s h => own_len h.o
  have HPUSH := Lib.hid hPush
  have HDROP := Lib.hid hDrop
  have HPOP := Lib.hid hPop
  have HLEN := Lib.hid hLen
  clear hPush hDrop hPop hLen
  have hmk := fun W => make_ints N (by omega) W
  go_enter Try.func3, Try.ntmps3
  go_wp2_with fail
  refine HNEW.out.mono ?_
  rintro e w1 ⟨S, bs, rfl, HO⟩
  go_wp2_with fail
  refine (known_any _).mono ?_
  rintro e w2 ⟨rfl, hb⟩
  have hO2 := HO.out.1.later hb
  have hO3 := hO2.later (box_below (.cells (zeI N) 3))
  have hM3 := mk_new w2 N
  have hT3 : w2.heap.size ∉ bs := fun hm => by have := hO2.1.lt _ hm; omega
  have hB3 := hO2.2.1.size
  have hom : Om w (w2.alloc (.cells (zeI N) 3)) S 200 (pushed (f16 cs) 0) w2.heap.size N (fun _ => false) bs := ⟨hO3, hM3, hT3, hB3⟩
  have HOM := Lib.hid hom
  obtain ⟨T, hT⟩ : ∃ T, w2.heap.size = T := ⟨_, rfl⟩
  rw [hT] at HOM
  clear hO2 hO3 hM3 hT3 hB3 hom hb HO HNEW
  go_wp2_with fail
  clear hmk hT
  go_loopw [7] (fun kv wr => ∃ k : Nat, k ≤ N ∧ kv = .int .i64 (k : Int) ∧ Hid (∃ bs, Om w wr S 200 (pushed (f16 cs) k) T N (fun i => decide (i < k)) bs)) (fun kv _ => N - (intOf kv).toNat)
  case atStart => exact ⟨0, by omega, rfl, Lib.hid ⟨bs, HOM.out.o, HOM.out.k.congr (fun j _ => by simp), HOM.out.far, HOM.out.base⟩⟩
  case round =>
    clear HOM
    obtain ⟨k, hk, rfl, HR⟩ := hrel
    obtain ⟨bs, hO⟩ := HR.out
    by_cases hlt : k < N
    · have dl : decide ((k : Int) < (N : Int)) = true := by simp; omega
      have hP := HPUSH.out S bs wr k T _ hlt hO
      obtain ⟨b0, o0, rfl, hb0, hc0⟩ := HH.out (by rw [HN.out]; omega)
      have hcell := (hO.o.2.1.cell (p := ⟨b0, o0 + k, none⟩) hb0).trans (hc0 k (by rw [HN.out]; exact hlt))
      have hval : f16 cs k = ((cs.getD k 0).toNat : Int) % 16 := rfl
      obtain ⟨x, hx⟩ : ∃ x : UInt8, cs.getD k 0 = x := ⟨_, rfl⟩
      rw [hval, hx] at hP
      rw [hx] at hcell
      have hx1 := x.toNat_lt
      obtain ⟨z, hz⟩ : ∃ z, x.toNat = z := ⟨_, rfl⟩
      rw [hz] at hP hx1
      have hcell' : wr.cell? ⟨b0, o0 + k, none⟩ = some (.int .u8 (z : Int)) := by rw [← hz]; exact hcell
      obtain ⟨y, hy, hy2⟩ : ∃ y : Nat, (z : Int) % 16 = (y : Int) ∧ y ≤ 15 := ⟨z % 16, by omega, by omega⟩
      rw [hy] at hP
      have HP := Lib.hid hP
      clear hP hcell hval hx hc0 hO HR hz
      go_wp2_with fail
      refine HP.out.mono ?_
      rintro e w3 ⟨rfl, bs2, H2⟩
      obtain ⟨m0, m1⟩ := H2.out.k.2 k hlt
      have hset := H2.out.set (th' := fun i => decide (i < k + 1)) (b := true) hlt (by simp) (fun j hj => by simp; omega)
      have HS := Lib.hid hset
      clear hset
      go_wp2_with fail
      go_roundw
      case rel => exact ⟨k + 1, by omega, by go_num, Lib.hid ⟨bs2, HS.out⟩⟩
      case measure => simp [intOf]; omega
    · obtain rfl : k = N := by omega
      have dl : decide ((k : Int) < (k : Int)) = false := by simp
      have hstart : ∃ (th : Nat → Bool) (s : List Tm) (bs : List Nat), Th (f16 cs) k th s ∧ Om w wr S 200 s T k th bs := ⟨_, _, bs, th_all _ _ (fun i hi => by simp; exact hi), hO⟩
      have HST := Lib.hid hstart
      clear hstart hO HR HPUSH
      go_wp2_with fail
      go_loopw [8] (fun iv wr => ∃ i : Nat, i ≤ G ∧ iv = .int .i64 (i : Int) ∧ Hid (∃ (th : Nat → Bool) (s : List Tm) (bs : List Nat), Th (f16 cs) k th s ∧ Om w wr S 200 s T k th bs)) (fun iv _ => G - (intOf iv).toNat)
      case atStart => exact ⟨0, by omega, rfl, HST⟩
      case round =>
        clear HST
        obtain ⟨i, hi, rfl, HR⟩ := hrel
        by_cases hgo : i < G ∧ 0 < k
        · obtain ⟨hil, hk0⟩ := hgo
          have di : decide ((i : Int) < (G : Int)) = true := by simp; omega
          have dk : decide ((0 : Int) < (k : Int)) = true := by simp; omega
          have dk2 : decide (0 < k) = true := by simp; omega
          have hkne : ¬ (k : Int) = 0 := by omega
          obtain ⟨th, s, bs, hTh, hO⟩ := HR.out
          obtain ⟨b0, o0, rfl, hb0, hc0⟩ := HG.out (by rw [HGL.out]; omega)
          have hcell := (hO.o.2.1.cell (p := ⟨b0, o0 + i, none⟩) hb0).trans (hc0 i (by rw [HGL.out]; exact hil))
          obtain ⟨x, hx⟩ : ∃ x : UInt8, gs.getD i 0 = x := ⟨_, rfl⟩
          rw [hx] at hcell
          have hx1 := x.toNat_lt
          obtain ⟨z, hz⟩ : ∃ z, x.toNat = z := ⟨_, rfl⟩
          rw [hz] at hx1
          have hcell' : wr.cell? ⟨b0, o0 + i, none⟩ = some (.int .u8 (z : Int)) := by rw [← hz]; exact hcell
          obtain ⟨y, hy, hy2⟩ : ∃ y : Nat, (z : Int) % (k : Int) = (y : Int) ∧ y < k := ⟨z % k, by omega, Nat.mod_lt _ hk0⟩
          have hD := fun W (h : Om w W S 200 s T k th bs) => HDROP.out S bs W y T th s hy2 hTh h
          obtain ⟨b, hb⟩ : ∃ b, th y = b := ⟨_, rfl⟩
          rw [hb] at hD
          have hmz := mk_eq b
          obtain ⟨m0, m1⟩ := hO.k.2 y hy2
          rw [hb] at m0
          have HKEEP : Hid (∀ (W : World) (s' : List Tm) (bs' : List Nat), Om w W S 200 s' T k th bs' → W.cell? ⟨T, y, none⟩ = some (.int .i64 (mk1 b))) := Lib.hid fun W s' bs' h => by rw [← hb]; exact (h.k.2 y hy2).1
          obtain ⟨q, hq⟩ : ∃ q : Int, mk1 b = q := ⟨_, rfl⟩
          rw [hq] at hmz m0 HKEEP
          have hnext : ∀ W bs', Om w W S 200 (del (y : Int) s) T k th bs' → W.cell? ⟨T, y, none⟩ = some (.int .i64 q) ∧ W.frozen? ⟨T, y, none⟩ = false ∧ Hid (∃ (th : Nat → Bool) (s : List Tm) (bs : List Nat), Th (f16 cs) k th s ∧ Om w (W.setCell ⟨T, y, none⟩ (.int .i64 0)) S 200 s T k th bs) := fun W bs' h =>
            ⟨HKEEP.out _ _ _ h, (h.k.2 y hy2).2, Lib.hid ⟨fun j => if j = y then false else th j, _, bs', hTh.del (k := y) (by simp) (fun j hj => by simp [hj]), h.set (b := false) hy2 (by simp) (fun j hj => by simp [hj])⟩⟩
          have HD := Lib.hid hD
          have HX := Lib.hid hnext
          have HO := Lib.hid hO
          have zd : wr.drew.cell? ⟨T, y, none⟩ = some (.int .i64 q) := m0
          have od : Om w wr.drew S 200 s T k th bs := hO.later ⟨rfl, rfl, rfl, Nat.le_refl _, fun _ _ => rfl⟩
          have OD := Lib.hid od
          clear hD hcell hx hc0 hO HR hz m0 m1 hb hq hnext hTh od
          go_wp2_with fail
          refine wp_region_held_drew (S := fun W => W.cell? ⟨T, y, none⟩ = some (.int .i64 q)) (by kernel_rfl) ?_ (fun hHeld => ?_)
          · exact zd
          refine wpAnyH_take (i := 0) (v := ?_) rfl (by kernel_rfl) (by kernel_rfl) (by kernel_rfl) (fun _ _ _ h => h) (Or.inl ⟨by rfl, ?_⟩) (by assumption) ?_
          rotate_left
          · intro wq hSw; (try dsimp only at hSw); go_simp; (try with_reducible rfl)
          simp only [Act.put, List.getElem_toArray, List.getElem_cons_succ, List.getElem_cons_zero, List.setIfInBounds_toArray, List.set_cons_zero, List.set_cons_succ]
          refine wpAnyH_take (i := 1) (v := ?_) rfl (by kernel_rfl) (by kernel_rfl) (by kernel_rfl) (fun _ _ _ h => h) (Or.inl ⟨by rfl, ?_⟩) (by assumption) ?_
          rotate_left
          · intro wq hSw; (try dsimp only at hSw); go_simp; (try with_reducible rfl)
          simp only [Act.put, List.getElem_toArray, List.getElem_cons_succ, List.getElem_cons_zero, List.setIfInBounds_toArray, List.set_cons_zero, List.set_cons_succ]
          refine wpAnyH_take (i := 3) (v := ?_) rfl (by kernel_rfl) (by kernel_rfl) (by kernel_rfl) (fun _ _ _ h => h) (Or.inl ⟨by rfl, ?_⟩) (by assumption) ?_
          rotate_left
          · intro wq hSw; (try dsimp only at hSw); go_simp; (try with_reducible rfl)
          simp only [Act.put, List.getElem_toArray, List.getElem_cons_succ, List.getElem_cons_zero, List.setIfInBounds_toArray, List.set_cons_zero, List.set_cons_succ]
          refine wpAnyH_take (i := 4) (v := ?_) rfl (by kernel_rfl) (by kernel_rfl) (by kernel_rfl) (fun _ _ _ h => h) (Or.inl ⟨by rfl, ?_⟩) (by assumption) ?_
          rotate_left
          · intro wq hSw; (try dsimp only at hSw); go_simp; (try with_reducible rfl)
          simp only [Act.put, List.getElem_toArray, List.getElem_cons_succ, List.getElem_cons_zero, List.setIfInBounds_toArray, List.set_cons_zero, List.set_cons_succ]
          refine wpAnyH_take (i := 5) (v := ?_) rfl (by kernel_rfl) (by kernel_rfl) (by kernel_rfl) (fun _ _ _ h => h) (Or.inl ⟨by rfl, ?_⟩) (by assumption) ?_
          rotate_left
          · intro wq hSw; (try dsimp only at hSw); go_simp; (try with_reducible rfl)
          simp only [Act.put, List.getElem_toArray, List.getElem_cons_succ, List.getElem_cons_zero, List.setIfInBounds_toArray, List.set_cons_zero, List.set_cons_succ]
          refine wpAnyH_take (i := 6) (v := ?_) rfl (by kernel_rfl) (by kernel_rfl) (by kernel_rfl) (fun _ _ _ h => h) (Or.inl ⟨by rfl, ?_⟩) (by assumption) ?_
          rotate_left
          · intro wq hSw; (try dsimp only at hSw); have hq := hSw; go_simp; (try with_reducible rfl)
          simp only [Act.put, List.getElem_toArray, List.getElem_cons_succ, List.getElem_cons_zero, List.setIfInBounds_toArray, List.set_cons_zero, List.set_cons_succ]
          refine wpAnyH_take (i := 7) (v := ?_) rfl (by kernel_rfl) (by kernel_rfl) (by kernel_rfl) (fun _ _ _ h => h) (Or.inl ⟨by rfl, ?_⟩) (by assumption) ?_
          rotate_left
          · intro wq hSw; (try dsimp only at hSw); go_simp; (try with_reducible rfl)
          simp only [Act.put, List.getElem_toArray, List.getElem_cons_succ, List.getElem_cons_zero, List.setIfInBounds_toArray, List.set_cons_zero, List.set_cons_succ]
          refine wpAnyH_ready (rs := [2]) (by kernel_rfl) (by simp) ?_
          refine AllReadyH.cons rfl (fun K hK => ?_) AllReadyH.nil
          go_simp
          refine (HD.out _ OD.out).mono ?_
          rintro e w4 ⟨rfl, bs4, H4⟩
          have z2 := HX.out _ _ H4.out
          (try go_wp2_with fail)
          refine hK.out _ _ ?_ (fun hHeld => ?_)
          · exact z2.1
          clear hK K
          try simp only [Act.put, List.getElem_toArray, List.getElem_cons_succ, List.getElem_cons_zero, List.setIfInBounds_toArray, List.set_cons_zero, List.set_cons_succ]
          refine wpAnyH_take (i := 8) (v := ?_) rfl (by kernel_rfl) (by kernel_rfl) (by kernel_rfl) (fun _ _ _ h => h) (Or.inl ⟨by rfl, ?_⟩) (by assumption) ?_
          rotate_left
          · intro wq hSw; (try dsimp only at hSw); go_simp; (try with_reducible rfl)
          simp only [Act.put, List.getElem_toArray, List.getElem_cons_succ, List.getElem_cons_zero, List.setIfInBounds_toArray, List.set_cons_zero, List.set_cons_succ]
          refine wpAnyH_done (by kernel_rfl) ?_ _
          clear hHeld
          obtain ⟨c0, c1, HN3⟩ := z2
          clear zd HD HX OD HO
          go_wp2_with fail
          go_roundw
          case rel => exact ⟨i + 1, by omega, by go_num, HN3⟩
          case measure => simp [intOf]; omega
        · obtain ⟨th, s, bs, hTh, hO⟩ := HR.out
          have hL := HLEN.out S bs wr T th s hO
          have hs2 := hO.o.1.so.2.2.1
          obtain ⟨n0, hn0⟩ : ∃ n0, s.length = n0 := ⟨_, rfl⟩
          rw [hn0] at hL hs2
          have h0 : ∃ (th : Nat → Bool) (s : List Tm) (bs : List Nat), 0 + s.length = n0 ∧ Th (f16 cs) k th s ∧ Om w wr S 200 s T k th bs ∧ ∀ a ∈ s, (-1 : Int) ≤ a.1 := ⟨th, s, bs, by omega, hTh, hO, fun a ha => by
            obtain ⟨j, _, _, rfl⟩ := (hTh a).1 ha
            have := f16_range cs j
            simp only
            omega⟩
          have H0 := Lib.hid h0
          have HL := Lib.hid hL
          have hcases : decide (i < G) = false ∨ (decide (i < G) = true ∧ decide ((0 : Int) < (k : Int)) = false ∧ decide (0 < k) = false) := by
            by_cases h : i < G
            · exact .inr ⟨by simp; omega, by simp; omega, by simp; omega⟩
            · exact .inl (by simp; omega)
          clear h0 hL hTh hO HR hn0 hgo HDROP
          rcases hcases with di | ⟨di, dk, dk2⟩
          all_goals
            go_wp2_with fail
            refine HL.out.mono ?_
            rintro e w' ⟨rfl, rfl⟩
            clear HL
            go_wp2_with fail
            go_loopw [10, 12] (fun lv iv wr => ∃ (i : Nat) (last : Int), i ≤ n0 ∧ iv = .int .i64 (i : Int) ∧ lv = .int .i64 last ∧ Hid (∃ (th : Nat → Bool) (s : List Tm) (bs : List Nat), i + s.length = n0 ∧ Th (f16 cs) k th s ∧ Om w wr S 200 s T k th bs ∧ ∀ a ∈ s, last ≤ a.1)) (fun _ iv _ => n0 - (intOf iv).toNat)
            case atStart => exact ⟨0, -1, by omega, rfl, rfl, H0⟩
            case round =>
              clear H0
              obtain ⟨i, last, hi, rfl, rfl, HR⟩ := hrel
              obtain ⟨th, s, bs, hsl, hTh, hO, hla⟩ := HR.out
              by_cases hlt2 : i < n0
              · have dl2 : decide ((i : Int) < (n0 : Int)) = true := by simp; omega
                obtain ⟨t, r, rfl⟩ : ∃ t r, s = t :: r := by
                  cases s with
                  | nil => simp at hsl; omega
                  | cons t r => exact ⟨t, r, rfl⟩
                have hsn := hO.o.1.so
                obtain ⟨j, hj, hthj, rfl, hrest⟩ := hTh.first hsn.2.1
                have hP := HPOP.out S bs wr T th _ r hO
                have hlj := hla _ (List.mem_cons_self)
                have hra : ∀ a ∈ r, f16 cs j ≤ a.1 := fun a ha => (hsn.1.head_le ha).1
                have hfr := f16_range cs j
                simp only at hP hlj
                have hnext : ∀ W bs', Om w W S 200 r T k th bs' → Om w (W.alloc (.cells #[.int .i64 (f16 cs j), .int .i64 (j : Int)] 31)) S 200 r T k th bs' := fun W bs' h => h.later (box_below _)
                have hmark : ∀ W bs', Om w W S 200 r T k th bs' → W.cell? ⟨T, j, none⟩ = some (.int .i64 1) ∧ W.frozen? ⟨T, j, none⟩ = false ∧ Hid (∃ (th : Nat → Bool) (s : List Tm) (bs : List Nat), (i + 1) + s.length = n0 ∧ Th (f16 cs) k th s ∧ Om w (W.setCell ⟨T, j, none⟩ (.int .i64 0)) S 200 s T k th bs ∧ ∀ a ∈ s, f16 cs j ≤ a.1) := fun W bs' h => by
                  obtain ⟨x1, x2⟩ := h.k.2 j hj
                  rw [hthj] at x1
                  exact ⟨x1, x2, Lib.hid ⟨fun q => if q = j then false else th q, r, bs', by simp at hsl; omega, hrest _ (by simp) (fun q hq => by simp [hq]), h.set (b := false) hj (by simp) (fun q hq => by simp [hq]), hra⟩⟩
                obtain ⟨a, ha⟩ : ∃ a, f16 cs j = a := ⟨_, rfl⟩
                rw [ha] at hP hlj hfr hnext hmark
                have HP := Lib.hid hP
                have HNX := Lib.hid hnext
                have HMK := Lib.hid hmark
                have da : decide (a < last) = false := by simp; omega
                have dj : decide ((k : Int) ≤ (j : Int)) = false := by simp; omega
                have dj2 : decide (k ≤ j) = false := by simp; omega
                clear hP hnext hmark hra hsn hO hTh hthj hrest hla HR hsl ha
                go_wp2_with fail
                refine HP.out.mono ?_
                rintro e w3 ⟨rfl, bs3, H3⟩
                obtain ⟨n3, hn3⟩ : ∃ n3, w3.heap.size = n3 := ⟨_, rfl⟩
                have hk3 := blk_new w3 #[.int .i64 a, .int .i64 (j : Int)] 31
                have h4 := HNX.out _ _ H3.out
                obtain ⟨c0, c1, HM4⟩ := HMK.out _ _ h4
                have hn3T : n3 ≠ T := by have := H3.out.k.1; omega
                rw [hn3] at hk3
                have k0 := hk3.cell 0 rfl
                have k1 := hk3.cell 1 rfl
                have hks := hk3.same (Below.heap_setCell _ ⟨T, j, none⟩ (.int .i64 0) n3 (by simpa using hn3T))
                have s0 := hks.cell 0 rfl
                clear hk3 h4 H3 HMK HNX HP hks
                go_wp2_with fail
                go_roundw
                case rel => exact ⟨i + 1, a, by omega, by go_num, rfl, HM4⟩
                case measure => simp [intOf]; omega
              · obtain rfl : i = n0 := by omega
                have dl2 : decide ((i : Int) < (i : Int)) = false := by simp
                obtain rfl : s = [] := List.eq_nil_of_length_eq_zero (by omega)
                have hc0 : ∀ j, j < k → wr.cell? ⟨T, j, none⟩ = some (.int .i64 0) := fun j hj => by
                  have := (hO.k.2 j hj).1
                  rwa [hTh.none hj] at this
                have HC0 := Lib.hid hc0
                have hL0 := HLEN.out S bs wr T th [] hO
                have HL0 := Lib.hid hL0
                have HO0 := Lib.hid hO.o.2.1
                clear hc0 hL0 hO hTh hla hsl HR
                go_wp2_with fail
                go_loop [15] (fun jv => ∃ j : Nat, j ≤ k ∧ jv = .int .i64 (j : Int)) (fun jv => k - (intOf jv).toNat)
                case atStart => exact ⟨0, by omega, rfl⟩
                case round =>
                  obtain ⟨j, hj, rfl⟩ := hrel
                  by_cases hjk : j < k
                  · have dj : decide ((j : Int) < (k : Int)) = true := by simp; omega
                    have hcj := HC0.out j hjk
                    go_wp2_with fail
                    go_round
                    case rel => exact ⟨j + 1, by omega, by go_num⟩
                    case measure => simp [intOf]; omega
                  · obtain rfl : j = k := by omega
                    have dj : decide ((j : Int) < (j : Int)) = false := by simp
                    go_wp2_with fail
                    refine HL0.out.mono ?_
                    rintro e w' ⟨rfl, rfl⟩
                    go_wp2_with fail
                    go_ret
                    exact ⟨rfl, HO0.out⟩
namespace HeapDrop
set_option linter.unusedSimpArgs false in
set_option maxRecDepth 100000 in
theorem lifted (os : Os) (started : os.Started) (H : Type) (enc : TypeId × Value → H) :
    ReturnsInHanded {} Try.checked os 3 .any (Rows.heapDropSpec.pre6 enc Try.prog Try.f3 Rows.heapDropRow.domain false) (Rows.heapDropSpec.post enc Try.prog Try.f3 false true false false) := by
  refine returnsInHanded_of_change (C := Try.checked) own started (by kernel_rfl) Try.func3
    (ChangeSpec.witness6 (enc := enc) (C := Try.checked) false ⟨#[], #[.slice none 0 0, .slice none 0 0], []⟩ 8 (by kernel_rfl) (by kernel_rfl) (by kernel_rfl) (by kernel_rfl)) ?_
  intro W base args ds gs before hval0 hW _ _
  have hval : ∀ (j : Nat) t v, Try.f3.params[j]? = some t → args[j]? = some v → Value.okWide Try.prog W .any base t v := hval0
  have hW' := hW
  obtain ⟨p, q, hA0, hV, rfl, _, _⟩ := hW
  have hA : DataW.TrodAll enc Try.prog W 0 (fun _ => true) true Try.f3.params.toList args.toList ds p := hA0
  rw [Try.params3] at hA hval
  obtain ⟨v0, vs0, d0, ds0, p0, q0, hargs, rfl, rfl, h0, r0⟩ := trodAll_cons hA
  obtain ⟨v1, vs1, d1, ds1, p1, q1, rfl, rfl, rfl, h1, r1⟩ := trodAll_cons r0
  obtain ⟨rfl, rfl, rfl⟩ := trodAll_nil r1
  obtain rfl : args = #[v0, v1] := by cases args; simp_all
  obtain ⟨rfl, rfl⟩ := trodVars_none hV
  obtain ⟨A0, cs0, cap0, rfl, l0, m0, b0, again0⟩ := arg_bytes (hval 0 22 v0 rfl rfl) h0
  have x0 := arg_extra h0
  obtain ⟨A1, cs1, cap1, rfl, l1, m1, b1, again1⟩ := arg_bytes (hval 1 22 v1 rfl rfl) h1
  have x1 := arg_extra h1
  clear hA0 hval0
  simp only [List.append_nil] at hW'
  refine (heapDrop_walk A0 cs0 cap0 A1 cs1 cap1 W b0 l0 b1).mono fun e W' ⟨he, hg⟩ => ?_
  subst he
  exact ⟨_, rfl, true_last hW' rfl (by kernel_rfl) Try.underlying4 rfl rfl rfl (of_decide_eq_true (by kernel_rfl)) hg⟩

/-- **HeapDrop, at every input.** -/
theorem proved : Rows.HeapDropSaid :=
  OpenClaim.holds_of_wide 3 Try.f3 rfl rfl rfl rfl rfl rfl rfl ⟨rfl, rfl, rfl, rfl, rfl⟩ rfl rfl rfl rfl rfl (by kernel_rfl) Try.func3 (by kernel_rfl)
    (of_decide_eq_true (by kernel_rfl)) (by unfold Func.isWrapper; first | (rw [if_pos (by decide +kernel)]; kernel_rfl) | (rw [if_neg (by decide +kernel)]; exact ⟨rfl, rfl⟩))
    (fun os started H enc _ => lifted os started H enc)
end HeapDrop

end Go.Proofs.Ytlbopajnnbnolaa
