/-
  What item.laySpan does: a span's fields are laid behind what is laid. No condition.
-/
import Derived.Test.YtklgggolkclebaaItemLayLog
namespace Go.Proofs.Ytklgggolkclebaa
open Go.RowKit Go.Proofs.NumMath Go.Proofs.ItemMath

theorem attrFields_snoc : ∀ (l : List Attr) (a : Attr), attrFields (l ++ [a]) = attrFields l ++ fieldT 10 (attrText a)
  | [], a => by simp [attrFields]
  | b :: r, a => by simp [attrFields, attrFields_snoc r a]
theorem take_attr {l : List Attr} {k : Nat} (h : k < l.length) : l.take (k + 1) = l.take k ++ [l.getD k (none8, none8)] := by
  rw [List.take_succ_eq_append_getElem h]
  simp [List.getD_eq_getElem?_getD, h]
theorem attrFields_len : ∀ (l : List Attr), (∀ a ∈ l, a.1.size ≤ 60 ∧ a.2.size ≤ 60) → (attrFields l).length ≤ 150 * l.length
  | [], _ => by simp [attrFields]
  | a :: r, h => by
    have h1 := attrFields_len r (fun b hb => h b (by simp [hb]))
    obtain ⟨h2, h3⟩ := h a (by simp)
    have h4 := attrText_len a h2
    have h5 := fieldT_len (k := 10) (s := attrText a) (by omega) (by omega)
    simp only [attrFields, List.length_append, List.length_cons]
    omega
theorem own_some {W : World} {B : Nat} {v : Value} {cs : List UInt8} {e : TypeId} (h : W.ownsRow B e 1 v cs.length (cs.map b8)) : ∃ g, (∀ k, v.ownBlock = some k → k = g) ∧ (0 < cs.length → g < W.heap.size) := by
  rcases h.2 with ⟨rfl, h0⟩ | ⟨g, cap, cur, rfl, _, hg, _⟩
  · exact ⟨0, fun k hk => by simp [Value.ownBlock] at hk, fun h => by omega⟩
  · exact ⟨g, fun k hk => by simpa [Value.ownBlock] using hk.symm, fun _ => lt_of_block hg⟩

set_option linter.unusedSimpArgs false in
set_option maxRecDepth 100000 in
set_option maxHeartbeats 4000000 in
/-- **A span laid.** -/
theorem laySpan_any (B gw : Nat) (hi lo id par rv : Nat) (name : ByteArray) (start stop : Nat) (bad : Bool) (A : Option Addr) (l : List Attr) (n cap : Nat) (W : World) (cs : List UInt8) (v : Value)
    (b1 : hi < 18446744073709551616) (b2 : lo < 18446744073709551616) (b3 : id < 18446744073709551616) (b4 : par < 18446744073709551616) (b5 : name.size ≤ 60) (b6 : start ≤ 1099511627776) (b7 : stop ≤ 1099511627776) (b9 : rv < 18446744073709551616)
    (hn : l.length = n) (hn8 : n ≤ 8) (hall : ∀ a ∈ l, a.1.size ≤ 60 ∧ a.2.size ≤ 60) (hr : HoldsA B W A l) (hl : cs.length ≤ 100) (hl0 : 0 < cs.length)
    (h1 : Blk W gw #[v] 71) (h2 : W.ownsRow B 5 1 v cs.length (cs.map b8)) (h4 : B ≤ gw) :
    Calls Try.prog 33 #[.agg (spCells hi lo id par name (start : Int) (stop : Int) bad A n cap rv), .func (.func 34) #[.pointer (some ⟨gw, 0, none⟩)] #[], .func (.func 35) #[.pointer (some ⟨gw, 0, none⟩)] #[]] W fun e W' =>
      e = .returned (.tuple #[]) ∧ ∃ v', Blk W' gw #[v'] 71 ∧ W'.ownsRow B 5 1 v' (cs ++ encSpan ⟨hi, lo, id, par, name, (start : Int), (stop : Int), bad, l, rv⟩).length ((cs ++ encSpan ⟨hi, lo, id, par, name, (start : Int), (stop : Int), bad, l, rv⟩).map b8) ∧ Below B W W' := by
  have hgw := h1.lt
  obtain ⟨g0, h3, h5⟩ := own_some h2
  have h5 := h5 hl0
  unfold spCells
  obtain ⟨W1, hW1⟩ : ∃ W1, W.alloc (.cells #[.int .u64 (hi : Int), .int .u64 (lo : Int), .int .u64 (id : Int), .int .u64 (par : Int), .string name, .int .i64 (start : Int), .int .i64 (stop : Int), .bool bad, .slice A n cap, .int .u64 (rv : Int)] 26) = W1 := ⟨_, rfl⟩
  have hlow : Below B W W1 := by rw [← hW1]; exact (Below.refl _ W).alloc (by omega) _
  have hsz : W1.heap.size = W.heap.size + 1 := by rw [← hW1]; simp
  have H1 : Wr B W1.heap.size gw g0 W1 W1 cs v := by
    have hb0 : Below W.heap.size W W1 := by rw [← hW1]; exact (Below.refl _ W).alloc (Nat.le_refl _) _
    exact Wr.start (h1.same (hb0.block _ hgw)) (own_later h2 hb0) h3 h4
  have c0 : W1.cell? ⟨W.heap.size, 0, none⟩ = some (.int .u64 (hi : Int)) := by rw [← hW1]; exact World.cell?_alloc_mark _ _ _ _ _
  have c1 : W1.cell? ⟨W.heap.size, 1, none⟩ = some (.int .u64 (lo : Int)) := by rw [← hW1]; exact World.cell?_alloc_mark _ _ _ _ _
  have c2 : W1.cell? ⟨W.heap.size, 2, none⟩ = some (.int .u64 (id : Int)) := by rw [← hW1]; exact World.cell?_alloc_mark _ _ _ _ _
  have c3 : W1.cell? ⟨W.heap.size, 3, none⟩ = some (.int .u64 (par : Int)) := by rw [← hW1]; exact World.cell?_alloc_mark _ _ _ _ _
  have c4 : W1.cell? ⟨W.heap.size, 4, none⟩ = some (.string name) := by rw [← hW1]; exact World.cell?_alloc_mark _ _ _ _ _
  have c5 : W1.cell? ⟨W.heap.size, 5, none⟩ = some (.int .i64 (start : Int)) := by rw [← hW1]; exact World.cell?_alloc_mark _ _ _ _ _
  have c6 : W1.cell? ⟨W.heap.size, 6, none⟩ = some (.int .i64 (stop : Int)) := by rw [← hW1]; exact World.cell?_alloc_mark _ _ _ _ _
  have c7 : W1.cell? ⟨W.heap.size, 7, none⟩ = some (.bool bad) := by rw [← hW1]; exact World.cell?_alloc_mark _ _ _ _ _
  have c8 : W1.cell? ⟨W.heap.size, 8, none⟩ = some (.slice A n cap) := by rw [← hW1]; exact World.cell?_alloc_mark _ _ _ _ _
  have c9 : W1.cell? ⟨W.heap.size, 9, none⟩ = some (.int .u64 (rv : Int)) := by rw [← hW1]; exact World.cell?_alloc_mark _ _ _ _ _
  have wa : IntKind.u64.wrap (start : Int) = (start : Int) := IntWalk.u64_in _ (by omega)
  have wb : IntKind.u64.wrap (stop : Int) = (stop : Int) := IntWalk.u64_in _ (by omega)
  have q1 := fieldN_len (k := 1) (by omega) b1
  have q2 := fieldN_len (k := 2) (by omega) b2
  have q3 := fieldN_len (k := 3) (by omega) b3
  have q4 := fieldN_len (k := 4) (by omega) b4
  have q5 := fieldT_len (k := 5) (s := name.data.toList) (by omega) (by simp; omega)
  rw [size_list] at q5
  have q6 := fieldN_len (k := 6) (n := start) (by omega) (by omega)
  have q7 := fieldN_len (k := 7) (n := stop) (by omega) (by omega)
  have q8 := fieldN_len (k := 8) (n := badN bad) (by omega) (by unfold badN; split <;> omega)
  have q9 := fieldN_len (k := 9) (by omega) b9
  have HE : Hid (cs ++ encSpan ⟨hi, lo, id, par, name, (start : Int), (stop : Int), bad, l, rv⟩ = (((((((((cs ++ fieldN 1 hi) ++ fieldN 2 lo) ++ fieldN 3 id) ++ fieldN 4 par) ++ fieldT 5 name.data.toList) ++ fieldN 6 start) ++ fieldN 7 stop) ++ fieldN 8 (badN bad)) ++ fieldN 9 rv) ++ attrFields l) := Lib.hid (by simp [encSpan])
  rw [HE.out]
  obtain ⟨z1, e1⟩ : ∃ z, cs ++ fieldN 1 hi = z := ⟨_, rfl⟩
  obtain ⟨z2, e2⟩ : ∃ z, z1 ++ fieldN 2 lo = z := ⟨_, rfl⟩
  obtain ⟨z3, e3⟩ : ∃ z, z2 ++ fieldN 3 id = z := ⟨_, rfl⟩
  obtain ⟨z4, e4⟩ : ∃ z, z3 ++ fieldN 4 par = z := ⟨_, rfl⟩
  obtain ⟨z5, e5⟩ : ∃ z, z4 ++ fieldT 5 name.data.toList = z := ⟨_, rfl⟩
  obtain ⟨z6, e6⟩ : ∃ z, z5 ++ fieldN 6 start = z := ⟨_, rfl⟩
  obtain ⟨z7, e7⟩ : ∃ z, z6 ++ fieldN 7 stop = z := ⟨_, rfl⟩
  obtain ⟨z8, e8⟩ : ∃ z, z7 ++ fieldN 8 (badN bad) = z := ⟨_, rfl⟩
  obtain ⟨z9, e9⟩ : ∃ z, z8 ++ fieldN 9 rv = z := ⟨_, rfl⟩
  have m1 : z1.length ≤ 120 := by rw [← e1]; simp; omega
  have m2 : z2.length ≤ 140 := by rw [← e2]; simp; omega
  have m3 : z3.length ≤ 160 := by rw [← e3]; simp; omega
  have m4 : z4.length ≤ 180 := by rw [← e4]; simp; omega
  have m5 : z5.length ≤ 260 := by rw [← e5]; simp; omega
  have m6 : z6.length ≤ 280 := by rw [← e6]; simp; omega
  have m7 : z7.length ≤ 300 := by rw [← e7]; simp; omega
  have m8 : z8.length ≤ 320 := by rw [← e8]; simp; omega
  have m9 : z9.length ≤ 340 := by rw [← e9]; simp; omega
  rw [e1, e2, e3, e4, e5, e6, e7, e8, e9]
  have E1 := Lib.hid e1
  have E2 := Lib.hid e2
  have E3 := Lib.hid e3
  have E4 := Lib.hid e4
  have E5 := Lib.hid e5
  have E6 := Lib.hid e6
  have E7 := Lib.hid e7
  have E8 := Lib.hid e8
  have E9 := Lib.hid e9
  have HS := Lib.hid hsz
  have HR := Lib.hid hr
  have HN := Lib.hid hn
  have HALL := Lib.hid hall
  have hbx : W.heap.size ≠ gw := by omega
  have hbg : W.heap.size ≠ g0 := by omega
  clear e1 q1 e2 q2 e3 q3 e4 q4 e5 q5 e6 q6 e7 q7 e8 q8 e9 q9 hsz HE h1 h2 h3 hr hn hall
  go_enter Try.func33, Try.ntmps33
  go_wp2_with fail
  refine (number_at B W1.heap.size gw g0 1 hi W1 W1 cs v rfl (by omega) b1 (by omega) H1).mono ?_
  rintro e W2 ⟨rfl, v1, H2⟩
  rw [E1.out] at H2
  have d1 := (H2.cell (b := W.heap.size) (by rw [HS.out]; omega) hbx hbg 1).trans c1
  go_wp2_with fail
  refine (number_at B W1.heap.size gw g0 2 lo W1 W2 z1 v1 rfl (by omega) b2 (by omega) H2).mono ?_
  rintro e W3 ⟨rfl, v2, H3⟩
  rw [E2.out] at H3
  have d2 := (H3.cell (b := W.heap.size) (by rw [HS.out]; omega) hbx hbg 2).trans c2
  go_wp2_with fail
  refine (number_at B W1.heap.size gw g0 3 id W1 W3 z2 v2 rfl (by omega) b3 (by omega) H3).mono ?_
  rintro e W4 ⟨rfl, v3, H4⟩
  rw [E3.out] at H4
  have d3 := (H4.cell (b := W.heap.size) (by rw [HS.out]; omega) hbx hbg 3).trans c3
  go_wp2_with fail
  refine (number_at B W1.heap.size gw g0 4 par W1 W4 z3 v3 rfl (by omega) b4 (by omega) H4).mono ?_
  rintro e W5 ⟨rfl, v4, H5⟩
  rw [E4.out] at H5
  have d4 := (H5.cell (b := W.heap.size) (by rw [HS.out]; omega) hbx hbg 4).trans c4
  go_wp2_with fail
  refine (text_at B W1.heap.size gw g0 5 name W1 W5 z4 v4 rfl (by omega) (by omega) (by omega) H5).mono ?_
  rintro e W6 ⟨rfl, v5, H6⟩
  rw [E5.out] at H6
  have d5 := (H6.cell (b := W.heap.size) (by rw [HS.out]; omega) hbx hbg 5).trans c5
  go_wp2_with fail
  refine (number_at B W1.heap.size gw g0 6 start W1 W6 z5 v5 rfl (by omega) (by omega) (by omega) H6).mono ?_
  rintro e W7 ⟨rfl, v6, H7⟩
  rw [E6.out] at H7
  have d6 := (H7.cell (b := W.heap.size) (by rw [HS.out]; omega) hbx hbg 6).trans c6
  go_wp2_with fail
  refine (number_at B W1.heap.size gw g0 7 stop W1 W7 z6 v6 rfl (by omega) (by omega) (by omega) H7).mono ?_
  rintro e W8 ⟨rfl, v7, H8⟩
  rw [E7.out] at H8
  have d7 := (H8.cell (b := W.heap.size) (by rw [HS.out]; omega) hbx hbg 7).trans c7
  go_upto_if 39 with fail
  go_cut [3] (fun s3 wx => s3 = .pointer (some ⟨W.heap.size, 0, none⟩) ∧ ∃ v', Wr B W1.heap.size gw g0 W1 wx z8 v')
  case first =>
    cases bad
    · have hz : z8 = z7 := by rw [← E8.out]; simp [badN, fieldN]
      subst hz
      go_wp2_with fail
      go_meet
      exact ⟨rfl, v7, H8⟩
    · go_wp2_with fail
      refine (number_at B W1.heap.size gw g0 8 1 W1 W8 z7 v7 rfl (by omega) (by omega) (by omega) H8).mono ?_
      rintro e W9 ⟨rfl, v8, H9⟩
      have hz : z7 ++ fieldN 8 1 = z8 := E8.out
      rw [hz] at H9
      clear hz
      go_wp2_with fail
      go_meet
      exact ⟨rfl, v8, H9⟩
  case rest =>
    obtain ⟨rfl, v8, H9⟩ := hcut
    have d9 := (H9.cell (b := W.heap.size) (by rw [HS.out]; omega) hbx hbg 9).trans c9
    go_wp2_with fail
    refine (number_at B W1.heap.size gw g0 9 rv W1 wc z8 v8 rfl (by omega) b9 (by omega) H9).mono ?_
    rintro e W10 ⟨rfl, v9, H10⟩
    rw [E9.out] at H10
    have d8 := (H10.cell (b := W.heap.size) (by rw [HS.out]; omega) hbx hbg 8).trans c8
    have L10 := hlow.trans H10.low
    have HK := Lib.hid H10
    clear c0 c1 c2 c3 c4 c5 c6 c7 c8 c9 d1 d2 d3 d4 d5 d6 d7 H2 H3 H4 H5 H6 H7 H8 H9 H10 hW1
    go_wp2_with fail
    go_loopw [49] (fun iv wr => ∃ (k : Nat) (v' : Value), k ≤ n ∧ iv = .int .i64 (k : Int) ∧ Blk wr gw #[v'] 71 ∧ wr.ownsRow B 5 1 v' (z9 ++ attrFields (l.take k)).length ((z9 ++ attrFields (l.take k)).map b8) ∧ Below B W wr) (fun iv _ => n - (intOf iv).toNat)
    case atStart => exact ⟨0, v9, by omega, rfl, HK.out.blk, by have := HK.out.own; simpa [attrFields] using this, L10⟩
    case round =>
      obtain ⟨k, v', hk, rfl, hblk, hown, hlw⟩ := hrel
      by_cases hlt : k < n
      · obtain ⟨b, off, hA, hbl, hcell⟩ := (HR.out.below hlw) (by rw [HN.out]; omega)
        obtain ⟨hc1, hc2, hz1, hz2⟩ := hcell k (by rw [HN.out]; exact hlt)
        have htk := take_attr (l := l) (k := k) (by rw [HN.out]; exact hlt)
        have hal := HALL.out (l.getD k (none8, none8)) (by
          have h1 : k < l.length := by rw [HN.out]; exact hlt
          simp [List.getD_eq_getElem?_getD, h1])
        have hlen := attrFields_len (l.take k) (fun a ha => HALL.out a (List.mem_of_mem_take ha))
        have hzl : (z9 ++ attrFields (l.take k)).length ≤ 2000 := by
          have : (l.take k).length ≤ k := List.length_take_le _ _
          simp; omega
        have hz0 : 0 < (z9 ++ attrFields (l.take k)).length := by
          have : 0 < z9.length := by
            have h0 := HK.out
            rw [← E9.out, ← E8.out, ← E7.out, ← E6.out, ← E5.out, ← E4.out, ← E3.out, ← E2.out, ← E1.out]; simp; omega
          simp; omega
        have hnx : z9 ++ attrFields (l.take (k + 1)) = (z9 ++ attrFields (l.take k)) ++ fieldT 10 (attrText (l.getD k (none8, none8))) := by
          rw [htk, attrFields_snoc]; simp
        clear hcell hz1 hz2 hlen htk
        subst hA
        generalize l.getD k (none8, none8) = at8' at hc1 hc2 hal hnx
        obtain ⟨key, val⟩ := at8'
        dsimp only at hc1 hc2 hal
        obtain ⟨hk60, hv60⟩ := hal
        obtain ⟨p1, hp1⟩ : ∃ p, putText key.data.toList = p := ⟨_, rfl⟩
        obtain ⟨pl, hpl⟩ : ∃ p, p1.length = p := ⟨_, rfl⟩
        obtain ⟨s, hs⟩ : ∃ s : ByteArray, (⟨p1.toArray⟩ : ByteArray) ++ val = s := ⟨_, rfl⟩
        have hsl : s.data.toList = attrText (key, val) := by rw [← hs, ← hp1]; simp [attrText, putText]
        have hss : s.size ≤ 200 := by
          have h1 := attrText_len (key, val) hk60
          rw [← size_list, hsl, h1]; dsimp only; omega
        rw [← hsl] at hnx
        have hplb : pl ≤ 80 := by
          rw [← hpl, ← hp1]; unfold putText
          have := put_len10 (n := key.data.toList.length) (by simp; omega)
          simp at this ⊢; omega
        have hP := fun W => putText_holds key W (by omega)
        rw [hp1, hpl] at hP
        have hszp : ¬ (9223372036854775807 < p1.length + val.size) := by rw [hpl]; omega
        have HP := Lib.hid hP
        have HPL := Lib.hid hpl
        have HNX := Lib.hid hnx
        clear hP hpl hnx hsl hp1
        generalize z9 ++ attrFields (l.take k) = zk at hown hzl hz0 HNX
        obtain ⟨gk, hg1, hg2⟩ := own_some hown
        have hg2 := hg2 hz0
        have hgwl := hblk.lt
        have hbB : B ≤ wr.heap.size := by omega
        have HB := Lib.hid hblk
        have HO := Lib.hid hown
        have HG := Lib.hid hg1
        clear hblk hown hg1
        obtain ⟨X, hX⟩ : ∃ X, wr.alloc (.cells #[.string key, .string val] 36) = X := ⟨_, rfl⟩
        have hlowX : Below B W X := by rw [← hX]; exact hlw.alloc hbB _
        have hX0 : Below wr.heap.size wr X := by rw [← hX]; exact (Below.refl _ wr).alloc (Nat.le_refl _) _
        have hXs : X.heap.size = wr.heap.size + 1 := by rw [← hX]; simp
        have HX : Wr B X.heap.size gw gk X X zk v' := Wr.start (HB.out.same (hX0.block _ hgwl)) (own_later HO.out hX0) HG.out h4
        have k0 : X.cell? ⟨wr.heap.size, 0, none⟩ = some (.string key) := by rw [← hX]; exact World.cell?_alloc_mark _ _ _ _ _
        have k1 : X.cell? ⟨wr.heap.size, 1, none⟩ = some (.string val) := by rw [← hX]; exact World.cell?_alloc_mark _ _ _ _ _
        have hn1 : wr.heap.size ≠ gw := by omega
        have hn2 : wr.heap.size ≠ gk := by omega
        have HXS := Lib.hid hXs
        have HXX := Lib.hid HX
        clear hX0 hXs HX
        go_wp2_with fail
        refine wp_region_held_drew (S := fun w => w.cell? ⟨wr.heap.size, 0, none⟩ = some (.string key) ∧ w.cell? ⟨wr.heap.size, 1, none⟩ = some (.string val)) (by kernel_rfl) ?_ (fun hHeld => ?_)
        · exact ⟨k0, k1⟩
        refine wpAnyH_take (i := 0) (v := ?_) rfl (by kernel_rfl) (by kernel_rfl) (by kernel_rfl) (fun _ _ _ h => h) (Or.inl ⟨by rfl, ?_⟩) (by assumption) ?_
        rotate_left
        · intro wq hSw; (try dsimp only at hSw); go_simp; (try with_reducible rfl)
        simp only [Act.put, List.getElem_toArray, List.getElem_cons_succ, List.getElem_cons_zero, List.setIfInBounds_toArray, List.set_cons_zero, List.set_cons_succ]
        refine wpAnyH_take (i := 1) (v := ?_) rfl (by kernel_rfl) (by kernel_rfl) (by kernel_rfl) (fun _ _ _ h => h) (Or.inl ⟨by rfl, ?_⟩) (by assumption) ?_
        rotate_left
        · intro wq hSw; (try dsimp only at hSw); go_simp; (try with_reducible rfl)
        simp only [Act.put, List.getElem_toArray, List.getElem_cons_succ, List.getElem_cons_zero, List.setIfInBounds_toArray, List.set_cons_zero, List.set_cons_succ]
        refine wpAnyH_take (i := 2) (v := ?_) rfl (by kernel_rfl) (by kernel_rfl) (by kernel_rfl) (fun _ _ _ h => h) (Or.inl ⟨by rfl, ?_⟩) (by assumption) ?_
        rotate_left
        · intro wq hSw; (try dsimp only at hSw); have hq := hSw.1; go_simp; (try with_reducible rfl)
        simp only [Act.put, List.getElem_toArray, List.getElem_cons_succ, List.getElem_cons_zero, List.setIfInBounds_toArray, List.set_cons_zero, List.set_cons_succ]
        refine wpAnyH_take (i := 5) (v := ?_) rfl (by kernel_rfl) (by kernel_rfl) (by kernel_rfl) (fun _ _ _ h => h) (Or.inl ⟨by rfl, ?_⟩) (by assumption) ?_
        rotate_left
        · intro wq hSw; (try dsimp only at hSw); go_simp; (try with_reducible rfl)
        simp only [Act.put, List.getElem_toArray, List.getElem_cons_succ, List.getElem_cons_zero, List.setIfInBounds_toArray, List.set_cons_zero, List.set_cons_succ]
        refine wpAnyH_take (i := 6) (v := ?_) rfl (by kernel_rfl) (by kernel_rfl) (by kernel_rfl) (fun _ _ _ h => h) (Or.inl ⟨by rfl, ?_⟩) (by assumption) ?_
        rotate_left
        · intro wq hSw; (try dsimp only at hSw); have hq := hSw.2; go_simp; (try with_reducible rfl)
        simp only [Act.put, List.getElem_toArray, List.getElem_cons_succ, List.getElem_cons_zero, List.setIfInBounds_toArray, List.set_cons_zero, List.set_cons_succ]
        refine wpAnyH_ready (rs := [3]) (by kernel_rfl) (by simp) ?_
        refine AllReadyH.cons rfl (fun K hK => ?_) AllReadyH.nil
        go_simp
        refine (HP.out _).mono ?_
        rintro e w1 ⟨A1, c1, rfl, _, _, hr1, hb1⟩
        have hcv := text_run A1 p1 pl c1 w1 _ HPL.out hr1
        have HW1 := Lib.hid (HXX.out.keep (undrew_b hb1))
        clear hr1
        (try go_wp2_with fail)
        refine hK.out _ _ ?_ (fun hHeld => ?_)
        · exact ⟨(hb1.cell (p := ⟨wr.heap.size, 0, none⟩) (by show wr.heap.size < X.heap.size; rw [HXS.out]; omega)).trans k0, (hb1.cell (p := ⟨wr.heap.size, 1, none⟩) (by show wr.heap.size < X.heap.size; rw [HXS.out]; omega)).trans k1⟩
        clear hK K
        try simp only [Act.put, List.getElem_toArray, List.getElem_cons_succ, List.getElem_cons_zero, List.setIfInBounds_toArray, List.set_cons_zero, List.set_cons_succ]
        refine wpAnyH_ready (rs := [4]) (by kernel_rfl) (by simp) ?_
        refine AllReadyH.cons rfl (fun K hK => ?_) AllReadyH.nil
        go_simp
        (try go_wp2_with fail)
        refine hK.out _ _ ?_ (fun hHeld => ?_)
        · exact hHeld
        clear hK K
        try simp only [Act.put, List.getElem_toArray, List.getElem_cons_succ, List.getElem_cons_zero, List.setIfInBounds_toArray, List.set_cons_zero, List.set_cons_succ]
        refine wpAnyH_take (i := 7) (v := ?_) rfl (by kernel_rfl) (by kernel_rfl) (by kernel_rfl) (fun _ _ _ h => h) (Or.inl ⟨by rfl, ?_⟩) (by assumption) ?_
        rotate_left
        · intro wq hSw; (try dsimp only at hSw); go_simp; (try with_reducible rfl)
        simp only [Act.put, List.getElem_toArray, List.getElem_cons_succ, List.getElem_cons_zero, List.setIfInBounds_toArray, List.set_cons_zero, List.set_cons_succ]
        refine wpAnyH_ready (rs := [8]) (by kernel_rfl) (by simp) ?_
        refine AllReadyH.cons rfl (fun K hK => ?_) AllReadyH.nil
        go_simp
        refine (text_at B X.heap.size gw gk 10 s X w1 zk v' rfl (by omega) (by omega) (by omega) HW1.out).mono ?_
        rintro e w2 ⟨rfl, v2, H2'⟩
        have H2 := Lib.hid H2'
        clear H2'
        (try go_wp2_with fail)
        refine hK.out _ _ ?_ (fun hHeld => ?_)
        · exact ⟨(H2.out.cell (b := wr.heap.size) (by rw [HXS.out]; omega) hn1 hn2 0).trans k0, (H2.out.cell (b := wr.heap.size) (by rw [HXS.out]; omega) hn1 hn2 1).trans k1⟩
        clear hK K
        try simp only [Act.put, List.getElem_toArray, List.getElem_cons_succ, List.getElem_cons_zero, List.setIfInBounds_toArray, List.set_cons_zero, List.set_cons_succ]
        refine wpAnyH_done (by kernel_rfl) ?_ _
        clear hHeld
        go_wp2_with fail
        go_roundw
        case rel => exact ⟨k + 1, v2, by omega, by go_num, H2.out.blk, by rw [HNX.out]; exact H2.out.own, hlowX.trans H2.out.low⟩
        case measure => simp [intOf]; omega
      · obtain rfl : k = n := by omega
        have hf : l.take k = l := by rw [← HN.out]; simp
        rw [hf] at hown
        clear hf
        go_wp2_with fail
        go_end0
        exact ⟨rfl, v', hblk, hown, hlw⟩

end Go.Proofs.Ytklgggolkclebaa
