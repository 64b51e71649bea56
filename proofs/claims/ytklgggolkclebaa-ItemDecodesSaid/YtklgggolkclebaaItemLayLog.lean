/-
  What item.layLog does: a log's fields are laid behind what is laid. No condition.
-/
import Derived.Test.YtklgggolkclebaaItemLay
namespace Go.Proofs.Ytklgggolkclebaa
open Go.RowKit Go.Proofs.NumMath Go.Proofs.ItemMath

theorem Wr.start {B gw g0 : Nat} {W : World} {cs : List UInt8} {v : Value} (h1 : Blk W gw #[v] 71) (h2 : W.ownsRow B 5 1 v cs.length (cs.map b8)) (h3 : ∀ k, v.ownBlock = some k → k = g0) (h4 : B ≤ gw) : Wr B W.heap.size gw g0 W W cs v :=
  ⟨h1, h2, fun k hk => .inl (h3 k hk), fun _ _ _ _ => rfl, Nat.le_refl _, h4, Below.refl _ _⟩
theorem Wr.cell {B N gw g0 : Nat} {W0 W : World} {cs : List UInt8} {v : Value} (h : Wr B N gw g0 W0 W cs v) {b : Nat} (hb : b < N) (h1 : b ≠ gw) (h2 : b ≠ g0) (j : Nat) : W.cell? ⟨b, j, none⟩ = W0.cell? ⟨b, j, none⟩ := World.cell?_of_block (h.same b hb h1 h2)
theorem fieldN_len {k n : Nat} (hk : k < 100) (hn : n < 18446744073709551616) : (fieldN k n).length ≤ 20 := by
  unfold fieldN
  split
  · simp
  · have h1 := put_len10 (n := 2 * k) (by omega)
    have h2 := put_len10 hn
    simp; omega
theorem fieldT_len {k : Nat} {s : List UInt8} (hk : k < 100) (hs : s.length ≤ 100000) : (fieldT k s).length ≤ 20 + s.length := by
  unfold fieldT
  split
  · simp
  · have h1 := put_len10 (n := 2 * k + 1) (by omega)
    have h2 := put_len10 (n := s.length) (by omega)
    simp; omega

theorem number_at {i : Int} (B N gw g0 k n : Nat) (W0 W : World) (cs : List UInt8) (v : Value) (hi : i = (k : Int)) (hk : k < 100) (hn : n < 18446744073709551616) (hl : cs.length ≤ 900000) (h : Wr B N gw g0 W0 W cs v) :
    Calls Try.prog 34 #[.pointer (some ⟨gw, 0, none⟩), .int .u64 i, .int .u64 (n : Int)] W fun e W' => e = .returned (.tuple #[]) ∧ ∃ v', Wr B N gw g0 W0 W' (cs ++ fieldN k n) v' := hi ▸ number_any B N gw g0 k n W0 W cs v hk hn hl h
theorem text_at {i : Int} (B N gw g0 k : Nat) (s : ByteArray) (W0 W : World) (cs : List UInt8) (v : Value) (hi : i = (k : Int)) (hk : k < 100) (hs : s.size ≤ 90000) (hl : cs.length ≤ 900000) (h : Wr B N gw g0 W0 W cs v) :
    Calls Try.prog 35 #[.pointer (some ⟨gw, 0, none⟩), .int .u64 i, .string s] W fun e W' => e = .returned (.tuple #[]) ∧ ∃ v', Wr B N gw g0 W0 W' (cs ++ fieldT k s.data.toList) v' := hi ▸ text_any B N gw g0 k s W0 W cs v hk hs hl h

set_option maxRecDepth 100000 in
set_option maxHeartbeats 2000000 in
/-- **A log laid.** -/
theorem layLog_any (B gw g0 : Nat) (key body : ByteArray) (weight a : Nat) (W : World) (cs : List UInt8) (v : Value) (hk : key.size ≤ 60) (hb : body.size ≤ 200) (hw : weight < 18446744073709551616) (ha : a ≤ 1099511627776) (hl : cs.length ≤ 100)
    (h1 : Blk W gw #[v] 71) (h2 : W.ownsRow B 5 1 v cs.length (cs.map b8)) (h3 : ∀ k, v.ownBlock = some k → k = g0) (h4 : B ≤ gw) (h5 : g0 < W.heap.size) :
    Calls Try.prog 37 #[.agg (lgCells key weight (a : Int) body), .func (.func 34) #[.pointer (some ⟨gw, 0, none⟩)] #[], .func (.func 35) #[.pointer (some ⟨gw, 0, none⟩)] #[]] W fun e W' =>
      e = .returned (.tuple #[]) ∧ ∃ v', Blk W' gw #[v'] 71 ∧ W'.ownsRow B 5 1 v' (cs ++ encLog ⟨key, weight, (a : Int), body⟩).length ((cs ++ encLog ⟨key, weight, (a : Int), body⟩).map b8) ∧ Below B W W' := by
  have hgw := h1.lt
  have hbW := h4
  unfold lgCells
  obtain ⟨W1, hW1⟩ : ∃ W1, W.alloc (.cells #[.string key, .int .u64 (weight : Int), .int .i64 (a : Int), .string body] 29) = W1 := ⟨_, rfl⟩
  have hlow : Below B W W1 := by rw [← hW1]; exact (Below.refl _ W).alloc (by omega) _
  have hsz : W1.heap.size = W.heap.size + 1 := by rw [← hW1]; simp
  have H1 : Wr B W1.heap.size gw g0 W1 W1 cs v := by
    have hb0 : Below W.heap.size W W1 := by rw [← hW1]; exact (Below.refl _ W).alloc (Nat.le_refl _) _
    exact Wr.start (h1.same (hb0.block _ hgw)) (own_later h2 hb0) h3 h4
  have c0 : W1.cell? ⟨W.heap.size, 0, none⟩ = some (.string key) := by rw [← hW1]; exact World.cell?_alloc_mark _ _ _ _ _
  have c1 : W1.cell? ⟨W.heap.size, 1, none⟩ = some (.int .u64 (weight : Int)) := by rw [← hW1]; exact World.cell?_alloc_mark _ _ _ _ _
  have c2 : W1.cell? ⟨W.heap.size, 2, none⟩ = some (.int .i64 (a : Int)) := by rw [← hW1]; exact World.cell?_alloc_mark _ _ _ _ _
  have c3 : W1.cell? ⟨W.heap.size, 3, none⟩ = some (.string body) := by rw [← hW1]; exact World.cell?_alloc_mark _ _ _ _ _
  have wa : IntKind.u64.wrap (a : Int) = (a : Int) := IntWalk.u64_in _ (by omega)
  have n1 := fieldT_len (k := 1) (s := key.data.toList) (by omega) (by simp; omega)
  have n2 := fieldN_len (k := 2) (by omega) hw
  have n3 := fieldN_len (k := 3) (n := a) (by omega) (by omega)
  rw [size_list] at n1
  have HE : Hid (cs ++ encLog ⟨key, weight, (a : Int), body⟩ = (((cs ++ fieldT 1 key.data.toList) ++ fieldN 2 weight) ++ fieldN 3 a) ++ fieldT 4 body.data.toList) := Lib.hid (by simp [encLog])
  rw [HE.out]
  obtain ⟨z1, e1⟩ : ∃ z, cs ++ fieldT 1 key.data.toList = z := ⟨_, rfl⟩
  obtain ⟨z2, e2⟩ : ∃ z, z1 ++ fieldN 2 weight = z := ⟨_, rfl⟩
  obtain ⟨z3, e3⟩ : ∃ z, z2 ++ fieldN 3 a = z := ⟨_, rfl⟩
  obtain ⟨z4, e4⟩ : ∃ z, z3 ++ fieldT 4 body.data.toList = z := ⟨_, rfl⟩
  have m1 : z1.length ≤ 180 := by rw [← e1]; simp; omega
  have m2 : z2.length ≤ 200 := by rw [← e2]; simp; omega
  have m3 : z3.length ≤ 220 := by rw [← e3]; simp; omega
  rw [e1, e2, e3, e4]
  have E1 := Lib.hid e1
  have E2 := Lib.hid e2
  have E3 := Lib.hid e3
  have E4 := Lib.hid e4
  have HS := Lib.hid hsz
  have hbx : W.heap.size ≠ gw := by omega
  have hbg : W.heap.size ≠ g0 := by omega
  clear e1 e2 e3 e4 hsz n1 n2 n3 HE h1 h2 h3
  go_enter Try.func37, Try.ntmps37
  go_wp2_with fail
  refine (text_at B W1.heap.size gw g0 1 key W1 W1 cs v rfl (by omega) (by omega) (by omega) H1).mono ?_
  rintro e W2 ⟨rfl, v2, H2⟩
  rw [E1.out] at H2
  have c1' := (H2.cell (b := W.heap.size) (by rw [HS.out]; omega) hbx hbg 1).trans c1
  go_wp2_with fail
  refine (number_at B W1.heap.size gw g0 2 weight W1 W2 z1 v2 rfl (by omega) hw (by omega) H2).mono ?_
  rintro e W3 ⟨rfl, v3, H3⟩
  rw [E2.out] at H3
  have c2' := (H3.cell (b := W.heap.size) (by rw [HS.out]; omega) hbx hbg 2).trans c2
  go_wp2_with fail
  refine (number_at B W1.heap.size gw g0 3 a W1 W3 z2 v3 rfl (by omega) (by omega) (by omega) H3).mono ?_
  rintro e W4 ⟨rfl, v4, H4⟩
  rw [E3.out] at H4
  have c3' := (H4.cell (b := W.heap.size) (by rw [HS.out]; omega) hbx hbg 3).trans c3
  go_wp2_with fail
  refine (text_at B W1.heap.size gw g0 4 body W1 W4 z3 v4 rfl (by omega) (by omega) (by omega) H4).mono ?_
  rintro e W5 ⟨rfl, v5, H5⟩
  rw [E4.out] at H5
  go_wp2_with fail
  go_end0
  exact ⟨rfl, v5, H5.blk, H5.own, hlow.trans H5.low⟩

end Go.Proofs.Ytklgggolkclebaa
