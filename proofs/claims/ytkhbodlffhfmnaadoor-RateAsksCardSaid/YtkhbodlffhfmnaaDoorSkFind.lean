/-
  What sketch's sum, find and least do: the sum that stops, a key's places, the least of the cells there; nothing that lay has turned.
-/
import Derived.Test.YtkhbodlffhfmnaaDoorSk0
namespace Go.Proofs.YtkhbodlffhfmnaaDoor
open Go.RowKit Go.Proofs.HashMath Go.Proofs.SkMath

set_option maxRecDepth 100000 in
set_option maxHeartbeats 1000000 in
theorem sum_any (a b : Nat) (w : World) (ha : a < 18446744073709551616) (hb : b < 18446744073709551616) :
    Calls Tryd.prog 49 #[.int .u64 (a : Int), .int .u64 (b : Int)] w fun e w' => e = .returned (.int .u64 (plus a b : Int)) ∧ w = w' := by
  obtain ⟨d, hd, hd'⟩ : ∃ d : Nat, IntKind.u64.wrap (18446744073709551615 - (a : Int)) = (d : Int) ∧ d = 18446744073709551615 - a := ⟨18446744073709551615 - a, by rw [IntKind.wrap_u64]; omega, rfl⟩
  go_enter Tryd.func49, Tryd.ntmps49
  go_wp2_with fail
  all_goals
    go_ret
    refine ⟨ret_i ?_, rfl⟩
    unfold plus
    split <;> omega

theorem min_val (q y : Nat) : Value.int .u64 (if y < q then (y : Int) else (q : Int)) = .int .u64 ((min q y : Nat) : Int) := by
  by_cases h : y < q
  · rw [if_pos h, Nat.min_eq_right (by omega)]
  · rw [if_neg h, Nat.min_eq_left (by omega)]

set_option maxRecDepth 100000 in
set_option maxHeartbeats 1000000 in
theorem least_any {S A G r m seed tot : Nat} {f : Nat → Nat → Nat} (p : Nat → Nat) (w : World) (hk : Sk w S A G r m seed f tot) (hp : ∀ i, p i < m) :
    Calls Tryd.prog 47 #[.pointer (some ⟨S, 0, none⟩), .agg (pArr p r)] w fun e w' => e = .returned (.int .u64 (least p f r : Int)) ∧ Below w.heap.size w w' := by
  have h8 := hk.r8
  have hm := hk.m2
  have hB : Below w.heap.size w (w.alloc (.cells (pArr p r) 94)) := box_below _
  have hk1 := hk.later hB
  have hb := blk_new w (pArr p r) 94
  obtain ⟨x, hx⟩ : ∃ x, least p f r = x := ⟨_, rfl⟩
  have HX := Lib.hid hx
  rw [hx]
  have HK := Lib.hid hk1
  have HP := Lib.hid hp
  have HBL := Lib.hid hb
  have s0 := hk1.own.cell 0 rfl
  have s1 := hk1.own.cell 1 rfl
  clear hx hk hk1 hp hb
  go_enter Tryd.func47, Tryd.ntmps47
  go_wp2_with fail
  go_loop [5, 13] (fun cv kv => ∃ k q : Nat, k ≤ r ∧ kv = .int .i64 (k : Int) ∧ cv = .int .u64 (q : Int) ∧ q < 18446744073709551616 ∧ Hid (q = least p f k)) (fun _ kv => r - (intOf kv).toNat)
  case atStart => exact ⟨0, 18446744073709551615, by omega, rfl, rfl, by omega, rfl⟩
  case round =>
    obtain ⟨k, q, hk, rfl, rfl, hq, HQ⟩ := hrel
    by_cases hlt : k < r
    · have dl : decide ((k : Int) < (r : Int)) = true := by simp; omega
      have hrow := HK.out.row k hlt
      have hpm := HP.out k
      have hpl := HBL.out.cell k (pArr_at hlt (by omega))
      obtain ⟨hc, _⟩ := HK.out.cell k (p k) hlt hpm
      obtain ⟨y, hy⟩ : ∃ y, f k (p k) = y := ⟨_, rfl⟩
      have hyl := HK.out.fLt k (p k)
      rw [hy] at hc hyl
      have hmin : least p f (k + 1) = min q y := by
        rw [HQ.out, ← hy]; rfl
      have HM := Lib.hid hmin
      obtain ⟨z, hz⟩ : ∃ z, p k = z := ⟨_, rfl⟩
      rw [hz] at hc hpm hpl
      unfold n64 at hc
      obtain ⟨o, ho⟩ : ∃ o, k * m = o := ⟨_, rfl⟩
      rw [ho] at hc hrow
      clear hmin hy hz ho HQ
      go_wp2_with fail
      all_goals
        go_round
        case rel => exact ⟨k + 1, min q y, by omega, by go_num, min_val q y, by omega, HM.out.symm⟩
        case measure => simp [intOf]; omega
    · obtain rfl : k = r := by omega
      have dl : decide ((k : Int) < (k : Int)) = false := by simp
      have e : q = x := by rw [HQ.out, HX.out]
      subst e
      clear HQ HX
      go_wp2
      go_ret
      exact ⟨rfl, hB⟩

theorem pArr_here {p : Nat → Nat} {k : Nat} (h8 : k < 8) : (pArr p k)[k]? = some (.int .i64 0) := by
  have e : pv p k k = .int .i64 0 := by unfold pv; rw [if_neg (by omega)]
  match k, h8 with
  | 0, _ => exact congrArg some e
  | 1, _ => exact congrArg some e
  | 2, _ => exact congrArg some e
  | 3, _ => exact congrArg some e
  | 4, _ => exact congrArg some e
  | 5, _ => exact congrArg some e
  | 6, _ => exact congrArg some e
  | 7, _ => exact congrArg some e
theorem pArr_ints (p : Nat → Nat) (k : Nat) : ∃ x0 x1 x2 x3 x4 x5 x6 x7 : Int, pArr p k = #[.int .i64 x0, .int .i64 x1, .int .i64 x2, .int .i64 x3, .int .i64 x4, .int .i64 x5, .int .i64 x6, .int .i64 x7] := ⟨_, _, _, _, _, _, _, _, rfl⟩
theorem seed_name {seed : Nat} (i : Nat) : ∃ x : Nat, IntKind.u64.wrap ((seed : Int) + (i : Int)) = (x : Int) ∧ x = (seed + i) % 18446744073709551616 ∧ x < 18446744073709551616 :=
  ⟨(seed + i) % 18446744073709551616, by rw [IntKind.wrap_u64]; omega, rfl, Nat.mod_lt _ (by omega)⟩
set_option maxRecDepth 100000 in
set_option maxHeartbeats 1000000 in
theorem find_any {S A G r m seed tot : Nat} {f : Nat → Nat → Nat} (s : ByteArray) (w : World) (hS : Steps w) (hk : Sk w S A G r m seed f tot) (hs : s.size ≤ 9223372036854775807) :
    Calls Tryd.prog 48 #[.pointer (some ⟨S, 0, none⟩), .string s] w fun e w' => e = .returned (.agg (pArr (placeOf seed s.data.toList m) r)) ∧ Below w.heap.size w w' := by
  obtain ⟨p, hp⟩ : ∃ p, placeOf seed s.data.toList m = p := ⟨_, rfl⟩
  rw [hp]
  have hpi : ∀ i x, x = (seed + i) % 18446744073709551616 → inText x s.data.toList (m : Int) = p i := fun i x hx => by
    rw [← hp, hx]; rfl
  have HI := Lib.hid hpi
  have h8 := hk.r8
  have hm := hk.m2
  obtain ⟨n0, hn0⟩ : ∃ n0, w.heap.size = n0 := ⟨_, rfl⟩
  have hB : Below n0 w (w.alloc (.cells (pArr p 0) 94)) := hn0 ▸ box_below _
  have hb := blk_new w (pArr p 0) 94
  rw [hn0] at hb
  have HN0 := Lib.hid hn0
  have hlt0 : n0 < (w.alloc (.cells (pArr p 0) 94)).heap.size := by rw [← hn0]; simp
  rw [hn0]
  have HK := Lib.hid hk
  have HS := Lib.hid hS
  have HB := Lib.hid hB
  have HBL := Lib.hid hb
  have hk1 := hk.later (hn0 ▸ hB)
  have s0 : (w.alloc (.cells (pArr p 0) 94)).cell? ⟨S, 0, none⟩ = some (.int .u64 (seed : Int)) := hk1.own.cell 0 rfl
  have s1 : (w.alloc (.cells (pArr p 0) 94)).cell? ⟨S, 1, none⟩ = some (.slice (some ⟨A, 0, none⟩) r r) := hk1.own.cell 1 rfl
  rw [pArr_0] at s0 s1
  clear hp hpi hk hS hb hk1 hB hlt0
  go_enter Tryd.func48, Tryd.ntmps48
  go_wp2_with fail
  go_loopw [12] (fun kv wr => ∃ k : Nat, k ≤ r ∧ kv = .int .i64 (k : Int) ∧ Below n0 w wr ∧ Blk wr n0 (pArr p k) 94) (fun kv _ => r - (intOf kv).toNat)
  case atStart => exact ⟨0, by omega, rfl, HB.out, HBL.out⟩
  case round =>
    obtain ⟨k, hk, rfl, hb, hbl⟩ := hrel
    have hkw := HK.out.later (HN0.out.symm ▸ hb)
    by_cases hlt : k < r
    · have dl : decide ((k : Int) < (r : Int)) = true := by simp; omega
      have hrow := hkw.row k hlt
      have s0 : wr.cell? ⟨S, 0, none⟩ = some (.int .u64 (seed : Int)) := hkw.own.cell 0 rfl
      obtain ⟨x, hx, hx', hxl⟩ := seed_name (seed := seed) k
      have hI := fun W hh => in_any x s (m : Int) W hh hxl hs (by omega) (by omega)
      rw [HI.out k x hx'] at hI
      have HII := Lib.hid hI
      have hnew : Hid (Blk wr n0 (pArr p k) 94) := Lib.hid hbl
      have SS := Lib.hid (HS.out.later (HN0.out.symm ▸ hb))
      have HBB := Lib.hid hb
      clear hkw hI hb hbl hx'
      go_wp2_with fail
      refine (HII.out _ SS.out).mono ?_
      rintro e w2 ⟨rfl, hb2⟩
      have hbl2 := hnew.out.later hb2
      have hcl := hbl2.cell k (pArr_here (p := p) (show k < 8 by omega))
      have hfr := hbl2.free k
      have HB2 := Lib.hid hb2
      have HBL2 := Lib.hid hbl2
      clear hb2 hbl2
      go_wp2_with fail
      go_roundw
      case rel => exact ⟨k + 1, by omega, by go_num, ((HBB.out.trans (HB2.out.mono (by have := HBB.out.size; rw [HN0.out] at this; exact this))).setCell (Nat.le_refl _) _), by rw [← pArr_set (by omega)]; exact HBL2.out.set k _⟩
      case measure => simp [intOf]; omega
    · obtain rfl : k = r := by omega
      have dl : decide ((k : Int) < (k : Int)) = false := by simp
      obtain ⟨x0, x1, x2, x3, x4, x5, x6, x7, ex⟩ := pArr_ints p k
      have EX := Lib.hid ex
      rw [ex] at hbl
      have c0 := hbl.cell 0 rfl
      have c1 := hbl.cell 1 rfl
      have c2 := hbl.cell 2 rfl
      have c3 := hbl.cell 3 rfl
      have c4 := hbl.cell 4 rfl
      have c5 := hbl.cell 5 rfl
      have c6 := hbl.cell 6 rfl
      have c7 := hbl.cell 7 rfl
      have HBB := Lib.hid hb
      have HBL2 := Lib.hid hbl
      clear hb hbl hkw ex
      go_wp2_with (refine wpList_store_row rfl 94 (.tmp 4) _ rfl n0 #[.int .i64 x0, .int .i64 x1, .int .i64 x2, .int .i64 x3, .int .i64 x4, .int .i64 x5, .int .i64 x6, .int .i64 x7] rfl rfl 94 #[.int .i64 x0, .int .i64 x1, .int .i64 x2, .int .i64 x3, .int .i64 x4, .int .i64 x5, .int .i64 x6, .int .i64 x7] HBL2.out (by kernel_rfl) rfl (by simp [Value.oneCell']) ?_)
      have hrz := setRow_heap _ _ _ #[.int .i64 x0, .int .i64 x1, .int .i64 x2, .int .i64 x3, .int .i64 x4, .int .i64 x5, .int .i64 x6, .int .i64 x7] _ _ HBL2.out
      have r0 := cell_of_row _ _ 0 _ _ _ hrz
      have r1 := cell_of_row _ _ 1 _ _ _ hrz
      have r2 := cell_of_row _ _ 2 _ _ _ hrz
      have r3 := cell_of_row _ _ 3 _ _ _ hrz
      have r4 := cell_of_row _ _ 4 _ _ _ hrz
      have r5 := cell_of_row _ _ 5 _ _ _ hrz
      have r6 := cell_of_row _ _ 6 _ _ _ hrz
      have r7 := cell_of_row _ _ 7 _ _ _ hrz
      exact bodyPost_ret (v := .agg #[.int .i64 x0, .int .i64 x1, .int .i64 x2, .int .i64 x3, .int .i64 x4, .int .i64 x5, .int .i64 x6, .int .i64 x7]) (by simp [results, Tryd.results48, go_sem, r0, r1, r2, r3, r4, r5, r6, r7]) rfl ⟨by rw [EX.out], below_setRow HBB.out (Nat.le_refl _) _⟩
end Go.Proofs.YtkhbodlffhfmnaaDoor
