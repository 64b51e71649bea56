/-
  Proved: ProbParses returns true for every text, all choices and every span: Parse of any text is what the chapter says; so is a trace's number. No condition.
-/
import Derived.Test.YtpcichbceaijjaaProbRefText
import Derived.Deep.RegionHeld
namespace Go.Proofs.Ytpcichbceaijjaa
open Go.ChangeShapes Go.WideShapes Go.ChangeAt Go.RowKit Go.Proofs.ProbMath

theorem ten_of {l : List Value} (h : l.length = 10) : ∃ a b c d e f g i j k, l = [a, b, c, d, e, f, g, i, j, k] := by
  match l, h with
  | [a, b, c, d, e, f, g, i, j, k], _ => exact ⟨a, b, c, d, e, f, g, i, j, k, rfl⟩
theorem cell_u64 {W : World} {base : Nat} {v : Value} (h : Cell.okWide Try.prog W .any base 23 v) : ∃ n : Nat, n < 18446744073709551616 ∧ v = .int .u64 (n : Int) := by
  simp only [Cell.okWide, Try.underlying23] at h
  cases v <;> simp_all [Cell.ok, Try.underlying23]
  rename_i k n
  obtain ⟨rfl, h1, h2⟩ := h
  have e1 : IntKind.u64.min = 0 := rfl
  have e2 : IntKind.u64.max = 18446744073709551615 := rfl
  rw [e1] at h1
  rw [e2] at h2
  exact ⟨n.toNat, by omega, by omega⟩
/-- A span that came in: its numbers, whatever else it holds. -/
theorem arg_span {W : World} {base : Nat} {v : Value} (h : Value.okWide Try.prog W .any base 47 v) :
    ∃ (hi lo rv : Nat) (v2 v3 v4 v5 v6 v7 v8 : Value), v = .agg #[.int .u64 (hi : Int), .int .u64 (lo : Int), v2, v3, v4, v5, v6, v7, v8, .int .u64 (rv : Int)] := by
  simp only [Value.okWide, Try.underlying47] at h
  obtain ⟨cs, rfl, hs, ts, hts, _, hc⟩ := h
  rw [show Try.prog.cellsOf 47 = 10 by kernel_rfl] at hs
  have e : Try.prog.cellTypes Try.prog.depth 47 = some [23, 23, 23, 23, 9, 3, 3, 4, 45, 23] := by kernel_rfl
  rw [e] at hts
  injection hts with hts
  subst hts
  obtain ⟨l⟩ := cs
  obtain ⟨a, b, c, d, e, f, g, i, j, k, rfl⟩ := ten_of (l := l) (by simpa using hs)
  obtain ⟨u0, hu0, h0⟩ := hc 0 a rfl
  obtain ⟨u1, hu1, h1⟩ := hc 1 b rfl
  obtain ⟨u9, hu9, h9⟩ := hc 9 k rfl
  simp at hu0 hu1 hu9
  subst hu0 hu1 hu9
  obtain ⟨n0, _, rfl⟩ := cell_u64 h0
  obtain ⟨n1, _, rfl⟩ := cell_u64 h1
  obtain ⟨n9, _, rfl⟩ := cell_u64 h9
  exact ⟨n0, n1, n9, c, d, e, f, g, i, j, rfl⟩

def SpanAt (W : World) (g : Nat) (C : Array Value) : Prop := W.heap[g]? = some (.cells C 47)
theorem SpanAt.lt {W : World} {g : Nat} {C : Array Value} (h : SpanAt W g C) : g < W.heap.size := (Array.getElem?_eq_some_iff.1 h).1
theorem SpanAt.later {W W' : World} {g B : Nat} {C : Array Value} (h : SpanAt W g C) (hb : Below B W W') (hg : g < B) : SpanAt W' g C := (hb.block g hg).trans h
theorem spanAt_new (W : World) (C : Array Value) : SpanAt (W.alloc (.cells C 47)) W.heap.size C := by
  show (W.heap.push _)[W.heap.size]? = _
  simp
theorem SpanAt.cells {W : World} {g : Nat} {v0 v1 v2 v3 v4 v5 v6 v7 v8 v9 : Value} (h : SpanAt W g #[v0, v1, v2, v3, v4, v5, v6, v7, v8, v9]) :
    W.cell? ⟨g, 0, none⟩ = some v0 ∧ W.cell? ⟨g, 1, none⟩ = some v1 ∧ W.cell? ⟨g, 2, none⟩ = some v2 ∧ W.cell? ⟨g, 3, none⟩ = some v3 ∧ W.cell? ⟨g, 4, none⟩ = some v4 ∧ W.cell? ⟨g, 5, none⟩ = some v5 ∧ W.cell? ⟨g, 6, none⟩ = some v6 ∧ W.cell? ⟨g, 7, none⟩ = some v7 ∧ W.cell? ⟨g, 8, none⟩ = some v8 ∧ W.cell? ⟨g, 9, none⟩ = some v9 := by
  have c := fun j => cell_of_row W g j _ _ _ h
  exact ⟨c 0, c 1, c 2, c 3, c 4, c 5, c 6, c 7, c 8, c 9⟩

set_option linter.unusedSimpArgs false in
set_option maxRecDepth 100000 in
set_option maxHeartbeats 2000000 in
theorem parses_walk (s : ByteArray) (A : Option Addr) (cs : List UInt8) (len cap : Nat) (hi lo rv : Nat) (v2 v3 v4 v5 v6 v7 v8 : Value) (w : World) (hs : s.size ≤ 9223372036854775807) (hlen : cs.length = len) (_hl : len ≤ cap) (_hcap : cap ≤ 9223372036854775807) (hr : Holds8 w.heap.size w A cs) :
    Calls Try.prog 7 #[.string s, .slice A len cap, .agg #[.int .u64 (hi : Int), .int .u64 (lo : Int), v2, v3, v4, v5, v6, v7, v8, .int .u64 (rv : Int)]] w fun e w' => e = .returned (.bool true) ∧ Below w.heap.size w w' := by
  have hB0 : Below w.heap.size w (w.alloc (.cells #[.int .u64 (hi : Int), .int .u64 (lo : Int), v2, v3, v4, v5, v6, v7, v8, .int .u64 (rv : Int)] 47)) := (Below.refl _ _).alloc (Nat.le_refl _) _
  by_cases h1 : 100 < s.size
  · have d1 : decide ((100 : Int) < (s.size : Int)) = true := by simp; omega
    clear hr
    go_enter Try.func7, Try.ntmps7
    go_wp2_with fail
    refine (known_any _).mono ?_
    rintro e w1 ⟨rfl, hb1⟩
    go_wp2_with fail
    go_ret
    exact ⟨rfl, hB0.trans (hb1.mono (by simp))⟩
  have d1 : decide ((100 : Int) < (s.size : Int)) = false := by simp; omega
  by_cases h2 : 20 < len
  · have d2 : decide ((20 : Int) < (len : Int)) = true := by simp; omega
    clear hr
    go_enter Try.func7, Try.ntmps7
    go_wp2_with fail
    refine (known_any _).mono ?_
    rintro e w1 ⟨rfl, hb1⟩
    go_wp2_with fail
    go_ret
    exact ⟨rfl, hB0.trans (hb1.mono (by simp))⟩
  have d2 : decide ((20 : Int) < (len : Int)) = false := by simp; omega
  have HR := Lib.hid hr
  have HL := Lib.hid hlen
  have HS0 := Lib.hid (spanAt_new w #[.int .u64 (hi : Int), .int .u64 (lo : Int), v2, v3, v4, v5, v6, v7, v8, .int .u64 (rv : Int)])
  clear hr hlen
  go_enter Try.func7, Try.ntmps7
  go_wp2_with fail
  refine (known_any _).mono ?_
  rintro e w1 ⟨rfl, hb1⟩
  have HS1 := Lib.hid (HS0.out.later hb1 (by simp))
  have hB1 : Below w.heap.size w w1 := hB0.trans (hb1.mono (by simp))
  clear hb1 hB0
  go_wp2_with fail
  go_loopw [7, 8] (fun a b wr => ∃ (i : Nat) (z : ByteArray), i ≤ len ∧ a = .string z ∧ b = .int .i64 (i : Int) ∧ z.size = i ∧ Below w.heap.size w wr ∧ Hid (SpanAt wr w.heap.size #[.int .u64 (hi : Int), .int .u64 (lo : Int), v2, v3, v4, v5, v6, v7, v8, .int .u64 (rv : Int)])) (fun _ b _ => len - (intOf b).toNat)
  case atStart => exact ⟨0, ⟨#[]⟩, by omega, rfl, rfl, rfl, hB1, HS1⟩
  case round =>
    obtain ⟨i, z, hil, rfl, rfl, hz, hB, hSp⟩ := hrel
    by_cases hlt : i < len
    · have di : decide ((i : Int) < (len : Int)) = true := by simp; omega
      have di' : decide (i < len) = true := by simp; omega
      have hrr := HR.out.below hB
      obtain ⟨b, off, rfl, hbl, hcell⟩ := hrr (by rw [HL.out]; omega)
      have hci := hcell i (by rw [HL.out]; exact hlt)
      obtain ⟨cn, hcn, hcl⟩ : ∃ cn : Nat, b8 (cs.getD i 0) = .int .u8 (cn : Int) ∧ cn < 256 := ⟨(cs.getD i 0).toNat, rfl, (cs.getD i 0).toNat_lt⟩
      rw [hcn] at hci
      obtain ⟨x, e1, hx⟩ : ∃ x : Nat, (cn : Int) % 20 = (x : Int) ∧ x < 20 := ⟨cn % 20, by omega, by omega⟩
      have e2 : IntKind.u8.wrap ((x : Int) + 1) = (x : Int) + 1 := by rw [IntKind.wrap_u8]; omega
      have HZ := Lib.hid hz
      have hzb : z.size ≤ 20 := by omega
      clear hcell hrr hcn hz
      go_wp2_with fail
      go_quiet (fail)
      go_wp2_with fail
      go_roundw
      case rel => exact ⟨i + 1, _, by omega, rfl, by go_num, by have := HZ.out; have e : (⟨#[48, 49, 50, 51, 52, 53, 54, 55, 56, 57, 97, 98, 99, 100, 101, 102, 48, 48, 65, 103]⟩ : ByteArray).size = 20 := rfl; simp [ByteArray.size_append, ByteArray.size_extract]; omega, draws hB _, Lib.hid (hSp.out.later (draws (Below.refl wr.heap.size wr) _) hSp.out.lt)⟩
      case measure => simp [intOf]; omega
    · have di : decide ((i : Int) < (len : Int)) = false := by simp; omega
      have di' : decide (i < len) = false := by simp; omega
      have p1 := fun W => parse_any s W (by omega)
      have p2 := fun W => refParse_any s W (by omega)
      have p3 := fun W => parse_any z W (by omega)
      have p4 := fun W => refParse_any z W (by omega)
      obtain ⟨a1, ha1⟩ : ∃ a, (parse s.data.toList).1 = a := ⟨_, rfl⟩
      obtain ⟨a2, ha2⟩ : ∃ a, (parse s.data.toList).2 = a := ⟨_, rfl⟩
      obtain ⟨b1, hb1⟩ : ∃ a, (parse z.data.toList).1 = a := ⟨_, rfl⟩
      obtain ⟨b2, hb2⟩ : ∃ a, (parse z.data.toList).2 = a := ⟨_, rfl⟩
      rw [ha1, ha2] at p1 p2
      rw [hb1, hb2] at p3 p4
      have ha3 : a2 ≤ 31 := by rw [← ha2]; unfold parse; split <;> (try split) <;> simp
      have hb3 : b2 ≤ 31 := by rw [← hb2]; unfold parse; split <;> (try split) <;> simp
      have P1 := Lib.hid p1
      have P2 := Lib.hid p2
      have P3 := Lib.hid p3
      have P4 := Lib.hid p4
      have w1 : IntKind.i64.wrap (a2 : Int) = (a2 : Int) := by rw [IntKind.wrap_i64]; omega
      have w2 : IntKind.i64.wrap (b2 : Int) = (b2 : Int) := by rw [IntKind.wrap_i64]; omega
      clear p1 p2 p3 p4 ha1 ha2 hb1 hb2 hz HR HS0 HS1
      go_wp2_with fail
      refine (P1.out _).mono ?_
      rintro e w2 ⟨rfl, hb1⟩
      have hB2 := hB.trans (hb1.mono hB.size)
      have hSp2 := Lib.hid (hSp.out.later hb1 hSp.out.lt)
      clear hb1 hSp
      go_wp2_with fail
      refine (P2.out _).mono ?_
      rintro e w3 ⟨rfl, rfl⟩
      go_wp2_with fail
      refine (P3.out _).mono ?_
      rintro e w3 ⟨rfl, hb3⟩
      have hB3 := hB2.trans (hb3.mono hB2.size)
      have hSp3 := Lib.hid (hSp2.out.later hb3 hSp2.out.lt)
      clear hb3 hSp2
      go_wp2_with fail
      refine (P4.out _).mono ?_
      rintro e w4 ⟨rfl, rfl⟩
      go_wp2_with fail
      have num1 := fun W => number_any hi lo rv v2 v3 v4 v5 v6 v7 v8 W
      have num2 := fun W => refNumber_any hi lo rv v2 v3 v4 v5 v6 v7 v8 W
      obtain ⟨nn, hnn⟩ : ∃ n, number lo rv = n := ⟨_, rfl⟩
      rw [hnn] at num1 num2
      have N1 := Lib.hid num1
      have N2 := Lib.hid num2
      clear num1 num2 hnn
      refine wp_region_held_drew (S := fun W => SpanAt W w.heap.size #[.int .u64 (hi : Int), .int .u64 (lo : Int), v2, v3, v4, v5, v6, v7, v8, .int .u64 (rv : Int)] ∧ Below w.heap.size w W) (by kernel_rfl) ?_ (fun hHeld => ?_)
      · exact ⟨hSp3.out, hB3.drew⟩
      refine wpAnyH_take (i := 0) (v := ?_) rfl (by kernel_rfl) (by kernel_rfl) (by kernel_rfl) (fun _ _ _ h => h) (Or.inl ⟨by rfl, ?_⟩) (by assumption) ?_
      rotate_left
      · intro wq hSw; (try dsimp only at hSw); go_simp; (try with_reducible rfl)
      simp only [Act.put, List.getElem_toArray, List.getElem_cons_succ, List.getElem_cons_zero, List.setIfInBounds_toArray, List.set_cons_zero, List.set_cons_succ]
      refine wpAnyH_take (i := 1) (v := ?_) rfl (by kernel_rfl) (by kernel_rfl) (by kernel_rfl) (fun _ _ _ h => h) (Or.inl ⟨by rfl, ?_⟩) (by assumption) ?_
      rotate_left
      · intro wq hSw; (try dsimp only at hSw); go_simp; (try with_reducible rfl)
      simp only [Act.put, List.getElem_toArray, List.getElem_cons_succ, List.getElem_cons_zero, List.setIfInBounds_toArray, List.set_cons_zero, List.set_cons_succ]
      refine wpAnyH_take (i := 2) (v := ?_) rfl (by kernel_rfl) (by kernel_rfl) (by kernel_rfl) (fun _ _ _ h => h) (Or.inl ⟨by rfl, ?_⟩) (by assumption) ?_
      rotate_left
      · intro wq hSw; (try dsimp only at hSw); go_simp; (try with_reducible rfl)
      simp only [Act.put, List.getElem_toArray, List.getElem_cons_succ, List.getElem_cons_zero, List.setIfInBounds_toArray, List.set_cons_zero, List.set_cons_succ]
      refine wpAnyH_take (i := 3) (v := ?_) rfl (by kernel_rfl) (by kernel_rfl) (by kernel_rfl) (fun _ _ _ h => h) (Or.inl ⟨by rfl, ?_⟩) (by assumption) ?_
      rotate_left
      · intro wq hSw; (try dsimp only at hSw); go_simp; (try with_reducible rfl)
      simp only [Act.put, List.getElem_toArray, List.getElem_cons_succ, List.getElem_cons_zero, List.setIfInBounds_toArray, List.set_cons_zero, List.set_cons_succ]
      refine wpAnyH_take (i := 4) (v := ?_) rfl (by kernel_rfl) (by kernel_rfl) (by kernel_rfl) (fun _ _ _ h => h) (Or.inl ⟨by rfl, ?_⟩) (by assumption) ?_
      rotate_left
      · intro wq hSw; (try dsimp only at hSw); go_simp; (try with_reducible rfl)
      simp only [Act.put, List.getElem_toArray, List.getElem_cons_succ, List.getElem_cons_zero, List.setIfInBounds_toArray, List.set_cons_zero, List.set_cons_succ]
      refine wpAnyH_take (i := 5) (v := ?_) rfl (by kernel_rfl) (by kernel_rfl) (by kernel_rfl) (fun _ _ _ h => h) (Or.inl ⟨by rfl, ?_⟩) (by assumption) ?_
      rotate_left
      · intro wq hSw; (try dsimp only at hSw); go_simp; (try with_reducible rfl)
      simp only [Act.put, List.getElem_toArray, List.getElem_cons_succ, List.getElem_cons_zero, List.setIfInBounds_toArray, List.set_cons_zero, List.set_cons_succ]
      refine wpAnyH_take (i := 6) (v := ?_) rfl (by kernel_rfl) (by kernel_rfl) (by kernel_rfl) (fun _ _ _ h => h) (Or.inl ⟨by rfl, ?_⟩) (by assumption) ?_
      rotate_left
      · intro wq hSw; (try dsimp only at hSw); go_simp; (try with_reducible rfl)
      simp only [Act.put, List.getElem_toArray, List.getElem_cons_succ, List.getElem_cons_zero, List.setIfInBounds_toArray, List.set_cons_zero, List.set_cons_succ]
      refine wpAnyH_take (i := 7) (v := ?_) rfl (by kernel_rfl) (by kernel_rfl) (by kernel_rfl) (fun _ _ _ h => h) (Or.inl ⟨by rfl, ?_⟩) (by assumption) ?_
      rotate_left
      · intro wq hSw; (try dsimp only at hSw); go_simp; (try with_reducible rfl)
      simp only [Act.put, List.getElem_toArray, List.getElem_cons_succ, List.getElem_cons_zero, List.setIfInBounds_toArray, List.set_cons_zero, List.set_cons_succ]
      refine wpAnyH_take (i := 8) (v := ?_) rfl (by kernel_rfl) (by kernel_rfl) (by kernel_rfl) (fun _ _ _ h => h) (Or.inl ⟨by rfl, ?_⟩) (by assumption) ?_
      rotate_left
      · intro wq hSw; (try dsimp only at hSw); go_simp; (try with_reducible rfl)
      simp only [Act.put, List.getElem_toArray, List.getElem_cons_succ, List.getElem_cons_zero, List.setIfInBounds_toArray, List.set_cons_zero, List.set_cons_succ]
      refine wpAnyH_take (i := 9) (v := ?_) rfl (by kernel_rfl) (by kernel_rfl) (by kernel_rfl) (fun _ _ _ h => h) (Or.inl ⟨by rfl, ?_⟩) (by assumption) ?_
      rotate_left
      · intro wq hSw; (try dsimp only at hSw); go_simp; (try with_reducible rfl)
      simp only [Act.put, List.getElem_toArray, List.getElem_cons_succ, List.getElem_cons_zero, List.setIfInBounds_toArray, List.set_cons_zero, List.set_cons_succ]
      refine wpAnyH_take (i := 10) (v := ?_) rfl (by kernel_rfl) (by kernel_rfl) (by kernel_rfl) (fun _ _ _ h => h) (Or.inl ⟨by rfl, ?_⟩) (by assumption) ?_
      rotate_left
      · intro wq hSw; (try dsimp only at hSw); go_simp; (try with_reducible rfl)
      simp only [Act.put, List.getElem_toArray, List.getElem_cons_succ, List.getElem_cons_zero, List.setIfInBounds_toArray, List.set_cons_zero, List.set_cons_succ]
      refine wpAnyH_take (i := 11) (v := ?_) rfl (by kernel_rfl) (by kernel_rfl) (by kernel_rfl) (fun _ _ _ h => h) (Or.inl ⟨by rfl, ?_⟩) (by assumption) ?_
      rotate_left
      · intro wq hSw; (try dsimp only at hSw); go_simp; (try with_reducible rfl)
      simp only [Act.put, List.getElem_toArray, List.getElem_cons_succ, List.getElem_cons_zero, List.setIfInBounds_toArray, List.set_cons_zero, List.set_cons_succ]
      refine wpAnyH_take (i := 12) (v := ?_) rfl (by kernel_rfl) (by kernel_rfl) (by kernel_rfl) (fun _ _ _ h => h) (Or.inl ⟨by rfl, ?_⟩) (by assumption) ?_
      rotate_left
      · intro wq hSw; (try dsimp only at hSw); go_simp; (try with_reducible rfl)
      simp only [Act.put, List.getElem_toArray, List.getElem_cons_succ, List.getElem_cons_zero, List.setIfInBounds_toArray, List.set_cons_zero, List.set_cons_succ]
      refine wpAnyH_take (i := 13) (v := ?_) rfl (by kernel_rfl) (by kernel_rfl) (by kernel_rfl) (fun _ _ _ h => h) (Or.inl ⟨by rfl, ?_⟩) (by assumption) ?_
      rotate_left
      · intro wq hSw; (try dsimp only at hSw); go_simp; (try with_reducible rfl)
      simp only [Act.put, List.getElem_toArray, List.getElem_cons_succ, List.getElem_cons_zero, List.setIfInBounds_toArray, List.set_cons_zero, List.set_cons_succ]
      refine wpAnyH_take (i := 14) (v := ?_) rfl (by kernel_rfl) (by kernel_rfl) (by kernel_rfl) (fun _ _ _ h => h) (Or.inl ⟨by rfl, ?_⟩) (by assumption) ?_
      rotate_left
      · intro wq hSw; (try dsimp only at hSw); go_simp; (try with_reducible rfl)
      simp only [Act.put, List.getElem_toArray, List.getElem_cons_succ, List.getElem_cons_zero, List.setIfInBounds_toArray, List.set_cons_zero, List.set_cons_succ]
      refine wpAnyH_take (i := 15) (v := ?_) rfl (by kernel_rfl) (by kernel_rfl) (by kernel_rfl) (fun _ _ _ h => h) (Or.inl ⟨by rfl, ?_⟩) (by assumption) ?_
      rotate_left
      · intro wq hSw; (try dsimp only at hSw); go_simp; (try with_reducible rfl)
      simp only [Act.put, List.getElem_toArray, List.getElem_cons_succ, List.getElem_cons_zero, List.setIfInBounds_toArray, List.set_cons_zero, List.set_cons_succ]
      refine wpAnyH_take (i := 16) (v := ?_) rfl (by kernel_rfl) (by kernel_rfl) (by kernel_rfl) (fun _ _ _ h => h) (Or.inl ⟨by rfl, ?_⟩) (by assumption) ?_
      rotate_left
      · intro wq hSw; (try dsimp only at hSw); go_simp; (try with_reducible rfl)
      simp only [Act.put, List.getElem_toArray, List.getElem_cons_succ, List.getElem_cons_zero, List.setIfInBounds_toArray, List.set_cons_zero, List.set_cons_succ]
      refine wpAnyH_take (i := 17) (v := ?_) rfl (by kernel_rfl) (by kernel_rfl) (by kernel_rfl) (fun _ _ _ h => h) (Or.inl ⟨by rfl, ?_⟩) (by assumption) ?_
      rotate_left
      · intro wq hSw; (try dsimp only at hSw); go_simp; (try with_reducible rfl)
      simp only [Act.put, List.getElem_toArray, List.getElem_cons_succ, List.getElem_cons_zero, List.setIfInBounds_toArray, List.set_cons_zero, List.set_cons_succ]
      refine wpAnyH_take (i := 18) (v := ?_) rfl (by kernel_rfl) (by kernel_rfl) (by kernel_rfl) (fun _ _ _ h => h) (Or.inl ⟨by rfl, ?_⟩) (by assumption) ?_
      rotate_left
      · intro wq hSw; (try dsimp only at hSw); go_simp; (try with_reducible rfl)
      simp only [Act.put, List.getElem_toArray, List.getElem_cons_succ, List.getElem_cons_zero, List.setIfInBounds_toArray, List.set_cons_zero, List.set_cons_succ]
      refine wpAnyH_take (i := 19) (v := ?_) rfl (by kernel_rfl) (by kernel_rfl) (by kernel_rfl) (fun _ _ _ h => h) (Or.inl ⟨by rfl, ?_⟩) (by assumption) ?_
      rotate_left
      · intro wq hSw; (try dsimp only at hSw); go_simp; (try with_reducible rfl)
      simp only [Act.put, List.getElem_toArray, List.getElem_cons_succ, List.getElem_cons_zero, List.setIfInBounds_toArray, List.set_cons_zero, List.set_cons_succ]
      refine wpAnyH_take (i := 20) (v := ?_) rfl (by kernel_rfl) (by kernel_rfl) (by kernel_rfl) (fun _ _ _ h => h) (Or.inl ⟨by rfl, ?_⟩) (by assumption) ?_
      rotate_left
      · intro wq hSw; (try dsimp only at hSw); go_simp; (try with_reducible rfl)
      simp only [Act.put, List.getElem_toArray, List.getElem_cons_succ, List.getElem_cons_zero, List.setIfInBounds_toArray, List.set_cons_zero, List.set_cons_succ]
      refine wpAnyH_take (i := 21) (v := ?_) rfl (by kernel_rfl) (by kernel_rfl) (by kernel_rfl) (fun _ _ _ h => h) (Or.inl ⟨by rfl, ?_⟩) (by assumption) ?_
      rotate_left
      · intro wq hSw; (try dsimp only at hSw); obtain ⟨q0, q1, q2, q3, q4, q5, q6, q7, q8, q9⟩ := hSw.1.cells; go_simp; (try with_reducible rfl)
      simp only [Act.put, List.getElem_toArray, List.getElem_cons_succ, List.getElem_cons_zero, List.setIfInBounds_toArray, List.set_cons_zero, List.set_cons_succ]
      refine wpAnyH_take (i := 23) (v := ?_) rfl (by kernel_rfl) (by kernel_rfl) (by kernel_rfl) (fun _ _ _ h => h) (Or.inl ⟨by rfl, ?_⟩) (by assumption) ?_
      rotate_left
      · intro wq hSw; (try dsimp only at hSw); obtain ⟨q0, q1, q2, q3, q4, q5, q6, q7, q8, q9⟩ := hSw.1.cells; go_simp; (try with_reducible rfl)
      simp only [Act.put, List.getElem_toArray, List.getElem_cons_succ, List.getElem_cons_zero, List.setIfInBounds_toArray, List.set_cons_zero, List.set_cons_succ]
      refine wpAnyH_ready (rs := [22]) (by kernel_rfl) (by simp) ?_
      refine AllReadyH.cons rfl (fun K hK => ?_) AllReadyH.nil
      go_simp
      refine (N1.out _).mono ?_
      rintro e wx ⟨rfl, hbx⟩
      (try go_wp2_with fail)
      refine hK.out _ _ ?_ (fun hHeld => ?_)
      · exact ⟨hHeld.1.later hbx hHeld.1.lt, hHeld.2.trans (hbx.mono hHeld.2.size)⟩
      clear hK K
      try simp only [Act.put, List.getElem_toArray, List.getElem_cons_succ, List.getElem_cons_zero, List.setIfInBounds_toArray, List.set_cons_zero, List.set_cons_succ]
      refine wpAnyH_ready (rs := [24]) (by kernel_rfl) (by simp) ?_
      refine AllReadyH.cons rfl (fun K hK => ?_) AllReadyH.nil
      go_simp
      refine (N2.out _).mono ?_
      rintro e wy ⟨rfl, hby⟩
      (try go_wp2_with fail)
      refine hK.out _ _ ?_ (fun hHeld => ?_)
      · exact ⟨hHeld.1.later hby hHeld.1.lt, hHeld.2.trans (hby.mono hHeld.2.size)⟩
      clear hK K
      try simp only [Act.put, List.getElem_toArray, List.getElem_cons_succ, List.getElem_cons_zero, List.setIfInBounds_toArray, List.set_cons_zero, List.set_cons_succ]
      refine wpAnyH_take (i := 25) (v := ?_) rfl (by kernel_rfl) (by kernel_rfl) (by kernel_rfl) (fun _ _ _ h => h) (Or.inl ⟨by rfl, ?_⟩) (by assumption) ?_
      rotate_left
      · intro wq hSw; (try dsimp only at hSw); go_simp; (try with_reducible rfl)
      simp only [Act.put, List.getElem_toArray, List.getElem_cons_succ, List.getElem_cons_zero, List.setIfInBounds_toArray, List.set_cons_zero, List.set_cons_succ]
      refine wpAnyH_take (i := 26) (v := ?_) rfl (by kernel_rfl) (by kernel_rfl) (by kernel_rfl) (fun _ _ _ h => h) (Or.inl ⟨by rfl, ?_⟩) (by assumption) ?_
      rotate_left
      · intro wq hSw; (try dsimp only at hSw); go_simp; (try with_reducible rfl)
      simp only [Act.put, List.getElem_toArray, List.getElem_cons_succ, List.getElem_cons_zero, List.setIfInBounds_toArray, List.set_cons_zero, List.set_cons_succ]
      refine wpAnyH_take (i := 27) (v := ?_) rfl (by kernel_rfl) (by kernel_rfl) (by kernel_rfl) (fun _ _ _ h => h) (Or.inl ⟨by rfl, ?_⟩) (by assumption) ?_
      rotate_left
      · intro wq hSw; (try dsimp only at hSw); go_simp; (try with_reducible rfl)
      simp only [Act.put, List.getElem_toArray, List.getElem_cons_succ, List.getElem_cons_zero, List.setIfInBounds_toArray, List.set_cons_zero, List.set_cons_succ]
      have hBf := hHeld.2
      refine wpAnyH_done (by kernel_rfl) ?_ _
      clear hHeld
      go_wp2_with fail
      go_ret
      exact ⟨rfl, hBf⟩

namespace ProbParses
set_option linter.unusedSimpArgs false in
set_option maxRecDepth 100000 in
theorem lifted (os : Os) (started : os.Started) (H : Type) (enc : TypeId × Value → H) :
    ReturnsInHanded {} Try.checked os 7 .any (Rows.probParsesSpec.pre6 enc Try.prog Try.f7 Rows.probParsesRow.domain false) (Rows.probParsesSpec.post enc Try.prog Try.f7 false true false false) := by
  refine returnsInHanded_of_change (C := Try.checked) own started (by kernel_rfl) Try.func7
    (ChangeSpec.witness6 (enc := enc) (C := Try.checked) false ⟨#[], #[.string ⟨#[]⟩, .slice none 0 0, .agg #[.int .u64 0, .int .u64 0, .int .u64 0, .int .u64 0, .string ⟨#[]⟩, .int .i64 0, .int .i64 0, .bool false, .slice none 0 0, .int .u64 0]], []⟩ 8 (by kernel_rfl) (by kernel_rfl) (by kernel_rfl) (by kernel_rfl)) ?_
  intro W base args ds gs before hval0 hW _ _
  have hval : ∀ (j : Nat) t v, Try.f7.params[j]? = some t → args[j]? = some v → Value.okWide Try.prog W .any base t v := hval0
  have hW' := hW
  obtain ⟨p, q, hA0, hV, rfl, _, _⟩ := hW
  have hA : DataW.TrodAll enc Try.prog W 0 (fun _ => true) true Try.f7.params.toList args.toList ds p := hA0
  rw [Try.params7] at hA hval
  obtain ⟨v0, vs0, d0, ds0, p0, q0, hargs, rfl, rfl, h0, r0⟩ := trodAll_cons hA
  obtain ⟨v1, vs1, d1, ds1, p1, q1, rfl, rfl, rfl, h1, r1⟩ := trodAll_cons r0
  obtain ⟨v2, vs2, d2, ds2, p2, q2, rfl, rfl, rfl, h2, r2⟩ := trodAll_cons r1
  obtain ⟨rfl, rfl, rfl⟩ := trodAll_nil r2
  obtain rfl : args = #[v0, v1, v2] := by cases args; simp_all
  obtain ⟨rfl, rfl⟩ := trodVars_none hV
  obtain ⟨s0, rfl, rfl, rfl, w0⟩ := ChangeMaps.open_string Try.underlying9 (hval 0 9 v0 rfl rfl) h0
  obtain ⟨A1, cs1, cap1, rfl, l1, m1, b1, again1⟩ := arg_bytes (hval 1 44 v1 rfl rfl) h1
  have x1 := arg_extra h1
  obtain ⟨hi2, lo2, rv2, x22, x23, x24, x25, x26, x27, x28, rfl⟩ := arg_span (hval 2 47 v2 rfl rfl)
  clear hA0 hval0
  simp only [List.append_nil] at hW'
  refine (parses_walk s0 A1 cs1 _ cap1 hi2 lo2 rv2 _ _ _ _ _ _ _ W w0 rfl l1 m1 b1).mono fun e W' ⟨he, hg⟩ => ?_
  subst he
  exact ⟨_, rfl, true_last hW' rfl (by kernel_rfl) Try.underlying4 rfl rfl rfl (of_decide_eq_true (by kernel_rfl)) hg⟩

/-- **ProbParses, at every input.** -/
theorem proved : Rows.ProbParsesSaid :=
  OpenClaim.holds_of_wide 7 Try.f7 rfl rfl rfl rfl rfl rfl rfl ⟨rfl, rfl, rfl, rfl, rfl⟩ rfl rfl rfl rfl rfl (by kernel_rfl) Try.func7 (by kernel_rfl)
    (of_decide_eq_true (by kernel_rfl)) (by unfold Func.isWrapper; first | (rw [if_pos (by decide +kernel)]; kernel_rfl) | (rw [if_neg (by decide +kernel)]; exact ⟨rfl, rfl⟩))
    (fun os started H enc _ => lifted os started H enc)
end ProbParses

end Go.Proofs.Ytpcichbceaijjaa
