/-
  What num.Put does, at every number below 2^64: it hands back a new slice that holds the number's bytes, seven binary digits a byte, and nothing that lay has turned.
-/
import Derived.RangeFuncBox
import Derived.RangeFuncNested
import Derived.RangeFuncBound
import Derived.RangeFuncCalls
import Derived.RangeFuncLeaves
import Derived.Shelf.Abstract
import Derived.Shelf.RegionOpen
import Derived.WalkKit
import Derived.OwnWalkIn
import Derived.TacticsInMore
import Derived.LoopNIn
import Derived.LoopIn
import Derived.Maps.AppendAt
import Derived.Test.YtklgggolkclebaaProg
import Derived.Test.YtklgggolkclebaaNumMath
namespace Go.Proofs.Ytklgggolkclebaa
open Go.RowKit Go.Shelf Go.Proofs.NumMath

attribute [local go_sem] Oper.semAt_some

/-- A byte as a value. -/
def b8 (c : UInt8) : Value := .int .u8 (c.toNat : Int)

theorem b8_lo {q : Nat} (h : q < 128) : b8 (UInt8.ofNat q) = .int .u8 (q : Int) := by rw [b8, u8_lo h]
theorem b8_hi (q : Nat) : b8 (UInt8.ofNat (q % 128 + 128)) = .int .u8 ((q : Int) % 128 + 128) := by rw [b8, u8_hi]; simp

theorem snoc_row {W : World} {base : Nat} {e : TypeId} {v : Value} {pre : List UInt8} {x : UInt8} (h : W.ownsRow base e 1 v (pre.length + 1) (pre.map b8 ++ [b8 x])) :
    W.ownsRow base e 1 v (pre ++ [x]).length ((pre ++ [x]).map b8) := by simpa using h

set_option maxRecDepth 100000 in
set_option maxHeartbeats 1000000 in
theorem laid1_in (F : Fence) (n : Nat) (hf : F.fn 63) (hro : F.round = none) (hn : 1 ≤ n) (l Bn m n₀ : Nat) (hm : m < 18446744073709551616) (J Jx : List UInt8 → World → Prop)
    (hY : ∀ pre x W, J pre W → pre.length < (put m).length → YieldAt F (n - 1) Try.prog l #[b8 x] W fun e W' =>
      (e = .returned (.bool true) ∧ J (pre ++ [x]) W' ∧ Below n₀ W W') ∨ (e = .returned (.bool false) ∧ Jx (pre ++ [x]) W'))
    (W : World) (hBn : W.cell? ⟨Bn, 0, none⟩ = some (.int .u64 (m : Int))) (h0 : J [] W) :
    CallsIn F n Try.prog 63 #[.func (.yield l) #[] #[], .pointer (some ⟨Bn, 0, none⟩)] W fun e W' => (∃ v, e = .returned v) ∧
      ((∃ ys, ys = put m ∧ J ys W') ∨ (∃ pre, pre <+: put m ∧ Jx pre W')) := by
  refine callsIn_of_wp Try.func63 rfl hf ?_ hro
  simp only [Try.ntmps63, List.size_toArray, List.length_cons, List.length_nil, Nat.reduceAdd, Nat.reduceSub, Array.replicate_succ, Array.replicate_zero, List.push_toArray, List.append_toArray, List.nil_append, List.cons_append]
  gi_wp2
  gi_loopw [3] (fun p wr => ∃ (pre : List UInt8) (q : Nat), p = .int .u64 (q : Int) ∧ q < 18446744073709551616 ∧ Hid (put m = pre ++ put q) ∧ J pre wr)
    (fun p _ => (intOf p).toNat)
  case atStart => exact ⟨[], m, rfl, hm, rfl, h0⟩
  case round =>
    obtain ⟨pre, q, rfl, hq, hx, hJs⟩ := hrel
    have hlen : pre.length < (put m).length := by rw [hx.out]; have := put_pos q; simp; omega
    by_cases h1 : 128 ≤ q
    · obtain ⟨fn, tmps, assign, body, hy, hR⟩ := hY pre (UInt8.ofNat (q % 128 + 128)) wr hJs hlen
      rw [b8_hi] at hy
      gi_wp2
      refine hR.mono ?_
      rintro e W3 (⟨rfl, hJ3, _⟩ | ⟨rfl, hJx3⟩)
      · gi_wp2
        go_roundw
        case rel => exact ⟨pre ++ [UInt8.ofNat (q % 128 + 128)], q / 128, by go_num, by omega, by rw [hx.out, put_ge h1]; simp [Hid], hJ3⟩
        case measure => simp [intOf]; omega
      · gi_wp2
        refine bodyPost_ret (results_none rfl _ _ _) rfl ?_
        exact ⟨⟨_, rfl⟩, .inr ⟨_, ⟨put (q / 128), by rw [hx.out, put_ge h1]; simp⟩, hJx3⟩⟩
    · obtain ⟨fn, tmps, assign, body, hy, hR⟩ := hY pre (UInt8.ofNat q) wr hJs hlen
      rw [b8_lo (by omega)] at hy
      gi_wp2
      refine hR.mono ?_
      rintro e W3 (⟨rfl, hJ3, _⟩ | ⟨rfl, hJx3⟩)
      · gi_wp2
        go_end0
        exact ⟨⟨_, rfl⟩, .inl ⟨_, by rw [hx.out, put_lt (by omega)], hJ3⟩⟩
      · gi_wp2
        go_end0
        exact ⟨⟨_, rfl⟩, .inr ⟨_, by rw [hx.out, put_lt (by omega)]; exact List.prefix_refl _, hJx3⟩⟩

set_option maxHeartbeats 1000000 in
theorem laid_in (F : Fence) (n : Nat) (hf : F.fn 57) (hro : F.round = none) (m : Int) (w : World) :
    CallsIn F n Try.prog 57 #[.int .u64 m] w fun e w' => e = .returned (.func (.func 63) #[] #[.pointer (some ⟨w.heap.size, 0, none⟩)]) ∧ w' = w.alloc (.cells #[.int .u64 m] 23) := by
  refine callsIn_of_wp Try.func57 rfl hf ?_ hro
  simp only [Try.ntmps57, List.size_toArray, List.length_cons, List.length_nil, Nat.reduceAdd, Nat.reduceSub, Array.replicate_succ, Array.replicate_zero, List.push_toArray, List.append_toArray, List.nil_append, List.cons_append]
  gi_wp2
  go_ret
  exact ⟨rfl, rfl⟩

theorem laid_stops (F : Fence) (n : Nat) (hf : F.fn 63) (hro : F.round = none) (hn : 1 ≤ n) (Bn n₀ m : Nat) (hm : m < 18446744073709551616) (w : World) (hBn : Bn < w.heap.size)
    (hc : w.cell? ⟨Bn, 0, none⟩ = some (.int .u64 (m : Int))) :
    SeqStopsK F n Try.prog 63 #[.pointer (some ⟨Bn, 0, none⟩)] (fun x : UInt8 => #[b8 x]) (Below n₀) (fun ys => ys = put m) (fun pre => pre <+: put m) (put m).length w := fun l J Jx W hW _ _ hY h0 =>
  laid1_in F n hf hro hn l Bn m n₀ hm J Jx hY W ((hW.cell (p := ⟨Bn, 0, none⟩) hBn).trans hc) h0

theorem info_u8 : (Try.prog.info? 5).map (fun i => (i.zero, i.size, i.bytes)) = some (some (.int .u8 0), 1, 1) := by kernel_rfl

set_option maxRecDepth 100000 in
set_option maxHeartbeats 2000000 in
theorem put_in (F : Fence) (n : Nat) (h7 : F.fn 49) (h14 : F.fn 57) (h16 : F.fn 63) (hro : F.round = none) (hn : 3 ≤ n) (m : Nat) (hm : m < 18446744073709551616) (w : World) :
    CallsIn F n Try.prog 49 #[.int .u64 (m : Int)] w fun e W' => ∃ v, e = .returned v ∧ W'.ownsRow w.heap.size 5 1 v (put m).length ((put m).map b8) ∧ Below w.heap.size w W' := by
  have h1 : 1 ≤ n := by omega
  have hml := put_len10 hm
  obtain ⟨i0, hi, hz0, hz1, hz2⟩ := info_parts info_u8
  refine callsIn_of_wp_marks Try.func49 rfl h7 ?_ hro
  simp only [Try.ntmps49, List.size_toArray, List.length_cons, List.length_nil, Nat.reduceAdd, Nat.reduceSub, Array.replicate_succ, Array.replicate_zero, List.push_toArray, List.append_toArray, List.nil_append, List.cons_append]
  gi_wp2_with (gi_at_call 57; refine (laid_in F (n - 1) h14 hro _ _).mono ?_; rintro e w' ⟨rfl, rfl⟩)
  have bO := Boxed.new w 22 (.slice none 0 0)
  have bN := Boxed.new (w.alloc (.cells #[.slice none 0 0] 22)) 23 (.int .u64 (m : Int))
  rw [World.size_alloc] at bN
  have hB0 : Below w.heap.size w ((w.alloc (.cells #[.slice none 0 0] 22)).alloc (.cells #[.int .u64 (m : Int)] 23)) := ((Below.refl _ w).alloc (Nat.le_refl _) _).alloc (by simp) _
  refine wpIn_rangeFunc_ownG hro h1 (gf := 63) (lb := #[.pointer (some ⟨w.heap.size + 1, 0, none⟩)]) rfl h16 (enters_of Try.func63 (by kernel_rfl) rfl)
    (laid_stops F (n - 1) h16 hro (by omega) (w.heap.size + 1) w.heap.size m hm _ (by simp) bN.cell) belowK_t (belowK_b (by simp; omega)) (Below.refl _ _) (fun _ => rfl)
    (fun (pre : List UInt8) W => (∃ v, Boxed W w.heap.size 22 v ∧ W.ownsRow w.heap.size 5 1 v pre.length (pre.map b8) ∧ True) ∧ Below w.heap.size w W)
    (fun _ _ _ => False)
    (OwnFrom.and (Own.from (holdsRow_own w.heap.size w.heap.size 22 5 1 (fun pre : List UInt8 => pre.length) (fun pre => pre.map b8) (fun _ _ => True)) _) (ownFrom_below (Nat.le_refl _) (by simp; omega)))
    (fun _ _ _ _ _ hs _ _ => hs)
    ⟨⟨_, bO.alloc _, World.ownsRow_nil _ _ _ _, trivial⟩, hB0⟩
    (fun x => { tmps := #[.int .u64 (m : Int), undef, .slice none 0 0, .pointer (some ⟨w.heap.size, 0, none⟩), b8 x, .int .u64 (m : Int), .func (.func 63) #[] #[.pointer (some ⟨w.heap.size + 1, 0, none⟩)], b8 x, undef, undef, undef, undef, undef], defers := [] }) ?assign ?body ?done ?stop
  case assign =>
    intro l x W K hK
    gi_wp2
    exact hK
  case body =>
    rintro l pre x W ⟨⟨v, hv, hrow, _⟩, hB⟩ hlt
    have hc := hv.cell
    unfold b8
    gi_wp2_with (gi_at_builtin; refine wpListIn_append_own _ rfl _ _ 22 rfl w.heap.size 5 i0 (.int .u8 0) 1 1 Try.underlying22 hi hz0 hz1 hz2 rfl (by decide) _ _ _ rfl (hrow.alloc _) ⟨W.heap.size, 0, none⟩ 1 1 [b8 x] rfl rfl (cell_one_new _ _ _) (by simp [Value.oneCell', b8]) (by unfold maxLen; omega) (by omega) (by have := hB.size; simp; omega) ?_; intro v' w1 hown' hgrow _; obtain ⟨g', cap', rfl⟩ := ownsRow_succ hown'; obtain ⟨hv1, hv2, hr2, hk2, hb2⟩ := hv.appended (by decide) hrow hB.size (Nat.le_refl _) hown' hgrow; have hc1 := hv1.cell; have hf1 := hv1.frozen)
    exact ⟨hk2.from _, hb2, ⟨_, hv2, snoc_row hr2, trivial⟩, hB.trans hb2⟩
  case done =>
    rintro D ys W hD rfl ⟨⟨v, hv, hrow, _⟩, hB⟩ hK
    have hc := hv.cell
    gi_wp2
    refine ⟨by simp, .inl ⟨_, _, rfl, run_takeDeferred hK, ?_⟩⟩
    exact ⟨_, results_tmp rfl _ _ _, v, rfl, ownsRow_putObj hrow _ hK rfl, hB.trans (belowK_b (w := w) (Nat.le_refl _) W D _ _ (by simp at hD; omega) hK rfl rfl)⟩
  case stop =>
    rintro D c pre W _ _ h _
    exact h.elim

/-- **num.Put at every number below 2^64.** -/
theorem put_any (m : Nat) (hm : m < 18446744073709551616) (w : World) :
    Calls Try.prog 49 #[.int .u64 (m : Int)] w fun e w' => ∃ v, e = .returned v ∧ w'.ownsRow w.heap.size 5 1 v (put m).length ((put m).map b8) ∧ Below w.heap.size w w' :=
  (callsIn_wide (n := 3)).1 (put_in _ 3 trivial trivial trivial rfl (by omega) m hm w)

end Go.Proofs.Ytklgggolkclebaa
