/-
  What num.Get does, at every slice of bytes and every place: it hands back what the chapter says, and nothing that lay has turned.
-/
import Derived.RangeFuncBox
import Derived.RangeFuncNested
import Derived.RangeFuncBound
import Derived.RangeFuncCalls
import Derived.RangeFuncLeaves
import Derived.Shelf.Abstract
import Derived.Shelf.RegionOpen
import Derived.WalkKit
import Derived.WalkSpells
import Derived.WalkLawsBesides
import Derived.BigQuiet
import Derived.Deep.QuietTactic
import Derived.OwnWalkIn
import Derived.TacticsInMore
import Derived.LoopNIn
import Derived.LoopIn
import Derived.Maps.AppendAt
import Derived.Lib.Hide
import Derived.Test.YtklgggolkclebaaNumPut
namespace Go.Proofs.Ytklgggolkclebaa
open Go.RowKit Go.Shelf Go.Proofs.NumMath

attribute [local go_sem] Oper.semAt_some

/-- What has come when k rounds are over. -/
def upto {α : Type} (f : Nat → α) (k : Nat) : List α := (List.range k).map f
theorem upto_succ {α : Type} (f : Nat → α) (k : Nat) : upto f (k + 1) = upto f k ++ [f k] := by simp [upto, List.range_succ]
theorem upto_length {α : Type} (f : Nat → α) (k : Nat) : (upto f k).length = k := by simp [upto]
theorem upto_list (cs : List UInt8) : upto (fun j => cs.getD j 0) cs.length = cs := by
  apply List.ext_getElem
  · simp [upto]
  · intro i h1 h2
    simp [upto, h2]

set_option maxRecDepth 100000 in
set_option maxHeartbeats 1000000 in
/-- The library's closure over a slice of bytes, for every loop body that keeps what lay below n₀. -/
theorem values1_in (F : Fence) (n : Nat) (hf : F.fn 66) (hro : F.round = none) (hn : 1 ≤ n) (l Bs n₀ len cap : Nat) (A : Option Addr) (f : Nat → UInt8) (hreach : len ≤ 9223372036854775807) (J Jx : List UInt8 → World → Prop)
    (hY : ∀ pre x W, J pre W → pre.length < len → YieldAt F (n - 1) Try.prog l #[b8 x] W fun e W' =>
      (e = .returned (.bool true) ∧ J (pre ++ [x]) W' ∧ Below n₀ W W') ∨ (e = .returned (.bool false) ∧ Jx (pre ++ [x]) W'))
    (W : World) (hBs : W.cell? ⟨Bs, 0, none⟩ = some (.slice A len cap))
    (hc : 0 < len → ∃ b off, A = some ⟨b, off, none⟩ ∧ b < n₀ ∧ ∀ j, j < len → W.cell? ⟨b, off + j, none⟩ = some (b8 (f j))) (h0 : J [] W) :
    CallsIn F n Try.prog 66 #[.func (.yield l) #[] #[], .pointer (some ⟨Bs, 0, none⟩)] W fun e W' => (∃ v, e = .returned v) ∧
      ((∃ ys, ys = upto f len ∧ J ys W') ∨ (∃ pre, (∃ k, k ≤ len ∧ pre = upto f k) ∧ Jx pre W')) := by
  refine callsIn_of_wp Try.func66 rfl hf ?_ hro
  simp only [Try.ntmps66, List.size_toArray, List.length_cons, List.length_nil, Nat.reduceAdd, Nat.reduceSub, Array.replicate_succ, Array.replicate_zero, List.push_toArray, List.append_toArray, List.nil_append, List.cons_append]
  gi_wp2
  gi_loopw [7] (fun i wr => ∃ k : Nat, k ≤ len ∧ i = .int .i64 (k : Int) ∧ J (upto f k) wr ∧ Below n₀ W wr)
    (fun i _ => len - (intOf i).toNat)
  case atStart => exact ⟨0, Nat.zero_le _, rfl, h0, Below.refl _ _⟩
  case round =>
    obtain ⟨k, hk, rfl, hJs, hnx⟩ := hrel
    by_cases hlt : k < len
    · obtain ⟨b, off, rfl, hb, hcs⟩ := hc (by omega)
      have hcx : wr.cell? ⟨b, off + k, none⟩ = some (b8 (f k)) := (hnx.cell (p := ⟨b, off + k, none⟩) hb).trans (hcs k hlt)
      obtain ⟨fn, tmps, assign, body, hy, hR⟩ := hY _ (f k) wr hJs (by rw [upto_length]; exact hlt)
      clear hcs hc
      unfold b8 at hcx hy
      gi_wp2
      refine hR.mono ?_
      rintro e W3 (⟨rfl, hJ3, hk3⟩ | ⟨rfl, hJx3⟩)
      · gi_wp2
        go_roundw
        case rel => exact ⟨k + 1, by omega, by simp, by rw [upto_succ]; exact hJ3, hnx.trans hk3⟩
        case measure => simp [intOf]; omega
      · gi_wp2
        refine bodyPost_ret (results_none rfl _ _ _) rfl ?_
        exact ⟨⟨_, rfl⟩, .inr ⟨_, ⟨k + 1, by omega, (upto_succ _ _).symm⟩, hJx3⟩⟩
    · obtain rfl : k = len := by omega
      clear hc
      gi_wp2
      go_end0
      exact ⟨⟨_, rfl⟩, .inl ⟨_, rfl, hJs⟩⟩

set_option maxHeartbeats 1000000 in
theorem values_in (F : Fence) (n : Nat) (hf : F.fn 64) (hro : F.round = none) (a : Option Addr) (len cap : Nat) (w : World) :
    CallsIn F n Try.prog 64 #[.slice a len cap] w fun e w' => e = .returned (.func (.func 66) #[] #[.pointer (some ⟨w.heap.size, 0, none⟩)]) ∧ w' = w.alloc (.cells #[.slice a len cap] 22) := by
  refine callsIn_of_wp Try.func64 rfl hf ?_ hro
  simp only [Try.ntmps64, List.size_toArray, List.length_cons, List.length_nil, Nat.reduceAdd, Nat.reduceSub, Array.replicate_succ, Array.replicate_zero, List.push_toArray, List.append_toArray, List.nil_append, List.cons_append]
  gi_wp2
  go_ret
  exact ⟨rfl, rfl⟩

theorem values_stops (F : Fence) (n : Nat) (hf : F.fn 66) (hro : F.round = none) (hn : 1 ≤ n) (Bs n₀ len cap : Nat) (A : Option Addr) (f : Nat → UInt8) (hreach : len ≤ 9223372036854775807) (w : World) (hBs : Bs < w.heap.size) (hn₀ : n₀ ≤ w.heap.size)
    (hc : w.cell? ⟨Bs, 0, none⟩ = some (.slice A len cap))
    (hI : 0 < len → ∃ b off, A = some ⟨b, off, none⟩ ∧ b < n₀ ∧ ∀ j, j < len → w.cell? ⟨b, off + j, none⟩ = some (b8 (f j))) :
    SeqStopsK F n Try.prog 66 #[.pointer (some ⟨Bs, 0, none⟩)] (fun x : UInt8 => #[b8 x]) (Below n₀) (fun ys => ys = upto f len) (fun pre => ∃ k, k ≤ len ∧ pre = upto f k) len w := fun l J Jx W hW _ _ hY h0 =>
  values1_in F n hf hro hn l Bs n₀ len cap A f hreach J Jx hY W ((hW.cell (p := ⟨Bs, 0, none⟩) hBs).trans hc)
    (fun h => by
      obtain ⟨b, off, e, hb, hcs⟩ := hI h
      exact ⟨b, off, e, hb, fun j hj => (hW.cell (p := ⟨b, off + j, none⟩) (by show b < _; omega)).trans (hcs j hj)⟩) h0

/-- May bytes end with c behind k others? -/
def endB (k c : Nat) : Bool := decide (k = 0 ∨ c = 1 ∨ (1 < c ∧ k + 1 < 10))
theorem ret_b {a b : Bool} (h : a = b) : Ending.returned (.bool a) = .returned (.bool b) := by rw [h]

set_option maxHeartbeats 1000000 in
theorem ends_in (c : UInt8) (k : Nat) (hk : k ≤ 100) (F : Fence) (n : Nat) (hf : F.fn 65) (hro : F.round = none) (w : World) :
    CallsIn F n Try.prog 65 #[.int .u8 (c.toNat : Int), .int .i64 ((k : Int) + 1)] w fun e w' => e = .returned (.bool (endB k c.toNat)) ∧ w = w' := by
  have hc := c.toNat_lt
  refine callsIn_of_wp Try.func65 rfl hf ?_ hro
  simp only [Try.ntmps65, List.size_toArray, List.length_cons, List.length_nil, Nat.reduceAdd, Nat.reduceSub, Array.replicate_succ, Array.replicate_zero, List.push_toArray, List.append_toArray, List.nil_append, List.cons_append]
  gi_wp2
  all_goals
    go_ret
    refine ⟨ret_b ?_, rfl⟩
    unfold endB
    first
      | (rw [eq_comm, decide_eq_true_iff]; omega)
      | (rw [decide_eq_decide]; omega)
      | (rw [Bool.eq_iff_iff]; simp; omega)

/-- The slice value holds the bytes cs, below n₀. -/
def Holds8 (n₀ : Nat) (W : World) (A : Option Addr) (cs : List UInt8) : Prop :=
  0 < cs.length → ∃ b off, A = some ⟨b, off, none⟩ ∧ b < n₀ ∧ ∀ j, j < cs.length → W.cell? ⟨b, off + j, none⟩ = some (b8 (cs.getD j 0))

/-- A scope through which the run goes without a goto, at the wide fence. -/
theorem scope_wide {n : Nat} {P : Program} {c : Code} {Q : Exit → Act → World → Prop} {a : Act} {w : World} (h : c.wpIn Fence.wide n P (Exit.noGoto Q) a w) : (Code.scope c).wpIn Fence.wide n P Q a w :=
  wpIn_wide.2 (wp_scope_straight (wpIn_wide.1 h))

set_option maxRecDepth 100000 in
set_option maxHeartbeats 2000000 in
theorem get_arg (A : Option Addr) (len cap : Nat) (i : Int) (w : World) (_hl : len ≤ 9223372036854775807) (h : i < 0 ∨ (len : Int) < i) :
    CallsIn Fence.wide 3 Try.prog 60 #[.slice A len cap, .int .i64 i] w fun e w' => e = .returned (.tuple #[.int .u64 0, .int .i64 0, .int .u16 1]) ∧ w = w' := by
  by_cases h0 : i < 0
  · refine callsIn_of_wp Try.func60 rfl trivial ?_ rfl
    simp only [Try.ntmps60, List.size_toArray, List.length_cons, List.length_nil, Nat.reduceAdd, Nat.reduceSub, Array.replicate_succ, Array.replicate_zero, List.push_toArray, List.append_toArray, List.nil_append, List.cons_append]
    gi_wp2
    refine scope_wide ?_
    gi_wp2
    rw [Exit.noGoto_ret]
    exact bodyPost_ret (results_tmp3 rfl _ _ _) rfl ⟨rfl, rfl⟩
  · have h1 : (len : Int) < i := by omega
    refine callsIn_of_wp Try.func60 rfl trivial ?_ rfl
    simp only [Try.ntmps60, List.size_toArray, List.length_cons, List.length_nil, Nat.reduceAdd, Nat.reduceSub, Array.replicate_succ, Array.replicate_zero, List.push_toArray, List.append_toArray, List.nil_append, List.cons_append]
    gi_wp2
    refine scope_wide ?_
    gi_wp2
    rw [Exit.noGoto_ret]
    exact bodyPost_ret (results_tmp3 rfl _ _ _) rfl ⟨rfl, rfl⟩

/-- 's[i:]' of a slice of bytes, under one name for its address. -/
theorem cut_run (A : Option Addr) (len cap i : Nat) (hi : i ≤ len) (hl : len ≤ cap) :
    ∃ A' : Option Addr, (∀ W : World, (Instr.slice 22 (.slice A len cap) (some (.int .i64 (i : Int))) none none).run Try.prog W = .ok (.slice A' (len - i) (cap - i)) W) ∧
      (i < len → ∀ b off, A = some ⟨b, off, none⟩ → A' = some ⟨b, off + i, none⟩) := by
  refine ⟨if cap = i then A else A.map (·.add (i * 1)), fun W => ?_, fun h b off e => ?_⟩
  · rw [run_slice_l W 22 A len cap (by kernel_rfl) .i64 (i : Int) (by omega) (by omega)]
    have hz : (sizeOf (Try.prog.elem 22)).run Try.prog W = .ok 1 W := by kernel_rfl
    rw [hz]
    simp [sliced, Result.andThen]
  · subst e
    rw [if_neg (by omega)]
    simp only [Option.map_some, Nat.mul_one, Addr.add]
    by_cases h0 : i = 0
    · simp [h0]
    · simp [h0]

/-- The cells of the loop behind pre. -/
def fN (pre : List UInt8) : Value := .int .u64 ((val pre % 18446744073709551616 : Nat) : Int)
def fS (pre : List UInt8) : Value := .int .i64 (pre.length : Int)
def errOf (k c : Nat) : Nat := if c < 128 ∧ endB k c = true then 0 else 31
def fE (pre : List UInt8) : Value := .int .u16 (errOf (pre.length - 1) (pre.getLast?.getD 0).toNat : Int)
def Goes (pre : List UInt8) : Prop := pre.length < 10 ∧ ∀ c ∈ pre, 128 ≤ c.toNat
def Ends (pre : List UInt8) : Prop := ∃ ini last, pre = ini ++ [last] ∧ Goes ini ∧ (last.toNat < 128 ∨ ini.length + 1 = 10)

/-- One round's arithmetic, each value under a name of its own. -/
theorem arith (pre : List UInt8) (x : UInt8) (k : Nat) (hk : pre.length = k) (h9 : k ≤ 9) : ∃ a r s o : Nat, ((val pre % 18446744073709551616 : Nat) : Int) = (a : Int) ∧ ((x.toNat : Int)).tmod 128 = (r : Int) ∧ IntKind.u64.wrap (r : Int) = (r : Int) ∧
    IntKind.u64.wrap ((r : Int) * 2 ^ (7 * k)) = (s : Int) ∧ bits .or .u64 (a : Int) (s : Int) = (o : Int) ∧ o = val (pre ++ [x]) % 18446744073709551616 := by
  have hx := x.toNat_lt
  have hv := val_lt pre
  rw [hk] at hv
  refine ⟨val pre % 18446744073709551616, x.toNat % 128, (x.toNat % 128) * 2 ^ (7 * k) % 18446744073709551616, _, rfl, ?_, ?_, ?_, u64_or_nat _ _ (Nat.mod_lt _ (by omega)) (Nat.mod_lt _ (by omega)), ?_⟩
  · rw [Int.tmod_eq_emod_of_nonneg (by omega)]; simp
  · rw [IntKind.wrap_u64]; omega
  · rw [IntKind.wrap_u64]; simp
  · rw [or_step _ _ _ hv h9, val_snoc, hk]

section
variable {w W : World} {tn ts te : TypeId} {pre : List UInt8} {x : UInt8} {k o Bk : Nat}
theorem close_stop {ee : Nat} (hN : Boxed W w.heap.size tn (fN pre)) (hS : Boxed W (w.heap.size + 1) ts (fS pre)) (hE : Boxed W (w.heap.size + 1 + 1) te (.int .u16 10)) (hB : Below w.heap.size w W)
    (hk : pre.length = k) (ho : o = val (pre ++ [x]) % 18446744073709551616) (ha : ∀ c ∈ pre, 128 ≤ c.toNat) (hp : k < 10) (he : ee = errOf k x.toNat) (hx : x.toNat < 128 ∨ k + 1 = 10) :
    KeepsFrom Bk W (((W.setCell ⟨w.heap.size, 0, none⟩ (.int .u64 (o : Int))).setCell ⟨w.heap.size + 1, 0, none⟩ (.int .i64 ((k : Int) + 1))).setCell ⟨w.heap.size + 1 + 1, 0, none⟩ (.int .u16 (ee : Int))).drew ∧
    ((Boxed (((W.setCell ⟨w.heap.size, 0, none⟩ (.int .u64 (o : Int))).setCell ⟨w.heap.size + 1, 0, none⟩ (.int .i64 ((k : Int) + 1))).setCell ⟨w.heap.size + 1 + 1, 0, none⟩ (.int .u16 (ee : Int))).drew w.heap.size tn (fN (pre ++ [x])) ∧
      Boxed (((W.setCell ⟨w.heap.size, 0, none⟩ (.int .u64 (o : Int))).setCell ⟨w.heap.size + 1, 0, none⟩ (.int .i64 ((k : Int) + 1))).setCell ⟨w.heap.size + 1 + 1, 0, none⟩ (.int .u16 (ee : Int))).drew (w.heap.size + 1) ts (fS (pre ++ [x])) ∧
      Boxed (((W.setCell ⟨w.heap.size, 0, none⟩ (.int .u64 (o : Int))).setCell ⟨w.heap.size + 1, 0, none⟩ (.int .i64 ((k : Int) + 1))).setCell ⟨w.heap.size + 1 + 1, 0, none⟩ (.int .u16 (ee : Int))).drew (w.heap.size + 1 + 1) te (fE (pre ++ [x])) ∧
      (Code.exit 0 = .exit 0 ∧ Ends (pre ++ [x]))) ∧ Below w.heap.size w (((W.setCell ⟨w.heap.size, 0, none⟩ (.int .u64 (o : Int))).setCell ⟨w.heap.size + 1, 0, none⟩ (.int .i64 ((k : Int) + 1))).setCell ⟨w.heap.size + 1 + 1, 0, none⟩ (.int .u16 (ee : Int))).drew) := by
  subst ho he
  have eN : fN (pre ++ [x]) = .int .u64 ((val (pre ++ [x]) % 18446744073709551616 : Nat) : Int) := rfl
  have eS : fS (pre ++ [x]) = .int .i64 ((k : Int) + 1) := by unfold fS; rw [List.length_append, hk]; simp
  have eE : fE (pre ++ [x]) = .int .u16 (errOf k x.toNat : Int) := by unfold fE; simp [hk]
  rw [eN, eS, eE]
  refine ⟨KeepsOthers.from (((KeepsOthers.setCell _ _ _).trans ((KeepsOthers.setCell _ _ _).trans (KeepsOthers.setCell _ _ _))).trans (KeepsOthers.drew _)) _, ⟨?_, ?_, ?_, rfl, pre, x, rfl, ⟨by omega, ha⟩, by rw [hk]; exact hx⟩, ?_⟩
  · exact ((hN.set (.int .u64 ((val (pre ++ [x]) % 18446744073709551616 : Nat) : Int))).other (B' := w.heap.size + 1) (by omega) (.int .i64 ((k : Int) + 1))).other (B' := w.heap.size + 1 + 1) (by omega) (.int .u16 (errOf k x.toNat : Int))
  · exact ((hS.other (B' := w.heap.size) (by omega) (.int .u64 ((val (pre ++ [x]) % 18446744073709551616 : Nat) : Int))).set (.int .i64 ((k : Int) + 1))).other (B' := w.heap.size + 1 + 1) (by omega) (.int .u16 (errOf k x.toNat : Int))
  · exact ((hE.other (B' := w.heap.size) (by omega) (.int .u64 ((val (pre ++ [x]) % 18446744073709551616 : Nat) : Int))).other (B' := w.heap.size + 1) (by omega) (.int .i64 ((k : Int) + 1))).set (.int .u16 (errOf k x.toNat : Int))
  · exact (((hB.setCell (p := ⟨w.heap.size, 0, none⟩) (Nat.le_refl _) _).setCell (p := ⟨w.heap.size + 1, 0, none⟩) (by simp) _).setCell (p := ⟨w.heap.size + 1 + 1, 0, none⟩) (by simp; omega) _).drew
theorem close_go (hN : Boxed W w.heap.size tn (fN pre)) (hS : Boxed W (w.heap.size + 1) ts (fS pre)) (hE : Boxed W (w.heap.size + 1 + 1) te (.int .u16 10)) (hB : Below w.heap.size w W)
    (hk : pre.length = k) (ho : o = val (pre ++ [x]) % 18446744073709551616) (ha : ∀ c ∈ pre, 128 ≤ c.toNat) (hp : k + 1 < 10) (hx : 128 ≤ x.toNat) :
    KeepsFrom Bk W ((W.setCell ⟨w.heap.size, 0, none⟩ (.int .u64 (o : Int))).setCell ⟨w.heap.size + 1, 0, none⟩ (.int .i64 ((k : Int) + 1))).drew ∧
    Below w.heap.size W ((W.setCell ⟨w.heap.size, 0, none⟩ (.int .u64 (o : Int))).setCell ⟨w.heap.size + 1, 0, none⟩ (.int .i64 ((k : Int) + 1))).drew ∧
    ((Boxed ((W.setCell ⟨w.heap.size, 0, none⟩ (.int .u64 (o : Int))).setCell ⟨w.heap.size + 1, 0, none⟩ (.int .i64 ((k : Int) + 1))).drew w.heap.size tn (fN (pre ++ [x])) ∧
      Boxed ((W.setCell ⟨w.heap.size, 0, none⟩ (.int .u64 (o : Int))).setCell ⟨w.heap.size + 1, 0, none⟩ (.int .i64 ((k : Int) + 1))).drew (w.heap.size + 1) ts (fS (pre ++ [x])) ∧
      Boxed ((W.setCell ⟨w.heap.size, 0, none⟩ (.int .u64 (o : Int))).setCell ⟨w.heap.size + 1, 0, none⟩ (.int .i64 ((k : Int) + 1))).drew (w.heap.size + 1 + 1) te (.int .u16 10) ∧
      Goes (pre ++ [x])) ∧ Below w.heap.size w ((W.setCell ⟨w.heap.size, 0, none⟩ (.int .u64 (o : Int))).setCell ⟨w.heap.size + 1, 0, none⟩ (.int .i64 ((k : Int) + 1))).drew) := by
  subst ho
  have eN : fN (pre ++ [x]) = .int .u64 ((val (pre ++ [x]) % 18446744073709551616 : Nat) : Int) := rfl
  have eS : fS (pre ++ [x]) = .int .i64 ((k : Int) + 1) := by unfold fS; rw [List.length_append, hk]; simp
  have hb : Below w.heap.size W ((W.setCell ⟨w.heap.size, 0, none⟩ (.int .u64 ((val (pre ++ [x]) % 18446744073709551616 : Nat) : Int))).setCell ⟨w.heap.size + 1, 0, none⟩ (.int .i64 ((k : Int) + 1))).drew :=
    (((Below.refl _ W).setCell (p := ⟨w.heap.size, 0, none⟩) (Nat.le_refl _) _).setCell (p := ⟨w.heap.size + 1, 0, none⟩) (by simp) _).drew
  rw [eN, eS]
  refine ⟨KeepsOthers.from (((KeepsOthers.setCell _ _ _).trans (KeepsOthers.setCell _ _ _)).trans (KeepsOthers.drew _)) _, hb, ⟨?_, ?_, ?_, ?_⟩, hB.trans hb⟩
  · exact (hN.set (.int .u64 ((val (pre ++ [x]) % 18446744073709551616 : Nat) : Int))).other (B' := w.heap.size + 1) (by omega) (.int .i64 ((k : Int) + 1))
  · exact (hS.other (B' := w.heap.size) (by omega) (.int .u64 ((val (pre ++ [x]) % 18446744073709551616 : Nat) : Int))).set (.int .i64 ((k : Int) + 1))
  · exact (hE.other (B' := w.heap.size) (by omega) (.int .u64 ((val (pre ++ [x]) % 18446744073709551616 : Nat) : Int))).other (B' := w.heap.size + 1) (by omega) (.int .i64 ((k : Int) + 1))
  · refine ⟨by simp; omega, fun c hc => ?_⟩
    rcases List.mem_append.1 hc with h | h
    · exact ha c h
    · rw [List.mem_singleton.1 h]; exact hx
end

theorem below_draws {B : Nat} {a w : World} (h : Below B a w) (n : Nat) : Below B a (w.drewN n) := ⟨h.os, h.tape, h.output, h.size, h.block⟩

theorem getAt_of {cs : List UInt8} {i : Nat} (hi : i ≤ cs.length) : getAt cs (i : Int) = if (scan 0 0 (cs.drop i)).2.2 = 0 then ((scan 0 0 (cs.drop i)).1, i + (scan 0 0 (cs.drop i)).2.1, 0) else (0, 0, (scan 0 0 (cs.drop i)).2.2) := by
  unfold getAt
  rw [if_neg (by omega), Int.toNat_natCast]

set_option maxRecDepth 100000 in
set_option maxHeartbeats 2000000 in
theorem get_in (A : Option Addr) (cs : List UInt8) (cap i : Nat) (w : World) (hl : cs.length ≤ cap) (hcap : cap ≤ 9223372036854775807) (hi : i ≤ cs.length) (hr : Holds8 w.heap.size w A cs) :
    CallsIn Fence.wide 3 Try.prog 60 #[.slice A cs.length cap, .int .i64 (i : Int)] w fun e w' => e = .returned (.tuple #[.int .u64 ((getAt cs i).1 : Int), .int .i64 ((getAt cs i).2.1 : Int), .int .u16 ((getAt cs i).2.2 : Int)]) ∧ Below w.heap.size w w' := by
  obtain ⟨A', hsl, hA'⟩ := cut_run A cs.length cap i hi hl
  have hr' : 0 < cs.length - i → ∃ b off, A' = some ⟨b, off, none⟩ ∧ b < w.heap.size ∧ ∀ j, j < cs.length - i → w.cell? ⟨b, off + j, none⟩ = some (b8 (cs.getD (i + j) 0)) := fun h => by
    obtain ⟨b, off, e, hb, hc⟩ := hr (by omega)
    exact ⟨b, off + i, hA' (by omega) b off e, hb, fun j hj => by rw [Nat.add_assoc]; exact hc (i + j) (by omega)⟩
  clear hA' hr
  have hup : upto (fun j => cs.getD (i + j) 0) (cs.length - i) = cs.drop i := by
    apply List.ext_getElem
    · simp [upto]
    · intro j h1 h2
      simp at h2
      simp [upto, show i + j < cs.length by omega]
  have HR := Lib.hid hr'
  have HU := Lib.hid hup
  clear hr' hup
  generalize hg : getAt cs i = g
  have HG := Lib.hid hg
  clear hg
  obtain ⟨len, hlen⟩ : ∃ len, cs.length = len := ⟨_, rfl⟩
  rw [hlen] at hl hi hsl HR HU ⊢
  have HL := Lib.hid hlen
  clear hlen
  have d1 : decide ((i : Int) < 0) = false := by simp
  have d2 : decide (len < i) = false := by simp; omega
  refine callsIn_of_wp_marks Try.func60 rfl trivial ?_ rfl
  simp only [Try.ntmps60, List.size_toArray, List.length_cons, List.length_nil, Nat.reduceAdd, Nat.reduceSub, Array.replicate_succ, Array.replicate_zero, List.push_toArray, List.append_toArray, List.nil_append, List.cons_append]
  gi_wp2
  refine scope_wide ?_
  gi_wp2
  refine wpIn_label ?_
  gi_wp2_with (refine ⟨trivial, ?_⟩; gi_at_call 64; refine (values_in Fence.wide _ trivial rfl _ _ _ _).mono ?_; rintro e w' ⟨rfl, rfl⟩)
  have bN := (((Boxed.new w 23 (.int .u64 0)).alloc (.cells #[.int .i64 0] 3)).alloc (.cells #[.int .u16 10] 47)).alloc (.cells #[.slice A' (len - i) (cap - i)] 22)
  have bS := ((Boxed.new (w.alloc (.cells #[.int .u64 0] 23)) 3 (.int .i64 0)).alloc (.cells #[.int .u16 10] 47)).alloc (.cells #[.slice A' (len - i) (cap - i)] 22)
  have bE := (Boxed.new ((w.alloc (.cells #[.int .u64 0] 23)).alloc (.cells #[.int .i64 0] 3)) 47 (.int .u16 10)).alloc (.cells #[.slice A' (len - i) (cap - i)] 22)
  have bB := Boxed.new (((w.alloc (.cells #[.int .u64 0] 23)).alloc (.cells #[.int .i64 0] 3)).alloc (.cells #[.int .u16 10] 47)) 22 (.slice A' (len - i) (cap - i))
  simp only [World.size_alloc] at bN bS bE bB
  have hB0 : Below w.heap.size w ((((w.alloc (.cells #[.int .u64 0] 23)).alloc (.cells #[.int .i64 0] 3)).alloc (.cells #[.int .u16 10] 47)).alloc (.cells #[.slice A' (len - i) (cap - i)] 22)) :=
    ((((Below.refl _ w).alloc (Nat.le_refl _) _).alloc (by simp) _).alloc (by simp; omega) _).alloc (by simp; omega) _
  have hsz : ((((w.alloc (.cells #[.int .u64 0] 23)).alloc (.cells #[.int .i64 0] 3)).alloc (.cells #[.int .u16 10] 47)).alloc (.cells #[.slice A' (len - i) (cap - i)] 22)).heap.size = w.heap.size + 1 + 1 + 1 + 1 := by simp
  generalize ((((w.alloc (.cells #[.int .u64 0] 23)).alloc (.cells #[.int .i64 0] 3)).alloc (.cells #[.int .u16 10] 47)).alloc (.cells #[.slice A' (len - i) (cap - i)] 22)) = W0 at bN bS bE bB hB0 hsz ⊢
  refine wpIn_rangeFunc_ownG rfl (by omega) (gf := 66) (lb := #[.pointer (some ⟨w.heap.size + 1 + 1 + 1, 0, none⟩)]) rfl trivial (enters_of Try.func66 (by kernel_rfl) rfl)
    (values_stops Fence.wide _ trivial rfl (by omega) (w.heap.size + 1 + 1 + 1) w.heap.size (len - i) (cap - i) A' (fun j => cs.getD (i + j) 0) (by omega) W0 (by omega) (by omega) bB.cell
      (fun h => by obtain ⟨b, off, e, hb, hc⟩ := HR.out h; exact ⟨b, off, e, hb, fun j hj => (hB0.cell (p := ⟨b, off + j, none⟩) hb).trans (hc j hj)⟩))
    belowK_t (belowK_b (by omega)) (Below.refl _ _) (fun _ => rfl)
    (fun (pre : List UInt8) W => (Boxed W w.heap.size 23 (fN pre) ∧ Boxed W (w.heap.size + 1) 3 (fS pre) ∧ Boxed W (w.heap.size + 1 + 1) 47 (.int .u16 10) ∧ Goes pre) ∧ Below w.heap.size w W)
    (fun c pre W => (Boxed W w.heap.size 23 (fN pre) ∧ Boxed W (w.heap.size + 1) 3 (fS pre) ∧ Boxed W (w.heap.size + 1 + 1) 47 (fE pre) ∧ c = .exit 0 ∧ Ends pre) ∧ Below w.heap.size w W)
    (OwnFrom.and (OwnFrom.and (Own.from (boxed_own _ _ fN) _) (OwnFrom.and (Own.from (boxed_own _ _ fS) _) (OwnFrom.and (Own.from (boxed_own _ _ (fun _ => .int .u16 10)) _) (ownFrom_pure _ Goes)))) (ownFrom_below (Nat.le_refl _) (by omega)))
    (fun c => OwnFrom.and (OwnFrom.and (Own.from (boxed_own _ _ fN) _) (OwnFrom.and (Own.from (boxed_own _ _ fS) _) (OwnFrom.and (Own.from (boxed_own _ _ fE) _) (ownFrom_pure _ (fun pre => c = .exit 0 ∧ Ends pre))))) (ownFrom_below (Nat.le_refl _) (by omega)))
    ⟨⟨bN, bS, bE, by simp [Goes]⟩, hB0⟩
    (fun x => { tmps := #[.slice A len cap, .int .i64 (i : Int), undef, undef, .int .u64 0, .int .i64 0, .int .u16 0, .pointer (some ⟨w.heap.size, 0, none⟩), .pointer (some ⟨w.heap.size + 1, 0, none⟩), .pointer (some ⟨w.heap.size + 1 + 1, 0, none⟩), b8 x, .int .i64 (i : Int),
      .bool false, .bool false, .int .i64 (i : Int), .slice A len cap, .int .i64 (len : Int), .bool false, .bool false, .slice A len cap, .int .i64 (i : Int), .slice A' (len - i) (cap - i), .func (.func 66) #[] #[.pointer (some ⟨w.heap.size + 1 + 1 + 1, 0, none⟩)], b8 x, undef, undef,
      undef, undef, undef, undef, undef, undef, undef, undef, undef, undef, undef, undef, undef, undef, undef, undef, undef, undef, undef, undef, undef, undef, undef, undef, undef, undef, undef, undef, undef, undef], defers := [] }) ?assign ?body ?done ?stop
  case assign =>
    intro l x W K hK
    gi_wp2
    exact hK
  case body =>
    rintro l pre x W ⟨⟨hN, hS, hE, hgo⟩, hB⟩ hlt
    have cN := hN.cell
    have zN := hN.frozen
    have cS := hS.cell
    have zS := hS.frozen
    have cE := hE.cell
    have zE := hE.frozen
    have hx := x.toNat_lt
    obtain ⟨hp, hall⟩ := hgo
    have HA := Lib.hid hall
    clear hall
    unfold fN at cN
    unfold fS at cS
    unfold b8
    obtain ⟨k, hk⟩ : ∃ k, pre.length = k := ⟨_, rfl⟩
    rw [hk] at cS hp hlt
    have HK := Lib.hid hk
    obtain ⟨a, r, s, o, ea, e2, e3, es, eo, ho⟩ := arith pre x k hk (by omega)
    rw [ea] at cN
    clear hk ea
    have HO := Lib.hid ho
    clear ho
    have e1 : IntKind.i64.wrap (7 * (k : Int)) = 7 * (k : Int) := IntWalk.i64_in _ (by omega)
    have s0 : 0 ≤ 7 * (k : Int) := by omega
    have s1 : 7 * (k : Int) ≤ 64 := by omega
    have t1 : (7 * (k : Int)).toNat = 7 * k := by omega
    have hmx : Try.prog.follows .mixedOrders = true := by kernel_rfl
    gi_wp2
    refine wpIn_mono (Q := fun e b v => e = .normal ∧ b = { tmps := #[.slice A len cap, .int .i64 (i : Int), undef, undef, .int .u64 0, .int .i64 0, .int .u16 0, .pointer (some ⟨w.heap.size, 0, none⟩), .pointer (some ⟨w.heap.size + 1, 0, none⟩), .pointer (some ⟨w.heap.size + 1 + 1, 0, none⟩), .int .u8 (x.toNat : Int), .int .i64 (i : Int),
      .bool false, .bool false, .int .i64 (i : Int), .slice A len cap, .int .i64 (len : Int), .bool false, .bool false, .slice A len cap, .int .i64 (i : Int), .slice A' (len - i) (cap - i), .func (.func 66) #[] #[.pointer (some ⟨w.heap.size + 1 + 1 + 1, 0, none⟩)], .int .u8 (x.toNat : Int),
      .int .u64 (a : Int), .int .u8 (x.toNat : Int), .int .u8 (r : Int), .int .u64 (r : Int), .int .i64 (k : Int), .int .i64 (7 * (k : Int)), .int .u64 (s : Int), .int .u64 (o : Int),
      undef, undef, undef, undef, undef, undef, undef, undef, undef, undef, undef, undef, undef, undef, undef, undef, undef, undef, undef, undef, undef, undef, undef, undef], defers := [] } ∧ v = (W.setCell ⟨w.heap.size, 0, none⟩ (.int .u64 (o : Int))).drew) ?reg ?_
    case reg =>
      gi_region_o
      all_goals exact ⟨rfl, rfl, rfl⟩
    rintro _ _ _ ⟨rfl, rfl, rfl⟩
    have bN1 := hN.set (.int .u64 (o : Int))
    have bS1 := hS.other (B' := w.heap.size) (by omega) (.int .u64 (o : Int))
    have bE1 := hE.other (B' := w.heap.size) (by omega) (.int .u64 (o : Int))
    have cS1 := bS1.cell
    have zS1 := bS1.frozen
    have cE1 := bE1.cell
    have zE1 := bE1.frozen
    unfold fS at cS1
    rw [HK.out] at cS1
    clear cN zN cS zS cE zE e1 e2 e3 es eo s0 s1 t1 hmx
    by_cases hlo : x.toNat < 128
    · cases hend : endB k x.toNat
      · gi_wp2_with (refine ⟨trivial, ?_⟩; gi_at_call 65; refine (CallsIn.inRound l (ends_in x k (by omega) Fence.wide _ trivial rfl _)).mono ?_; rintro e w' ⟨rfl, rfl⟩)
        exact close_stop hN hS hE hB HK.out HO.out HA.out hp (by unfold errOf; rw [if_neg (by rw [hend]; simp)]) (.inl hlo)
      · gi_wp2_with (refine ⟨trivial, ?_⟩; gi_at_call 65; refine (CallsIn.inRound l (ends_in x k (by omega) Fence.wide _ trivial rfl _)).mono ?_; rintro e w' ⟨rfl, rfl⟩)
        exact close_stop hN hS hE hB HK.out HO.out HA.out hp (by unfold errOf; rw [if_pos ⟨hlo, hend⟩]) (.inl hlo)
    · by_cases h10 : k + 1 = 10
      · obtain rfl : k = 9 := by omega
        gi_wp2
        refine ⟨trivial, ?_⟩
        gi_wp2
        exact close_stop hN hS hE hB HK.out HO.out HA.out hp (by unfold errOf; rw [if_neg (by omega)]) (.inr rfl)
      · have h10' : ((k : Int) + 1 == 10) = false := by simp; omega
        gi_wp2
        refine ⟨trivial, ?_⟩
        gi_wp2
        exact close_go hN hS hE hB HK.out HO.out HA.out (by omega) (by omega)
  case done =>
    rintro D ys W hD hys ⟨⟨hN, hS, hE, hgo⟩, hB⟩ hK
    have hg : g = (0, 0, 10) := by
      rw [← HG.out, getAt_of (by rw [HL.out]; exact hi), ← HU.out, ← hys]
      have := scan_pre ys [] 0 0 hgo.2 (by have := hgo.1; omega)
      rw [List.append_nil] at this
      rw [this]; rfl
    subst hg
    have cE := hE.cell
    clear hys
    gi_wp2
    gi_quiet (fail)
    gi_wp2
    rw [Exit.noGoto_ret]
    refine ⟨by simp, .inl ⟨_, _, rfl, run_takeDeferred (w := W.drewN nq) hK, ?_⟩⟩
    exact ⟨_, results_tmp3 rfl _ _ _, rfl, (below_draws hB nq).trans (belowK_b (w := w) (Nat.le_refl _) (W.drewN nq) D _ _ (by omega) hK rfl rfl)⟩
  case stop =>
    rintro D c pre W hD ⟨k, hk, hpre⟩ ⟨⟨hN, hS, hE, hcc, ini, last, hpe, hgo, hlast⟩, hB⟩ hK
    subst hcc
    have hdrop : cs.drop i = pre ++ (cs.drop i).drop k := by
      have h1 : (cs.drop i).take k = pre := by
        rw [← HU.out, hpre]
        simp [upto, ← List.map_take, List.take_range, Nat.min_eq_left hk]
      rw [← h1, List.take_append_drop]
    have hscan := scan_pre ini ([last] ++ (cs.drop i).drop k) 0 0 hgo.2 (by have := hgo.1; omega)
    rw [← List.append_assoc, ← hpe, ← hdrop, Nat.zero_add, Nat.zero_add, Nat.pow_zero, Nat.mul_one] at hscan
    have hl10 := hgo.1
    have hplen : pre.length = ini.length + 1 := by rw [hpe]; simp
    by_cases hok : last.toNat < 128 ∧ endB ini.length last.toNat = true
    · have hsc : scan 0 0 (cs.drop i) = (val ini + last.toNat * 128 ^ ini.length, ini.length + 1, 0) := by
        rw [hscan]
        have h2 := hok.2
        unfold endB at h2
        simp only [List.cons_append, List.nil_append, scan]
        rw [if_pos hok.1, if_pos (of_decide_eq_true h2)]
      have hb := scan_inv _ 0 0 _ _ (by omega) hsc
      obtain ⟨m, _, e1, _, _, _, _, e2⟩ := hb
      have hvp : val pre = val ini + last.toNat * 128 ^ ini.length := by rw [hpe, val_snoc, Nat.mod_eq_of_lt hok.1]
      have hg : g = (val pre, i + pre.length, 0) := by
        rw [← HG.out, getAt_of (by rw [HL.out]; exact hi), hsc, hvp, hplen]; rfl
      have hvl : val pre < 18446744073709551616 := by rw [hvp, e1]; omega
      have eN : fN pre = .int .u64 (val pre : Int) := by unfold fN; rw [Nat.mod_eq_of_lt hvl]
      have eS : fS pre = .int .i64 (pre.length : Int) := rfl
      have eE : fE pre = .int .u16 0 := by unfold fE errOf; rw [hpe]; simp [hok.1, hok.2]
      rw [eN] at hN; rw [eS] at hS; rw [eE] at hE
      have cN := hN.cell
      have cS := hS.cell
      have cE := hE.cell
      have hpl : pre.length ≤ len - i := by rw [hpre, upto_length]; exact hk
      subst hg
      clear eN eS eE hvl hsc hvp e1 e2 hok hscan hdrop hpe hgo hlast hplen hpre hN hS hE bN bS bE bB hsl
      have ew : IntKind.i64.wrap ((i : Int) + (pre.length : Int)) = (i : Int) + (pre.length : Int) := IntWalk.i64_in _ (by omega)
      gi_wp2
      gi_quiet (fail)
      gi_wp2
      rw [Exit.noGoto_ret]
      refine ⟨by simp, .inl ⟨_, _, rfl, run_takeDeferred (w := W.drewN nq) hK, ?_⟩⟩
      exact ⟨_, results_tmp3 rfl _ _ _, by simp, (below_draws hB nq).trans (belowK_b (w := w) (Nat.le_refl _) (W.drewN nq) D _ _ (by omega) hK rfl rfl)⟩
    · have hsc : scan 0 0 (cs.drop i) = (0, 0, 31) := by
        rw [hscan]
        simp only [List.cons_append, List.nil_append, scan]
        by_cases h1 : last.toNat < 128
        · have h2 : ¬ (endB ini.length last.toNat = true) := fun h => hok ⟨h1, h⟩
          unfold endB at h2
          rw [if_pos h1, if_neg (fun h => h2 (decide_eq_true h))]
        · rw [if_neg h1, if_pos (by omega)]
      have hg : g = (0, 0, 31) := by
        rw [← HG.out, getAt_of (by rw [HL.out]; exact hi), hsc]; rfl
      have eE : fE pre = .int .u16 31 := by
        unfold fE errOf; rw [hpe]
        simp only [List.length_append, List.length_cons, List.length_nil, Nat.zero_add, Nat.add_sub_cancel, List.getLast?_append, List.getLast?_singleton, Option.some_or, Option.getD_some]
        rw [if_neg hok]; rfl
      rw [eE] at hE
      have cE := hE.cell
      subst hg
      clear eE hsc hok hscan hdrop hpe hgo hlast hplen hpre hN hS hE bN bS bE bB hsl
      gi_wp2
      gi_quiet (fail)
      gi_wp2
      rw [Exit.noGoto_ret]
      refine ⟨by simp, .inl ⟨_, _, rfl, run_takeDeferred (w := W.drewN nq) hK, ?_⟩⟩
      exact ⟨_, results_tmp3 rfl _ _ _, rfl, (below_draws hB nq).trans (belowK_b (w := w) (Nat.le_refl _) (W.drewN nq) D _ _ (by omega) hK rfl rfl)⟩

/-- **num.Get at every slice of bytes and every place.** -/
theorem get_any (A : Option Addr) (cs : List UInt8) (cap : Nat) (i : Int) (w : World) (hl : cs.length ≤ cap) (hcap : cap ≤ 9223372036854775807) (hr : Holds8 w.heap.size w A cs) :
    Calls Try.prog 60 #[.slice A cs.length cap, .int .i64 i] w fun e w' => e = .returned (.tuple #[.int .u64 ((getAt cs i).1 : Int), .int .i64 ((getAt cs i).2.1 : Int), .int .u16 ((getAt cs i).2.2 : Int)]) ∧ Below w.heap.size w w' := by
  refine (callsIn_wide (n := 3)).1 ?_
  by_cases h : i < 0 ∨ (cs.length : Int) < i
  · have hg : getAt cs i = (0, 0, 1) := by unfold getAt; rw [if_pos h]
    rw [hg]
    exact (get_arg A cs.length cap i w (by omega) h).mono fun e w' ⟨he, hw⟩ => ⟨he, hw ▸ Below.refl _ _⟩
  · obtain ⟨j, rfl⟩ : ∃ j : Nat, i = j := ⟨i.toNat, by omega⟩
    exact get_in A cs cap j w hl hcap (by omega) hr

end Go.Proofs.Ytklgggolkclebaa
