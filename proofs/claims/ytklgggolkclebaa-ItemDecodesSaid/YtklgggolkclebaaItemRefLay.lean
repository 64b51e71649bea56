/-
  What the document's own put (telemeterref03) does: a field laid into a span, its attributes a row of the call's own.
-/
import Derived.Deep.RegionHeld
import Derived.Laws.Rows
import Derived.Laws.CopyOwn
import Derived.Test.YtklgggolkclebaaItemRefFld
import Derived.Test.YtklgggolkclebaaItemReadSpan
import Derived.Test.YtklgggolkclebaaItemAttrOf
import Derived.Test.YtklgggolkclebaaRegionBut
namespace Go.Proofs.Ytklgggolkclebaa
open Go.RowKit Go.Proofs.NumMath Go.Proofs.ItemMath

def spC (S : Sp) (A : Option Addr) (n cap : Nat) : Array Value := #[.int .u64 (S.hi : Int), .int .u64 (S.lo : Int), .int .u64 (S.id : Int), .int .u64 (S.par : Int), .string S.name, .int .i64 S.start, .int .i64 S.stop, .bool S.bad, .slice A n cap, .int .u64 (S.rv : Int)]
def LaidF (S : Sp) (base : Nat) (A : Option Addr) (n cap : Nat) (w : World) (e : Ending) (w' : World) : Prop :=
  ∃ (A' : Option Addr) (n' c' : Nat), e = .returned (.agg (spC S A' n' c')) ∧ S.attrs.length = n' ∧ n' ≤ n + 1 ∧ w'.ownsRow base 36 2 (.slice A' n' c') n' (aCells S.attrs) ∧ Kept w w' (fun b => (Value.slice A n cap).ownBlock = some b)
theorem last3 (w : World) (a b c : Obj) : (((w.alloc a).alloc b).alloc c).heap[w.heap.size + 1 + 1]? = some c := by
  have h := heap_alloc_new ((w.alloc a).alloc b) c
  rw [World.size_alloc, World.size_alloc] at h
  exact h
theorem keep3 (w : World) (a b c : Obj) : Below w.heap.size w (((w.alloc a).alloc b).alloc c) :=
  (((Below.refl _ w).alloc (Nat.le_refl _) a).alloc (by rw [World.size_alloc]; omega) b).alloc (by rw [World.size_alloc, World.size_alloc]; omega) c
theorem attr_ok {t : List UInt8} {s : List UInt8} {up e : Nat} (h : getText t 0 60 = (s, up, e)) : pairOf (attrOf t) = (bytesOf s, bytesOf (t.drop up)) := by
  unfold attrOf pairOf
  rw [h]


set_option linter.unusedSimpArgs false in
set_option linter.unusedVariables false in
set_option maxRecDepth 100000 in
set_option maxHeartbeats 4000000 in
theorem refLay_1 (hi lo id par rv : Nat) (name : ByteArray) (start stop : Int) (bad : Bool) (A : Option Addr) (l : List Attr) (n cap base : Nat) (no tx fn : Nat) (fs : ByteArray) (w : World) (hf : fn < 18446744073709551616) (hfs : fs.size ≤ 4096) (hl : l.length = n) (hnb : n ≤ 100000) (hbase : base ≤ w.heap.size) (ho : w.ownsRow base 36 2 (.slice A n cap) n (aCells l)) (hno : no = 1) :
    Calls Try.prog 47 #[.agg #[.int .u64 (hi : Int), .int .u64 (lo : Int), .int .u64 (id : Int), .int .u64 (par : Int), .string name, .int .i64 start, .int .i64 stop, .bool bad, .slice A n cap, .int .u64 (rv : Int)], .agg #[.int .u64 (no : Int), .int .i64 (tx : Int), .int .u64 (fn : Int), .string fs]] w (LaidF (putSp ⟨hi, lo, id, par, name, start, stop, bad, l, rv⟩ ⟨no, tx, fn, fs⟩) base A n cap w) := by
  subst hno
  have hp : putSp ⟨hi, lo, id, par, name, start, stop, bad, l, rv⟩ ⟨1, tx, fn, fs⟩ = ⟨fn, lo, id, par, name, start, stop, bad, l, rv⟩ := rfl
  rw [hp]
  clear hp
  have HO := Lib.hid ho
  have HL := Lib.hid hl
  clear ho hl
  go_enter Try.func47, Try.ntmps47
  go_wp2_with fail
  (try simp only [Exit.inBlock, Exit.then])
  refine bodyPost_ret (results_cell_row rfl _ _ (w.heap.size + 1 + 1) 26 _ _ _ rfl (last3 w _ _ _) Try.underlying26 rfl (by kernel_rfl)) rfl ?_
  exact ⟨A, n, cap, rfl, HL.out, by omega, own_laterN HO.out (keep3 w _ _ _), Kept.of_below (keep3 w _ _ _) _⟩


set_option linter.unusedSimpArgs false in
set_option linter.unusedVariables false in
set_option maxRecDepth 100000 in
set_option maxHeartbeats 4000000 in
theorem refLay_2 (hi lo id par rv : Nat) (name : ByteArray) (start stop : Int) (bad : Bool) (A : Option Addr) (l : List Attr) (n cap base : Nat) (no tx fn : Nat) (fs : ByteArray) (w : World) (hf : fn < 18446744073709551616) (hfs : fs.size ≤ 4096) (hl : l.length = n) (hnb : n ≤ 100000) (hbase : base ≤ w.heap.size) (ho : w.ownsRow base 36 2 (.slice A n cap) n (aCells l)) (hno : no = 2) :
    Calls Try.prog 47 #[.agg #[.int .u64 (hi : Int), .int .u64 (lo : Int), .int .u64 (id : Int), .int .u64 (par : Int), .string name, .int .i64 start, .int .i64 stop, .bool bad, .slice A n cap, .int .u64 (rv : Int)], .agg #[.int .u64 (no : Int), .int .i64 (tx : Int), .int .u64 (fn : Int), .string fs]] w (LaidF (putSp ⟨hi, lo, id, par, name, start, stop, bad, l, rv⟩ ⟨no, tx, fn, fs⟩) base A n cap w) := by
  subst hno
  have hp : putSp ⟨hi, lo, id, par, name, start, stop, bad, l, rv⟩ ⟨2, tx, fn, fs⟩ = ⟨hi, fn, id, par, name, start, stop, bad, l, rv⟩ := rfl
  rw [hp]
  clear hp
  have HO := Lib.hid ho
  have HL := Lib.hid hl
  clear ho hl
  go_enter Try.func47, Try.ntmps47
  go_wp2_with fail
  (try simp only [Exit.inBlock, Exit.then])
  refine bodyPost_ret (results_cell_row rfl _ _ (w.heap.size + 1 + 1) 26 _ _ _ rfl (last3 w _ _ _) Try.underlying26 rfl (by kernel_rfl)) rfl ?_
  exact ⟨A, n, cap, rfl, HL.out, by omega, own_laterN HO.out (keep3 w _ _ _), Kept.of_below (keep3 w _ _ _) _⟩


set_option linter.unusedSimpArgs false in
set_option linter.unusedVariables false in
set_option maxRecDepth 100000 in
set_option maxHeartbeats 4000000 in
theorem refLay_3 (hi lo id par rv : Nat) (name : ByteArray) (start stop : Int) (bad : Bool) (A : Option Addr) (l : List Attr) (n cap base : Nat) (no tx fn : Nat) (fs : ByteArray) (w : World) (hf : fn < 18446744073709551616) (hfs : fs.size ≤ 4096) (hl : l.length = n) (hnb : n ≤ 100000) (hbase : base ≤ w.heap.size) (ho : w.ownsRow base 36 2 (.slice A n cap) n (aCells l)) (hno : no = 3) :
    Calls Try.prog 47 #[.agg #[.int .u64 (hi : Int), .int .u64 (lo : Int), .int .u64 (id : Int), .int .u64 (par : Int), .string name, .int .i64 start, .int .i64 stop, .bool bad, .slice A n cap, .int .u64 (rv : Int)], .agg #[.int .u64 (no : Int), .int .i64 (tx : Int), .int .u64 (fn : Int), .string fs]] w (LaidF (putSp ⟨hi, lo, id, par, name, start, stop, bad, l, rv⟩ ⟨no, tx, fn, fs⟩) base A n cap w) := by
  subst hno
  have hp : putSp ⟨hi, lo, id, par, name, start, stop, bad, l, rv⟩ ⟨3, tx, fn, fs⟩ = ⟨hi, lo, fn, par, name, start, stop, bad, l, rv⟩ := rfl
  rw [hp]
  clear hp
  have HO := Lib.hid ho
  have HL := Lib.hid hl
  clear ho hl
  go_enter Try.func47, Try.ntmps47
  go_wp2_with fail
  (try simp only [Exit.inBlock, Exit.then])
  refine bodyPost_ret (results_cell_row rfl _ _ (w.heap.size + 1 + 1) 26 _ _ _ rfl (last3 w _ _ _) Try.underlying26 rfl (by kernel_rfl)) rfl ?_
  exact ⟨A, n, cap, rfl, HL.out, by omega, own_laterN HO.out (keep3 w _ _ _), Kept.of_below (keep3 w _ _ _) _⟩


set_option linter.unusedSimpArgs false in
set_option linter.unusedVariables false in
set_option maxRecDepth 100000 in
set_option maxHeartbeats 4000000 in
theorem refLay_4 (hi lo id par rv : Nat) (name : ByteArray) (start stop : Int) (bad : Bool) (A : Option Addr) (l : List Attr) (n cap base : Nat) (no tx fn : Nat) (fs : ByteArray) (w : World) (hf : fn < 18446744073709551616) (hfs : fs.size ≤ 4096) (hl : l.length = n) (hnb : n ≤ 100000) (hbase : base ≤ w.heap.size) (ho : w.ownsRow base 36 2 (.slice A n cap) n (aCells l)) (hno : no = 4) :
    Calls Try.prog 47 #[.agg #[.int .u64 (hi : Int), .int .u64 (lo : Int), .int .u64 (id : Int), .int .u64 (par : Int), .string name, .int .i64 start, .int .i64 stop, .bool bad, .slice A n cap, .int .u64 (rv : Int)], .agg #[.int .u64 (no : Int), .int .i64 (tx : Int), .int .u64 (fn : Int), .string fs]] w (LaidF (putSp ⟨hi, lo, id, par, name, start, stop, bad, l, rv⟩ ⟨no, tx, fn, fs⟩) base A n cap w) := by
  subst hno
  have hp : putSp ⟨hi, lo, id, par, name, start, stop, bad, l, rv⟩ ⟨4, tx, fn, fs⟩ = ⟨hi, lo, id, fn, name, start, stop, bad, l, rv⟩ := rfl
  rw [hp]
  clear hp
  have HO := Lib.hid ho
  have HL := Lib.hid hl
  clear ho hl
  go_enter Try.func47, Try.ntmps47
  go_wp2_with fail
  (try simp only [Exit.inBlock, Exit.then])
  refine bodyPost_ret (results_cell_row rfl _ _ (w.heap.size + 1 + 1) 26 _ _ _ rfl (last3 w _ _ _) Try.underlying26 rfl (by kernel_rfl)) rfl ?_
  exact ⟨A, n, cap, rfl, HL.out, by omega, own_laterN HO.out (keep3 w _ _ _), Kept.of_below (keep3 w _ _ _) _⟩


set_option linter.unusedSimpArgs false in
set_option linter.unusedVariables false in
set_option maxRecDepth 100000 in
set_option maxHeartbeats 4000000 in
theorem refLay_5 (hi lo id par rv : Nat) (name : ByteArray) (start stop : Int) (bad : Bool) (A : Option Addr) (l : List Attr) (n cap base : Nat) (no tx fn : Nat) (fs : ByteArray) (w : World) (hf : fn < 18446744073709551616) (hfs : fs.size ≤ 4096) (hl : l.length = n) (hnb : n ≤ 100000) (hbase : base ≤ w.heap.size) (ho : w.ownsRow base 36 2 (.slice A n cap) n (aCells l)) (hno : no = 5) :
    Calls Try.prog 47 #[.agg #[.int .u64 (hi : Int), .int .u64 (lo : Int), .int .u64 (id : Int), .int .u64 (par : Int), .string name, .int .i64 start, .int .i64 stop, .bool bad, .slice A n cap, .int .u64 (rv : Int)], .agg #[.int .u64 (no : Int), .int .i64 (tx : Int), .int .u64 (fn : Int), .string fs]] w (LaidF (putSp ⟨hi, lo, id, par, name, start, stop, bad, l, rv⟩ ⟨no, tx, fn, fs⟩) base A n cap w) := by
  subst hno
  have hp : putSp ⟨hi, lo, id, par, name, start, stop, bad, l, rv⟩ ⟨5, tx, fn, fs⟩ = ⟨hi, lo, id, par, fs, start, stop, bad, l, rv⟩ := rfl
  rw [hp]
  clear hp
  have HO := Lib.hid ho
  have HL := Lib.hid hl
  clear ho hl
  go_enter Try.func47, Try.ntmps47
  go_wp2_with fail
  (try simp only [Exit.inBlock, Exit.then])
  refine bodyPost_ret (results_cell_row rfl _ _ (w.heap.size + 1 + 1) 26 _ _ _ rfl (last3 w _ _ _) Try.underlying26 rfl (by kernel_rfl)) rfl ?_
  exact ⟨A, n, cap, rfl, HL.out, by omega, own_laterN HO.out (keep3 w _ _ _), Kept.of_below (keep3 w _ _ _) _⟩


set_option linter.unusedSimpArgs false in
set_option linter.unusedVariables false in
set_option maxRecDepth 100000 in
set_option maxHeartbeats 4000000 in
theorem refLay_6 (hi lo id par rv : Nat) (name : ByteArray) (start stop : Int) (bad : Bool) (A : Option Addr) (l : List Attr) (n cap base : Nat) (no tx fn : Nat) (fs : ByteArray) (w : World) (hf : fn < 18446744073709551616) (hfs : fs.size ≤ 4096) (hl : l.length = n) (hnb : n ≤ 100000) (hbase : base ≤ w.heap.size) (ho : w.ownsRow base 36 2 (.slice A n cap) n (aCells l)) (hno : no = 6) :
    Calls Try.prog 47 #[.agg #[.int .u64 (hi : Int), .int .u64 (lo : Int), .int .u64 (id : Int), .int .u64 (par : Int), .string name, .int .i64 start, .int .i64 stop, .bool bad, .slice A n cap, .int .u64 (rv : Int)], .agg #[.int .u64 (no : Int), .int .i64 (tx : Int), .int .u64 (fn : Int), .string fs]] w (LaidF (putSp ⟨hi, lo, id, par, name, start, stop, bad, l, rv⟩ ⟨no, tx, fn, fs⟩) base A n cap w) := by
  subst hno
  have hp : putSp ⟨hi, lo, id, par, name, start, stop, bad, l, rv⟩ ⟨6, tx, fn, fs⟩ = ⟨hi, lo, id, par, name, i64 fn, stop, bad, l, rv⟩ := rfl
  rw [hp]
  clear hp
  obtain ⟨t, ht⟩ : ∃ t, i64 fn = t := ⟨_, rfl⟩
  have hw : IntKind.i64.wrap (fn : Int) = t := by rw [i64_wrap hf, ht]
  rw [ht]
  clear ht
  have HO := Lib.hid ho
  have HL := Lib.hid hl
  clear ho hl
  go_enter Try.func47, Try.ntmps47
  go_wp2_with fail
  (try simp only [Exit.inBlock, Exit.then])
  refine bodyPost_ret (results_cell_row rfl _ _ (w.heap.size + 1 + 1) 26 _ _ _ rfl (last3 w _ _ _) Try.underlying26 rfl (by kernel_rfl)) rfl ?_
  exact ⟨A, n, cap, rfl, HL.out, by omega, own_laterN HO.out (keep3 w _ _ _), Kept.of_below (keep3 w _ _ _) _⟩


set_option linter.unusedSimpArgs false in
set_option linter.unusedVariables false in
set_option maxRecDepth 100000 in
set_option maxHeartbeats 4000000 in
theorem refLay_7 (hi lo id par rv : Nat) (name : ByteArray) (start stop : Int) (bad : Bool) (A : Option Addr) (l : List Attr) (n cap base : Nat) (no tx fn : Nat) (fs : ByteArray) (w : World) (hf : fn < 18446744073709551616) (hfs : fs.size ≤ 4096) (hl : l.length = n) (hnb : n ≤ 100000) (hbase : base ≤ w.heap.size) (ho : w.ownsRow base 36 2 (.slice A n cap) n (aCells l)) (hno : no = 7) :
    Calls Try.prog 47 #[.agg #[.int .u64 (hi : Int), .int .u64 (lo : Int), .int .u64 (id : Int), .int .u64 (par : Int), .string name, .int .i64 start, .int .i64 stop, .bool bad, .slice A n cap, .int .u64 (rv : Int)], .agg #[.int .u64 (no : Int), .int .i64 (tx : Int), .int .u64 (fn : Int), .string fs]] w (LaidF (putSp ⟨hi, lo, id, par, name, start, stop, bad, l, rv⟩ ⟨no, tx, fn, fs⟩) base A n cap w) := by
  subst hno
  have hp : putSp ⟨hi, lo, id, par, name, start, stop, bad, l, rv⟩ ⟨7, tx, fn, fs⟩ = ⟨hi, lo, id, par, name, start, i64 fn, bad, l, rv⟩ := rfl
  rw [hp]
  clear hp
  obtain ⟨t, ht⟩ : ∃ t, i64 fn = t := ⟨_, rfl⟩
  have hw : IntKind.i64.wrap (fn : Int) = t := by rw [i64_wrap hf, ht]
  rw [ht]
  clear ht
  have HO := Lib.hid ho
  have HL := Lib.hid hl
  clear ho hl
  go_enter Try.func47, Try.ntmps47
  go_wp2_with fail
  (try simp only [Exit.inBlock, Exit.then])
  refine bodyPost_ret (results_cell_row rfl _ _ (w.heap.size + 1 + 1) 26 _ _ _ rfl (last3 w _ _ _) Try.underlying26 rfl (by kernel_rfl)) rfl ?_
  exact ⟨A, n, cap, rfl, HL.out, by omega, own_laterN HO.out (keep3 w _ _ _), Kept.of_below (keep3 w _ _ _) _⟩


set_option linter.unusedSimpArgs false in
set_option linter.unusedVariables false in
set_option maxRecDepth 100000 in
set_option maxHeartbeats 4000000 in
theorem refLay_8 (hi lo id par rv : Nat) (name : ByteArray) (start stop : Int) (bad : Bool) (A : Option Addr) (l : List Attr) (n cap base : Nat) (no tx fn : Nat) (fs : ByteArray) (w : World) (hf : fn < 18446744073709551616) (hfs : fs.size ≤ 4096) (hl : l.length = n) (hnb : n ≤ 100000) (hbase : base ≤ w.heap.size) (ho : w.ownsRow base 36 2 (.slice A n cap) n (aCells l)) (hno : no = 8) :
    Calls Try.prog 47 #[.agg #[.int .u64 (hi : Int), .int .u64 (lo : Int), .int .u64 (id : Int), .int .u64 (par : Int), .string name, .int .i64 start, .int .i64 stop, .bool bad, .slice A n cap, .int .u64 (rv : Int)], .agg #[.int .u64 (no : Int), .int .i64 (tx : Int), .int .u64 (fn : Int), .string fs]] w (LaidF (putSp ⟨hi, lo, id, par, name, start, stop, bad, l, rv⟩ ⟨no, tx, fn, fs⟩) base A n cap w) := by
  subst hno
  have hp : putSp ⟨hi, lo, id, par, name, start, stop, bad, l, rv⟩ ⟨8, tx, fn, fs⟩ = ⟨hi, lo, id, par, name, start, stop, decide (fn = 1), l, rv⟩ := rfl
  rw [hp]
  clear hp
  obtain ⟨t, ht⟩ : ∃ t, decide (fn = 1) = t := ⟨_, rfl⟩
  have hw : ((fn : Int) == 1) = t := by rw [← ht]; by_cases h : fn = 1; (subst h; rfl); (simp [h]; omega)
  rw [ht]
  clear ht
  have HO := Lib.hid ho
  have HL := Lib.hid hl
  clear ho hl
  go_enter Try.func47, Try.ntmps47
  go_wp2_with fail
  (try simp only [Exit.inBlock, Exit.then])
  refine bodyPost_ret (results_cell_row rfl _ _ (w.heap.size + 1 + 1) 26 _ _ _ rfl (last3 w _ _ _) Try.underlying26 rfl (by kernel_rfl)) rfl ?_
  exact ⟨A, n, cap, rfl, HL.out, by omega, own_laterN HO.out (keep3 w _ _ _), Kept.of_below (keep3 w _ _ _) _⟩


set_option linter.unusedSimpArgs false in
set_option linter.unusedVariables false in
set_option maxRecDepth 100000 in
set_option maxHeartbeats 4000000 in
theorem refLay_9 (hi lo id par rv : Nat) (name : ByteArray) (start stop : Int) (bad : Bool) (A : Option Addr) (l : List Attr) (n cap base : Nat) (no tx fn : Nat) (fs : ByteArray) (w : World) (hf : fn < 18446744073709551616) (hfs : fs.size ≤ 4096) (hl : l.length = n) (hnb : n ≤ 100000) (hbase : base ≤ w.heap.size) (ho : w.ownsRow base 36 2 (.slice A n cap) n (aCells l)) (hno : no = 9) :
    Calls Try.prog 47 #[.agg #[.int .u64 (hi : Int), .int .u64 (lo : Int), .int .u64 (id : Int), .int .u64 (par : Int), .string name, .int .i64 start, .int .i64 stop, .bool bad, .slice A n cap, .int .u64 (rv : Int)], .agg #[.int .u64 (no : Int), .int .i64 (tx : Int), .int .u64 (fn : Int), .string fs]] w (LaidF (putSp ⟨hi, lo, id, par, name, start, stop, bad, l, rv⟩ ⟨no, tx, fn, fs⟩) base A n cap w) := by
  subst hno
  have hp : putSp ⟨hi, lo, id, par, name, start, stop, bad, l, rv⟩ ⟨9, tx, fn, fs⟩ = ⟨hi, lo, id, par, name, start, stop, bad, l, fn⟩ := rfl
  rw [hp]
  clear hp
  have HO := Lib.hid ho
  have HL := Lib.hid hl
  clear ho hl
  go_enter Try.func47, Try.ntmps47
  go_wp2_with fail
  (try simp only [Exit.inBlock, Exit.then])
  refine bodyPost_ret (results_cell_row rfl _ _ (w.heap.size + 1 + 1) 26 _ _ _ rfl (last3 w _ _ _) Try.underlying26 rfl (by kernel_rfl)) rfl ?_
  exact ⟨A, n, cap, rfl, HL.out, by omega, own_laterN HO.out (keep3 w _ _ _), Kept.of_below (keep3 w _ _ _) _⟩


set_option linter.unusedSimpArgs false in
set_option linter.unusedVariables false in
set_option maxRecDepth 100000 in
set_option maxHeartbeats 4000000 in
theorem refLay_other (hi lo id par rv : Nat) (name : ByteArray) (start stop : Int) (bad : Bool) (A : Option Addr) (l : List Attr) (n cap base : Nat) (no tx fn : Nat) (fs : ByteArray) (w : World) (hf : fn < 18446744073709551616) (hfs : fs.size ≤ 4096) (hl : l.length = n) (hnb : n ≤ 100000) (hbase : base ≤ w.heap.size) (ho : w.ownsRow base 36 2 (.slice A n cap) n (aCells l)) (hno : no = 0 ∨ 10 < no) :
    Calls Try.prog 47 #[.agg #[.int .u64 (hi : Int), .int .u64 (lo : Int), .int .u64 (id : Int), .int .u64 (par : Int), .string name, .int .i64 start, .int .i64 stop, .bool bad, .slice A n cap, .int .u64 (rv : Int)], .agg #[.int .u64 (no : Int), .int .i64 (tx : Int), .int .u64 (fn : Int), .string fs]] w (LaidF (putSp ⟨hi, lo, id, par, name, start, stop, bad, l, rv⟩ ⟨no, tx, fn, fs⟩) base A n cap w) := by
  have hp : putSp ⟨hi, lo, id, par, name, start, stop, bad, l, rv⟩ ⟨no, tx, fn, fs⟩ = ⟨hi, lo, id, par, name, start, stop, bad, l, rv⟩ := by
    unfold putSp
    dsimp only
    rw [if_neg (by omega), if_neg (by omega), if_neg (by omega), if_neg (by omega), if_neg (by omega), if_neg (by omega), if_neg (by omega), if_neg (by omega), if_neg (by omega), if_neg (by omega)]
  rw [hp]
  clear hp
  have d1 : ((no : Int) == 1) = false := by rw [beq_eq_false_iff_ne]; omega
  have d2 : ((no : Int) == 2) = false := by rw [beq_eq_false_iff_ne]; omega
  have d3 : ((no : Int) == 3) = false := by rw [beq_eq_false_iff_ne]; omega
  have d4 : ((no : Int) == 4) = false := by rw [beq_eq_false_iff_ne]; omega
  have d5 : ((no : Int) == 5) = false := by rw [beq_eq_false_iff_ne]; omega
  have d6 : ((no : Int) == 6) = false := by rw [beq_eq_false_iff_ne]; omega
  have d7 : ((no : Int) == 7) = false := by rw [beq_eq_false_iff_ne]; omega
  have d8 : ((no : Int) == 8) = false := by rw [beq_eq_false_iff_ne]; omega
  have d9 : ((no : Int) == 9) = false := by rw [beq_eq_false_iff_ne]; omega
  have d10 : ((no : Int) == 10) = false := by rw [beq_eq_false_iff_ne]; omega
  have HO := Lib.hid ho
  have HL := Lib.hid hl
  clear ho hl hno
  go_enter Try.func47, Try.ntmps47
  go_wp2_with fail
  (try simp only [Exit.inBlock, Exit.then])
  refine bodyPost_ret (results_cell_row rfl _ _ (w.heap.size + 1 + 1) 26 _ _ _ rfl (last3 w _ _ _) Try.underlying26 rfl (by kernel_rfl)) rfl ?_
  exact ⟨A, n, cap, rfl, HL.out, by omega, own_laterN HO.out (keep3 w _ _ _), Kept.of_below (keep3 w _ _ _) _⟩

theorem cell_alloc_below' (w : World) (o : Obj) (a : Addr) (h : a.block < w.heap.size) : (w.alloc o).cell? a = w.cell? a := World.cell?_alloc_lt w o a h
theorem kept_grownN {w w' : World} {row : Option Nat} (h : w.grownBy w' row) : Kept w w' (fun b => row = some b) :=
  ⟨h.os, h.tape, h.output, h.size, fun b hb hr => h.block b hb (fun e => hr e.symm)⟩
theorem kept_new {w w' : World} {may : Nat → Prop} (h : Kept w w' may) (g : Nat) (hg : w.heap.size ≤ g) (u : Value) (j : Nat) : Kept w (w'.setCell ⟨g, j, none⟩ u) may :=
  ⟨h.os, h.tape, h.output, by rw [World.size_setCell]; exact h.size, fun b hb hr => (Below.heap_setCell w' ⟨g, j, none⟩ u b (by show b ≠ g; omega)).trans (h.block b hb hr)⟩
theorem kept_row {w w' : World} {may : Nat → Prop} (h : Kept w w' may) (g : Nat) (hg : w.heap.size ≤ g) (C : Array Value) : Kept w (w'.setRow g C) may :=
  ⟨h.os, h.tape, h.output, by simp [World.setRow]; exact h.size, fun b hb hr => (setRow_other w' g b C (by omega)).trans (h.block b hb hr)⟩
theorem own_setRow {base k g : Nat} {w : World} {e T : TypeId} {v : Value} {n : Nat} {xs : List Value} {C : Array Value} (ho : w.ownsRow base e k v n xs) (hb : Blk w g C T) (hT : e ≠ T) (C' : Array Value) : (w.setRow g C').ownsRow base e k v n xs :=
  ho.kept (row := some g) ⟨rfl, rfl, rfl, by simp [World.setRow], fun i hi h => setRow_other w g i C' (fun e => h (by rw [e]))⟩ (by
    have := own_apartN ho hb hT
    cases hv : v.ownBlock <;> simp_all)


set_option linter.unusedSimpArgs false in
set_option linter.unusedVariables false in
set_option maxRecDepth 100000 in
set_option maxHeartbeats 4000000 in
theorem refLay_ten_no (hi lo id par rv : Nat) (name : ByteArray) (start stop : Int) (bad : Bool) (A : Option Addr) (l : List Attr) (n cap base : Nat) (no tx fn : Nat) (fs : ByteArray) (w : World) (hf : fn < 18446744073709551616) (hfs : fs.size ≤ 4096) (hl : l.length = n) (hnb : n ≤ 100000) (hbase : base ≤ w.heap.size) (ho : w.ownsRow base 36 2 (.slice A n cap) n (aCells l)) (hno : no = 10 ∧ (getText fs.data.toList 0 60).2.2 ≠ 0) :
    Calls Try.prog 47 #[.agg #[.int .u64 (hi : Int), .int .u64 (lo : Int), .int .u64 (id : Int), .int .u64 (par : Int), .string name, .int .i64 start, .int .i64 stop, .bool bad, .slice A n cap, .int .u64 (rv : Int)], .agg #[.int .u64 (no : Int), .int .i64 (tx : Int), .int .u64 (fn : Int), .string fs]] w (LaidF (putSp ⟨hi, lo, id, par, name, start, stop, bad, l, rv⟩ ⟨no, tx, fn, fs⟩) base A n cap w) := by
  obtain ⟨rfl, hno⟩ := hno
  obtain ⟨X, hX⟩ : ∃ X, (((w.alloc (.cells #[.int .u64 (hi : Int), .int .u64 (lo : Int), .int .u64 (id : Int), .int .u64 (par : Int), .string name, .int .i64 start, .int .i64 stop, .bool bad, .slice A n cap, .int .u64 (rv : Int)] 26)).alloc (.cells #[.int .u64 10, .int .i64 (tx : Int), .int .u64 (fn : Int), .string fs] 89)).alloc (.cells #[.int .u64 0, .int .u64 0, .int .u64 0, .int .u64 0, .string ⟨#[]⟩, .int .i64 0, .int .i64 0, .bool false, .slice none 0 0, .int .u64 0] 26)) = X := ⟨_, rfl⟩
  have hbX : Below w.heap.size w X := by rw [← hX]; exact keep3 w _ _ _
  have hXs : X.heap.size = w.heap.size + 1 + 1 + 1 := by rw [← hX]; simp
  have hS : Blk X w.heap.size #[.int .u64 (hi : Int), .int .u64 (lo : Int), .int .u64 (id : Int), .int .u64 (par : Int), .string name, .int .i64 start, .int .i64 stop, .bool bad, .slice A n cap, .int .u64 (rv : Int)] 26 := by
    rw [← hX]
    exact ((blk_new w _ _).same (Below.heap_alloc _ _ _ (by rw [World.size_alloc]; omega))).same (Below.heap_alloc _ _ _ (by rw [World.size_alloc, World.size_alloc]; omega))
  have hFb : Blk X (w.heap.size + 1) #[.int .u64 10, .int .i64 (tx : Int), .int .u64 (fn : Int), .string fs] 89 := by
    rw [← hX]
    have := blk_new (w.alloc (.cells #[.int .u64 (hi : Int), .int .u64 (lo : Int), .int .u64 (id : Int), .int .u64 (par : Int), .string name, .int .i64 start, .int .i64 stop, .bool bad, .slice A n cap, .int .u64 (rv : Int)] 26)) #[.int .u64 10, .int .i64 (tx : Int), .int .u64 (fn : Int), .string fs] 89
    rw [World.size_alloc] at this
    exact this.same (Below.heap_alloc _ _ _ (by rw [World.size_alloc, World.size_alloc]; omega))
  have hZb : Blk X (w.heap.size + 1 + 1) #[.int .u64 0, .int .u64 0, .int .u64 0, .int .u64 0, .string ⟨#[]⟩, .int .i64 0, .int .i64 0, .bool false, .slice none 0 0, .int .u64 0] 26 := by rw [← hX]; exact last3 w _ _ _
  obtain ⟨tc, w1, hcv, hc1, hc2, hB1, _, hH1⟩ := text_bytes2 fs X (by omega)
  have hll : fs.data.toList.length = fs.size := by simp
  have hup := getText_up fs.data.toList 0 60
  have hG := refGetText_any (some ⟨X.heap.size, 0, none⟩) fs.data.toList tc 0 60 w1 (by rw [hll]; exact hc1) hc2 (by omega) hH1
  rw [hll] at hG hup
  obtain ⟨g, hg⟩ : ∃ g, getText fs.data.toList 0 60 = g := ⟨_, rfl⟩
  rw [hg] at hG hup hno
  obtain ⟨t, up, e0⟩ := g
  dsimp only at hG hup hno
  obtain ⟨key, hkey⟩ : ∃ k, bytesOf t = k := ⟨_, rfl⟩
  have hp : putSp ⟨hi, lo, id, par, name, start, stop, bad, l, rv⟩ ⟨10, tx, fn, fs⟩ = ⟨hi, lo, id, par, name, start, stop, bad, l, rv⟩ := by
    show (if (getText fs.data.toList 0 60).2.2 = 0 then _ else _) = _
    rw [hg, if_neg hno]
  have d0 : ((e0 : Int) == 0) = false := by rw [beq_eq_false_iff_ne]; omega
  rw [hp]
  clear hp
  have hG' : Calls Try.prog 56 #[.slice (some ⟨X.heap.size, 0, none⟩) fs.size tc, .int .i64 0, .int .i64 60] w1 fun e W' => e = .returned (.tuple #[.string key, .int .i64 (up : Int), .int .i64 (e0 : Int)]) ∧ Below w1.heap.size w1 W' := by
    rw [← hkey]; exact hG
  have HG := Lib.hid hG'
  have HB1 := Lib.hid (hbX.trans (hB1.mono hbX.size))
  have HS1 := Lib.hid (hS.same (hB1.block _ hS.lt))
  have HF1 := Lib.hid (hFb.same (hB1.block _ hFb.lt))
  have HZ1 := Lib.hid (hZb.same (hB1.block _ hZb.lt))
  have x0 : X.cell? ⟨w.heap.size + 1, 0, none⟩ = some (.int .u64 10) := hFb.cell 0 rfl
  have x3 : X.cell? ⟨w.heap.size + 1, 3, none⟩ = some (.string fs) := hFb.cell 3 rfl
  have HO := Lib.hid ho
  have HL := Lib.hid hl
  clear hG hG' hg hkey hH1 hS hFb hZb hbX hB1 hll ho hl hXs hno
  go_enter Try.func47, Try.ntmps47
  go_wp2_with fail
  refine HG.out.mono ?_
  rintro e w2 ⟨rfl, hb2⟩
  have HB2 := Lib.hid (HB1.out.trans (hb2.mono HB1.out.size))
  have HS2 := Lib.hid (HS1.out.same (hb2.block _ HS1.out.lt))
  have HF2 := Lib.hid (HF1.out.same (hb2.block _ HF1.out.lt))
  have HZ2 := Lib.hid (HZ1.out.same (hb2.block _ HZ1.out.lt))
  clear hb2 HG
  have r0 : w2.cell? ⟨w.heap.size, 0, none⟩ = some (.int .u64 (hi : Int)) := HS2.out.cell 0 rfl
  have r1 : w2.cell? ⟨w.heap.size, 1, none⟩ = some (.int .u64 (lo : Int)) := HS2.out.cell 1 rfl
  have r2 : w2.cell? ⟨w.heap.size, 2, none⟩ = some (.int .u64 (id : Int)) := HS2.out.cell 2 rfl
  have r3 : w2.cell? ⟨w.heap.size, 3, none⟩ = some (.int .u64 (par : Int)) := HS2.out.cell 3 rfl
  have r4 : w2.cell? ⟨w.heap.size, 4, none⟩ = some (.string name) := HS2.out.cell 4 rfl
  have r5 : w2.cell? ⟨w.heap.size, 5, none⟩ = some (.int .i64 start) := HS2.out.cell 5 rfl
  have r6 : w2.cell? ⟨w.heap.size, 6, none⟩ = some (.int .i64 stop) := HS2.out.cell 6 rfl
  have r7 : w2.cell? ⟨w.heap.size, 7, none⟩ = some (.bool bad) := HS2.out.cell 7 rfl
  have r8 : w2.cell? ⟨w.heap.size, 8, none⟩ = some (.slice A n cap) := HS2.out.cell 8 rfl
  have r9 : w2.cell? ⟨w.heap.size, 9, none⟩ = some (.int .u64 (rv : Int)) := HS2.out.cell 9 rfl
  go_wp2_with (refine wpList_store_row rfl 26 (.tmp 4) (.tmp 81) rfl (w.heap.size + 1 + 1) #[.int .u64 (hi : Int), .int .u64 (lo : Int), .int .u64 (id : Int), .int .u64 (par : Int), .string name, .int .i64 start, .int .i64 stop, .bool bad, .slice A n cap, .int .u64 (rv : Int)] rfl rfl 26 #[.int .u64 0, .int .u64 0, .int .u64 0, .int .u64 0, .string ⟨#[]⟩, .int .i64 0, .int .i64 0, .bool false, .slice none 0 0, .int .u64 0] HZ2.out (by kernel_rfl) rfl (by simp [Value.oneCell']) ?_)
  (try simp only [Exit.inBlock, Exit.then])
  have hbf : Below w.heap.size w (w2.setRow (w.heap.size + 1 + 1) #[.int .u64 (hi : Int), .int .u64 (lo : Int), .int .u64 (id : Int), .int .u64 (par : Int), .string name, .int .i64 start, .int .i64 stop, .bool bad, .slice A n cap, .int .u64 (rv : Int)]) := below_setRow HB2.out (by omega) _
  refine bodyPost_ret (results_cell_row rfl _ _ (w.heap.size + 1 + 1) 26 _ _ _ rfl (setRow_heap w2 _ _ _ _ _ HZ2.out) Try.underlying26 rfl (by kernel_rfl)) rfl ?_
  exact ⟨A, n, cap, rfl, HL.out, by omega, own_laterN HO.out hbf, Kept.of_below hbf _⟩


set_option linter.unusedSimpArgs false in
set_option linter.unusedVariables false in
set_option maxRecDepth 100000 in
set_option maxHeartbeats 4000000 in
theorem refLay_ten_yes (hi lo id par rv : Nat) (name : ByteArray) (start stop : Int) (bad : Bool) (A : Option Addr) (l : List Attr) (n cap base : Nat) (no tx fn : Nat) (fs : ByteArray) (w : World) (hf : fn < 18446744073709551616) (hfs : fs.size ≤ 4096) (hl : l.length = n) (hnb : n ≤ 100000) (hbase : base ≤ w.heap.size) (ho : w.ownsRow base 36 2 (.slice A n cap) n (aCells l)) (hno : no = 10 ∧ (getText fs.data.toList 0 60).2.2 = 0) :
    Calls Try.prog 47 #[.agg #[.int .u64 (hi : Int), .int .u64 (lo : Int), .int .u64 (id : Int), .int .u64 (par : Int), .string name, .int .i64 start, .int .i64 stop, .bool bad, .slice A n cap, .int .u64 (rv : Int)], .agg #[.int .u64 (no : Int), .int .i64 (tx : Int), .int .u64 (fn : Int), .string fs]] w (LaidF (putSp ⟨hi, lo, id, par, name, start, stop, bad, l, rv⟩ ⟨no, tx, fn, fs⟩) base A n cap w) := by
  obtain ⟨rfl, hno⟩ := hno
  obtain ⟨X, hX⟩ : ∃ X, (((w.alloc (.cells #[.int .u64 (hi : Int), .int .u64 (lo : Int), .int .u64 (id : Int), .int .u64 (par : Int), .string name, .int .i64 start, .int .i64 stop, .bool bad, .slice A n cap, .int .u64 (rv : Int)] 26)).alloc (.cells #[.int .u64 10, .int .i64 (tx : Int), .int .u64 (fn : Int), .string fs] 89)).alloc (.cells #[.int .u64 0, .int .u64 0, .int .u64 0, .int .u64 0, .string ⟨#[]⟩, .int .i64 0, .int .i64 0, .bool false, .slice none 0 0, .int .u64 0] 26)) = X := ⟨_, rfl⟩
  have hbX : Below w.heap.size w X := by rw [← hX]; exact keep3 w _ _ _
  have hXs : X.heap.size = w.heap.size + 1 + 1 + 1 := by rw [← hX]; simp
  have hS : Blk X w.heap.size #[.int .u64 (hi : Int), .int .u64 (lo : Int), .int .u64 (id : Int), .int .u64 (par : Int), .string name, .int .i64 start, .int .i64 stop, .bool bad, .slice A n cap, .int .u64 (rv : Int)] 26 := by
    rw [← hX]
    exact ((blk_new w _ _).same (Below.heap_alloc _ _ _ (by rw [World.size_alloc]; omega))).same (Below.heap_alloc _ _ _ (by rw [World.size_alloc, World.size_alloc]; omega))
  have hFb : Blk X (w.heap.size + 1) #[.int .u64 10, .int .i64 (tx : Int), .int .u64 (fn : Int), .string fs] 89 := by
    rw [← hX]
    have := blk_new (w.alloc (.cells #[.int .u64 (hi : Int), .int .u64 (lo : Int), .int .u64 (id : Int), .int .u64 (par : Int), .string name, .int .i64 start, .int .i64 stop, .bool bad, .slice A n cap, .int .u64 (rv : Int)] 26)) #[.int .u64 10, .int .i64 (tx : Int), .int .u64 (fn : Int), .string fs] 89
    rw [World.size_alloc] at this
    exact this.same (Below.heap_alloc _ _ _ (by rw [World.size_alloc, World.size_alloc]; omega))
  have hZb : Blk X (w.heap.size + 1 + 1) #[.int .u64 0, .int .u64 0, .int .u64 0, .int .u64 0, .string ⟨#[]⟩, .int .i64 0, .int .i64 0, .bool false, .slice none 0 0, .int .u64 0] 26 := by rw [← hX]; exact last3 w _ _ _
  obtain ⟨tc, w1, hcv, hc1, hc2, hB1, _, hH1⟩ := text_bytes2 fs X (by omega)
  have hll : fs.data.toList.length = fs.size := by simp
  have hup := getText_up fs.data.toList 0 60
  have hG := refGetText_any (some ⟨X.heap.size, 0, none⟩) fs.data.toList tc 0 60 w1 (by rw [hll]; exact hc1) hc2 (by omega) hH1
  rw [hll] at hG hup
  obtain ⟨g, hg⟩ : ∃ g, getText fs.data.toList 0 60 = g := ⟨_, rfl⟩
  rw [hg] at hG hup hno
  obtain ⟨t, up, e0⟩ := g
  dsimp only at hG hup hno
  subst hno
  obtain ⟨key, hkey⟩ : ∃ k, bytesOf t = k := ⟨_, rfl⟩
  obtain ⟨val, hval⟩ : ∃ v, bytesOf (fs.data.toList.drop up) = v := ⟨_, rfl⟩
  have hp : putSp ⟨hi, lo, id, par, name, start, stop, bad, l, rv⟩ ⟨10, tx, fn, fs⟩ = ⟨hi, lo, id, par, name, start, stop, bad, l ++ [(key, val)], rv⟩ := by
    show (if (getText fs.data.toList 0 60).2.2 = 0 then _ else _) = _
    rw [hg, if_pos rfl, attr_ok hg, hkey, hval]
  have hsl : fs.extract up fs.size = val := by rw [← hval, ← Lib.extract_to_end fs up, bytesOf_list]
  rw [hp]
  clear hp
  have hG' : Calls Try.prog 56 #[.slice (some ⟨X.heap.size, 0, none⟩) fs.size tc, .int .i64 0, .int .i64 60] w1 fun e W' => e = .returned (.tuple #[.string key, .int .i64 (up : Int), .int .i64 0]) ∧ Below w1.heap.size w1 W' := by
    rw [← hkey]; exact hG
  have HG := Lib.hid hG'
  have HB1 := Lib.hid (hbX.trans (hB1.mono hbX.size))
  have HS1 := Lib.hid (hS.same (hB1.block _ hS.lt))
  have HF1 := Lib.hid (hFb.same (hB1.block _ hFb.lt))
  have HZ1 := Lib.hid (hZb.same (hB1.block _ hZb.lt))
  have x0 : X.cell? ⟨w.heap.size + 1, 0, none⟩ = some (.int .u64 10) := hFb.cell 0 rfl
  have x3 : X.cell? ⟨w.heap.size + 1, 3, none⟩ = some (.string fs) := hFb.cell 3 rfl
  have HO := Lib.hid ho
  have HL := Lib.hid hl
  clear hG hG' hg hkey hH1 hS hFb hZb hbX hB1 hll ho hl hXs hval
  go_enter Try.func47, Try.ntmps47
  go_wp2_with fail
  refine HG.out.mono ?_
  rintro e w2 ⟨rfl, hb2⟩
  have HB2 := Lib.hid (HB1.out.trans (hb2.mono HB1.out.size))
  have HS2 := Lib.hid (HS1.out.same (hb2.block _ HS1.out.lt))
  have HF2 := Lib.hid (HF1.out.same (hb2.block _ HF1.out.lt))
  have HZ2 := Lib.hid (HZ1.out.same (hb2.block _ HZ1.out.lt))
  clear hb2 HG
  obtain ⟨i1, ha0, ha1, ha2, ha3⟩ := info_parts info_attr
  have z8 : w2.drew.cell? ⟨w.heap.size, 8, none⟩ = some (.slice A n cap) := HS2.out.cell 8 rfl
  have z3 : w2.drew.cell? ⟨w.heap.size + 1, 3, none⟩ = some (.string fs) := HF2.out.cell 3 rfl
  have HBd := Lib.hid HB2.out.drew
  have HSd : Hid (Blk w2.drew w.heap.size #[.int .u64 (hi : Int), .int .u64 (lo : Int), .int .u64 (id : Int), .int .u64 (par : Int), .string name, .int .i64 start, .int .i64 stop, .bool bad, .slice A n cap, .int .u64 (rv : Int)] 26) := HS2
  have HFd : Hid (Blk w2.drew (w.heap.size + 1) #[.int .u64 10, .int .i64 (tx : Int), .int .u64 (fn : Int), .string fs] 89) := HF2
  have HZd : Hid (Blk w2.drew (w.heap.size + 1 + 1) #[.int .u64 0, .int .u64 0, .int .u64 0, .int .u64 0, .string ⟨#[]⟩, .int .i64 0, .int .i64 0, .bool false, .slice none 0 0, .int .u64 0] 26) := HZ2
  have HOd := Lib.hid (own_laterN HO.out HBd.out)
  have hlt2 : w.heap.size + 1 + 1 < w2.drew.heap.size := HZd.out.lt
  clear HB2 HS2 HF2 HZ2
  go_wp2_with fail
  refine RegionBut.region_but 11 (S := fun W => W.cell? ⟨w.heap.size, 8, none⟩ = some (.slice A n cap) ∧ W.cell? ⟨w.heap.size + 1, 3, none⟩ = some (.string fs)) (by kernel_rfl) ?_ (fun hHeld => ?_)
  · exact ⟨z8, z3⟩
  refine RegionBut.but_take (i := 0) (v := ?_) rfl (by kernel_rfl) (by kernel_rfl) (by kernel_rfl) (by kernel_rfl) (fun _ _ _ h => h) (Or.inl ⟨by rfl, ?_⟩) (by assumption) ?_
  rotate_left
  · intro wq hSw; (try dsimp only at hSw); go_simp; (try with_reducible rfl)
  simp only [Act.put, List.getElem_toArray, List.getElem_cons_succ, List.getElem_cons_zero, List.setIfInBounds_toArray, List.set_cons_zero, List.set_cons_succ]
  refine RegionBut.but_take (i := 1) (v := ?_) rfl (by kernel_rfl) (by kernel_rfl) (by kernel_rfl) (by kernel_rfl) (fun _ _ _ h => h) (Or.inl ⟨by rfl, ?_⟩) (by assumption) ?_
  rotate_left
  · intro wq hSw; (try dsimp only at hSw); have hq := hSw.1; go_simp; (try with_reducible rfl)
  simp only [Act.put, List.getElem_toArray, List.getElem_cons_succ, List.getElem_cons_zero, List.setIfInBounds_toArray, List.set_cons_zero, List.set_cons_succ]
  refine RegionBut.but_take (i := 2) (v := ?_) rfl (by kernel_rfl) (by kernel_rfl) (by kernel_rfl) (by kernel_rfl) (fun _ _ _ h => h) (Or.inl ⟨by rfl, ?_⟩) (by assumption) ?_
  rotate_left
  · intro wq hSw; (try dsimp only at hSw); go_simp; (try with_reducible rfl)
  simp only [Act.put, List.getElem_toArray, List.getElem_cons_succ, List.getElem_cons_zero, List.setIfInBounds_toArray, List.set_cons_zero, List.set_cons_succ]
  refine RegionBut.but_take (i := 3) (v := ?_) rfl (by kernel_rfl) (by kernel_rfl) (by kernel_rfl) (by kernel_rfl) (fun _ _ _ h => h) (Or.inl ⟨by rfl, ?_⟩) (by assumption) ?_
  rotate_left
  · intro wq hSw; (try dsimp only at hSw); go_simp; (try with_reducible rfl)
  simp only [Act.put, List.getElem_toArray, List.getElem_cons_succ, List.getElem_cons_zero, List.setIfInBounds_toArray, List.set_cons_zero, List.set_cons_succ]
  refine RegionBut.but_take (i := 4) (v := ?_) rfl (by kernel_rfl) (by kernel_rfl) (by kernel_rfl) (by kernel_rfl) (fun _ _ _ h => h) (Or.inl ⟨by rfl, ?_⟩) (by assumption) ?_
  rotate_left
  · intro wq hSw; (try dsimp only at hSw); have hq := hSw.2; go_simp; (try with_reducible rfl)
  simp only [Act.put, List.getElem_toArray, List.getElem_cons_succ, List.getElem_cons_zero, List.setIfInBounds_toArray, List.set_cons_zero, List.set_cons_succ]
  refine RegionBut.but_take (i := 5) (v := ?_) rfl (by kernel_rfl) (by kernel_rfl) (by kernel_rfl) (by kernel_rfl) (fun _ _ _ h => h) (Or.inl ⟨by rfl, ?_⟩) (by assumption) ?_
  rotate_left
  · intro wq hSw; (try dsimp only at hSw); go_simp; (try with_reducible rfl)
  simp only [Act.put, List.getElem_toArray, List.getElem_cons_succ, List.getElem_cons_zero, List.setIfInBounds_toArray, List.set_cons_zero, List.set_cons_succ]
  refine RegionBut.but_take (i := 6) (v := ?_) rfl (by kernel_rfl) (by kernel_rfl) (by kernel_rfl) (by kernel_rfl) (fun _ _ _ h => h) (Or.inl ⟨by rfl, ?_⟩) (by assumption) ?_
  rotate_left
  · intro wq hSw; (try dsimp only at hSw); go_simp; (try with_reducible rfl)
  simp only [Act.put, List.getElem_toArray, List.getElem_cons_succ, List.getElem_cons_zero, List.setIfInBounds_toArray, List.set_cons_zero, List.set_cons_succ]
  refine RegionBut.but_take (i := 7) (v := ?_) rfl (by kernel_rfl) (by kernel_rfl) (by kernel_rfl) (by kernel_rfl) (fun _ _ _ h => h) (Or.inl ⟨by rfl, ?_⟩) (by assumption) ?_
  rotate_left
  · intro wq hSw; (try dsimp only at hSw); go_simp; (try with_reducible rfl)
  simp only [Act.put, List.getElem_toArray, List.getElem_cons_succ, List.getElem_cons_zero, List.setIfInBounds_toArray, List.set_cons_zero, List.set_cons_succ]
  refine RegionBut.but_ready (rs := [8]) (by kernel_rfl) (by simp) ?_
  refine RegionBut.Nexts.cons rfl (fun K hK => ?_) RegionBut.Nexts.nil
  go_simp
  (try go_wp2_with fail)
  refine hK.out _ _ ?_ (fun hHeld => ?_)
  · exact ⟨(cell_alloc_below' _ _ _ (by show w.heap.size < w2.drew.heap.size; omega)).trans z8, (cell_alloc_below' _ _ _ (by show w.heap.size + 1 < w2.drew.heap.size; omega)).trans z3⟩
  clear hK K
  try simp only [Act.put, List.getElem_toArray, List.getElem_cons_succ, List.getElem_cons_zero, List.setIfInBounds_toArray, List.set_cons_zero, List.set_cons_succ]
  refine RegionBut.but_ready (rs := [9]) (by kernel_rfl) (by simp) ?_
  refine RegionBut.Nexts.cons rfl (fun K hK => ?_) RegionBut.Nexts.nil
  refine step_append_lies _ rfl (.tmp 71) (.tmp 78) 24 rfl base 36 i1 (.agg #[.string ⟨#[]⟩, .string ⟨#[]⟩]) 2 32 Try.underlying24 ha0 ha1 ha2 ha3 rfl (by decide) (.slice A n cap) n (aCells l) rfl (HOd.out.alloc _) ⟨w2.drew.heap.size, 0, none⟩ 1 1 [.string key, .string val] rfl rfl (new_pair w2.drew _ _ _) (by simp [Value.oneCell']) (by decide) (by unfold maxLen; omega) (by omega) (by show base ≤ (World.alloc w2.drew _).heap.size; rw [World.size_alloc]; omega) (w2.drew.heap.size + 1) (by show (World.alloc w2.drew _).heap.size = _; simp) ?_
  intro g4 c4 w4 hown4 hgr4 hor4 hlt4
  have HS4 := Lib.hid ((HSd.out.same (Below.heap_alloc _ (.cells #[.string key, .string val] 36) _ HSd.out.lt)).same (grown_at hgr4 (by show _ < (World.alloc w2.drew _).heap.size; rw [World.size_alloc]; omega) (own_apartN HOd.out HSd.out (by decide))))
  have HF4 := Lib.hid ((HFd.out.same (Below.heap_alloc _ (.cells #[.string key, .string val] 36) _ HFd.out.lt)).same (grown_at hgr4 (by show _ < (World.alloc w2.drew _).heap.size; rw [World.size_alloc]; omega) (own_apartN HOd.out HFd.out (by decide))))
  have HZ4 := Lib.hid ((HZd.out.same (Below.heap_alloc _ (.cells #[.string key, .string val] 36) _ HZd.out.lt)).same (grown_at hgr4 (by show _ < (World.alloc w2.drew _).heap.size; rw [World.size_alloc]; omega) (own_apartN HOd.out HZd.out (by decide))))
  have HK4 := Lib.hid ((Kept.of_below (HBd.out.alloc HBd.out.size (.cells #[.string key, .string val] 36)) (fun b => (Value.slice A n cap).ownBlock = some b)).trans (kept_grownN hgr4))
  have HO4 := Lib.hid hown4
  clear hown4 hgr4 hor4 hlt4
  refine hK.out _ _ ?_ (fun hHeld => ?_)
  · exact ⟨HS4.out.cell 8 rfl, HF4.out.cell 3 rfl⟩
  clear hK K
  try simp only [Act.put, List.getElem_toArray, List.getElem_cons_succ, List.getElem_cons_zero, List.setIfInBounds_toArray, List.set_cons_zero, List.set_cons_succ]
  refine RegionBut.but_take (i := 10) (v := ?_) rfl (by kernel_rfl) (by kernel_rfl) (by kernel_rfl) (by kernel_rfl) (fun _ _ _ h => h) (Or.inl ⟨by rfl, ?_⟩) (by assumption) ?_
  rotate_left
  · intro wq hSw; (try dsimp only at hSw); go_simp; (try with_reducible rfl)
  simp only [Act.put, List.getElem_toArray, List.getElem_cons_succ, List.getElem_cons_zero, List.setIfInBounds_toArray, List.set_cons_zero, List.set_cons_succ]
  refine RegionBut.but_ready (rs := [11]) (by kernel_rfl) (by simp) ?_
  refine RegionBut.Nexts.last rfl (fun K hK => ?_)
  have y8 := HS4.out.free 8
  have z8' : w4.cell? ⟨w.heap.size, 8, none⟩ = some (.slice A n cap) := HS4.out.cell 8 rfl
  go_simp
  (try go_wp2_with fail)
  refine hK.out _ _ trivial (fun _ => ?_)
  clear hK K
  try simp only [Act.put, List.getElem_toArray, List.getElem_cons_succ, List.getElem_cons_zero, List.setIfInBounds_toArray, List.set_cons_zero, List.set_cons_succ]
  refine RegionBut.but_done (by kernel_rfl) ?_ _
  clear hHeld
  have HS5 := Lib.hid (HS4.out.set 8 (.slice (some ⟨g4, 0, none⟩) (n + 1) c4))
  have HZ5 : Hid (Blk (w4.setCell ⟨w.heap.size, 8, none⟩ (.slice (some ⟨g4, 0, none⟩) (n + 1) c4)) (w.heap.size + 1 + 1) #[.int .u64 0, .int .u64 0, .int .u64 0, .int .u64 0, .string ⟨#[]⟩, .int .i64 0, .int .i64 0, .bool false, .slice none 0 0, .int .u64 0] 26) := Lib.hid (HZ4.out.same (Below.heap_setCell w4 ⟨w.heap.size, 8, none⟩ _ _ (by show w.heap.size + 1 + 1 ≠ w.heap.size; omega)))
  have HO5 : Hid ((w4.setCell ⟨w.heap.size, 8, none⟩ (.slice (some ⟨g4, 0, none⟩) (n + 1) c4)).ownsRow base 36 2 (.slice (some ⟨g4, 0, none⟩) (n + 1) c4) (n + 1) (aCells l ++ [.string key, .string val])) := Lib.hid (ownsRow_setCell_other HO4.out (own_apartN HO4.out HS4.out (by decide)) _)
  have HK5 := Lib.hid (kept_new HK4.out w.heap.size (Nat.le_refl _) (.slice (some ⟨g4, 0, none⟩) (n + 1) c4) 8)
  clear HS4 HF4 HZ4 HK4 HO4
  have r0 : (w4.setCell ⟨w.heap.size, 8, none⟩ (.slice (some ⟨g4, 0, none⟩) (n + 1) c4)).cell? ⟨w.heap.size, 0, none⟩ = some (.int .u64 (hi : Int)) := HS5.out.cell 0 rfl
  have r1 : (w4.setCell ⟨w.heap.size, 8, none⟩ (.slice (some ⟨g4, 0, none⟩) (n + 1) c4)).cell? ⟨w.heap.size, 1, none⟩ = some (.int .u64 (lo : Int)) := HS5.out.cell 1 rfl
  have r2 : (w4.setCell ⟨w.heap.size, 8, none⟩ (.slice (some ⟨g4, 0, none⟩) (n + 1) c4)).cell? ⟨w.heap.size, 2, none⟩ = some (.int .u64 (id : Int)) := HS5.out.cell 2 rfl
  have r3 : (w4.setCell ⟨w.heap.size, 8, none⟩ (.slice (some ⟨g4, 0, none⟩) (n + 1) c4)).cell? ⟨w.heap.size, 3, none⟩ = some (.int .u64 (par : Int)) := HS5.out.cell 3 rfl
  have r4 : (w4.setCell ⟨w.heap.size, 8, none⟩ (.slice (some ⟨g4, 0, none⟩) (n + 1) c4)).cell? ⟨w.heap.size, 4, none⟩ = some (.string name) := HS5.out.cell 4 rfl
  have r5 : (w4.setCell ⟨w.heap.size, 8, none⟩ (.slice (some ⟨g4, 0, none⟩) (n + 1) c4)).cell? ⟨w.heap.size, 5, none⟩ = some (.int .i64 start) := HS5.out.cell 5 rfl
  have r6 : (w4.setCell ⟨w.heap.size, 8, none⟩ (.slice (some ⟨g4, 0, none⟩) (n + 1) c4)).cell? ⟨w.heap.size, 6, none⟩ = some (.int .i64 stop) := HS5.out.cell 6 rfl
  have r7 : (w4.setCell ⟨w.heap.size, 8, none⟩ (.slice (some ⟨g4, 0, none⟩) (n + 1) c4)).cell? ⟨w.heap.size, 7, none⟩ = some (.bool bad) := HS5.out.cell 7 rfl
  have r8 : (w4.setCell ⟨w.heap.size, 8, none⟩ (.slice (some ⟨g4, 0, none⟩) (n + 1) c4)).cell? ⟨w.heap.size, 8, none⟩ = some (.slice (some ⟨g4, 0, none⟩) (n + 1) c4) := HS5.out.cell 8 rfl
  have r9 : (w4.setCell ⟨w.heap.size, 8, none⟩ (.slice (some ⟨g4, 0, none⟩) (n + 1) c4)).cell? ⟨w.heap.size, 9, none⟩ = some (.int .u64 (rv : Int)) := HS5.out.cell 9 rfl
  go_wp2_with (refine wpList_store_row rfl 26 (.tmp 4) (.tmp 81) rfl (w.heap.size + 1 + 1) #[.int .u64 (hi : Int), .int .u64 (lo : Int), .int .u64 (id : Int), .int .u64 (par : Int), .string name, .int .i64 start, .int .i64 stop, .bool bad, .slice (some ⟨g4, 0, none⟩) (n + 1) c4, .int .u64 (rv : Int)] rfl rfl 26 #[.int .u64 0, .int .u64 0, .int .u64 0, .int .u64 0, .string ⟨#[]⟩, .int .i64 0, .int .i64 0, .bool false, .slice none 0 0, .int .u64 0] HZ5.out (by kernel_rfl) rfl (by simp [Value.oneCell']) ?_)
  (try simp only [Exit.inBlock, Exit.then])
  refine bodyPost_ret (results_cell_row rfl _ _ (w.heap.size + 1 + 1) 26 _ _ _ rfl (setRow_heap _ _ _ _ _ _ HZ5.out) Try.underlying26 rfl (by kernel_rfl)) rfl ?_
  exact ⟨some ⟨g4, 0, none⟩, n + 1, c4, rfl, by rw [List.length_append, HL.out]; rfl, Nat.le_refl _, by rw [aCells_app']; exact own_setRow HO5.out HZ5.out (by decide) _, kept_row HK5.out _ (by omega) _⟩

end Go.Proofs.Ytklgggolkclebaa
