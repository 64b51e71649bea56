/-
  Spans and their attributes in memory, for a layer above item that reaches neither num nor item: what telemeterlaw03.Name does; an array of choices.
-/
import Derived.Deep.RegionHeld
import Derived.Deep.CutBlock
import Derived.Deep.DeepCutAuto
import Derived.Deep.LoopGhost
import Derived.Deep.AppendLies
import Derived.IntWalk
import Derived.Laws.Rows
import Derived.Test.YtmjbdjcpjaeemaaDoorArr0
import Derived.Test.YtmjbdjcpjaeemaaDoorBlk0
import Derived.Test.YtmjbdjcpjaeemaaDoorRegionBut
namespace Go.Proofs.YtmjbdjcpjaeemaaDoor
open Go.RowKit

abbrev Attr := ByteArray × ByteArray
def none8 : ByteArray := ⟨#[]⟩
/-- A span, as the program has it. -/
structure Sp where
  hi : Nat
  lo : Nat
  id : Nat
  par : Nat
  name : ByteArray
  start : Int
  stop : Int
  bad : Bool
  attrs : List Attr
  rv : Nat
def spCells (hi lo id par : Nat) (name : ByteArray) (start stop : Int) (bad : Bool) (A : Option Addr) (n cap rv : Nat) : Array Value :=
  #[.int .u64 (hi : Int), .int .u64 (lo : Int), .int .u64 (id : Int), .int .u64 (par : Int), .string name, .int .i64 start, .int .i64 stop, .bool bad, .slice A n cap, .int .u64 (rv : Int)]
/-- Attributes that lie somewhere. -/
def HoldsA (n₀ : Nat) (W : World) (A : Option Addr) (l : List Attr) : Prop :=
  0 < l.length → ∃ b off, A = some ⟨b, off, none⟩ ∧ b < n₀ ∧ ∀ j, j < l.length → W.cell? ⟨b, off + j * 2, none⟩ = some (.string (l.getD j (none8, none8)).1) ∧ W.cell? ⟨b, off + j * 2 + 1, none⟩ = some (.string (l.getD j (none8, none8)).2)
theorem HoldsA.below {n₀ : Nat} {W W' : World} {A : Option Addr} {l : List Attr} (h : HoldsA n₀ W A l) (hb : Below n₀ W W') : HoldsA n₀ W' A l := fun h0 => by
  obtain ⟨b, off, e, hlt, hj⟩ := h h0
  refine ⟨b, off, e, hlt, fun j hj' => ?_⟩
  obtain ⟨h1, h2⟩ := hj j hj'
  exact ⟨(hb.cell (p := ⟨b, off + j * 2, none⟩) hlt).trans h1, (hb.cell (p := ⟨b, off + j * 2 + 1, none⟩) hlt).trans h2⟩
theorem HoldsA.mono {n₀ n₁ : Nat} {W : World} {A : Option Addr} {l : List Attr} (h : HoldsA n₀ W A l) (hn : n₀ ≤ n₁) : HoldsA n₁ W A l := fun h0 => by
  obtain ⟨b, off, e, hlt, hj⟩ := h h0
  exact ⟨b, off, e, by omega, hj⟩
theorem HoldsA.later {W W' : World} {A : Option Addr} {l : List Attr} (h : HoldsA W.heap.size W A l) (hb : Below W.heap.size W W') : HoldsA W'.heap.size W' A l := (h.below hb).mono hb.size

def svc : ByteArray := ⟨#[115, 118, 99, 45, 97, 47, 98, 46, 99, 95, 100, 126, 33, 71, 69, 84]⟩
def nameOf (c : Nat) : ByteArray := svc.extract (c % 8) (c % 8 + 1 + c / 8 % 8)
theorem nameOf_fits : ∀ c : Fin 256, (nameOf c.val).size ≤ 60 := by decide +kernel
theorem nameOf_size {c : Nat} (h : c < 256) : (nameOf c).size ≤ 60 := nameOf_fits ⟨c, h⟩

set_option maxHeartbeats 1000000 in
theorem name_any (c : Nat) (hc : c < 256) (w : World) : Calls Tryd.prog 33 #[.int .u8 (c : Int)] w fun e w' => e = .returned (.string (nameOf c)) ∧ w = w' := by
  go_enter Tryd.func33, Tryd.ntmps33
  go_wp2
  go_ret
  exact ⟨by unfold nameOf svc; rfl, rfl⟩

/-- The choices that are there when k are read. -/
def upTo (cs : List UInt8) (k j : Nat) : UInt8 := if j < k then cs.getD j 0 else 0
theorem upTo_zero (cs : List UInt8) (j : Nat) : upTo cs 0 j = 0 := by simp [upTo]
theorem upTo_full {cs : List UInt8} {k m : Nat} (h : m ≤ k ∨ cs.length ≤ k) {j : Nat} (hj : j < m) : upTo cs k j = cs.getD j 0 := by
  unfold upTo
  by_cases e : j < k
  · rw [if_pos e]
  · rw [if_neg e]
    rcases h with h | h
    · omega
    · simp [List.getD_eq_getElem?_getD, show cs.length ≤ j by omega]
theorem upTo_succ (cs : List UInt8) (k : Nat) : upTo cs (k + 1) k = cs.getD k 0 ∧ ∀ j, j ≠ k → upTo cs (k + 1) j = upTo cs k j := by
  refine ⟨by simp [upTo], fun j hj => ?_⟩
  unfold upTo
  by_cases e : j < k
  · rw [if_pos e, if_pos (by omega)]
  · rw [if_neg e, if_neg (by omega)]
def at8 (cs : List UInt8) (j : Nat) : Nat := (cs.getD j 0).toNat
theorem at8_lt (cs : List UInt8) (j : Nat) : at8 cs j < 256 := (cs.getD j 0).toNat_lt
end Go.Proofs.YtmjbdjcpjaeemaaDoor
