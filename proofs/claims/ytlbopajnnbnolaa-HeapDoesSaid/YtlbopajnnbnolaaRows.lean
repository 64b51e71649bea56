/-
  No cell of these rows narrows 'for every input' (looked for: loops, veiled, ifaces, maps, wideKeys, modest, calm, conditions, laid).
  DERIVED. THE GIVEN ROWS OF THIS SEAT. 5 by the template 'for every input the law returns true; each argument reads behind the call as it read before'; 0 by the template 'total and deterministic' (their statements: YtlbopajnnbnolaaTotals.lean).
  GIVEN WITH THE SEED: the statements are not yours to turn. If you find one false, say at which input.
  Laid BY PROGRAM, IN A SANDBOX (cutbox-rows.mjs): the forced cells as the released guide's own fill.sh prints them over the translation 8fe07188303b9094… (all of the seat's roots in one cut). By AI agents, Wed Nov 11 2026. No macro, syntax, notation, axiom, sorry.
-/
import Derived.Test.YtlbopajnnbnolaaChecked
import GoSem.Claim
import GoSem.ClaimJoined
import GoSem.ClaimMapViews
import Derived.JoinedTies
import Derived.KernelRfl
namespace Go.Proofs.Ytlbopajnnbnolaa
/- THE CELL 'sum', in the pinned program and in every row, IS THE sha256 OF THE DUMP (.gsa) THAT YtlbopajnnbnolaaProg.lean LOADS. Nothing in Lean hashes anything: it is a label: what it is worth is what the hold of that sum in a sandbox is worth. -/
noncomputable def Try.pinned : Pinned := { name := "ytlbopajnnbnolaa", sum := "8fe07188303b90948aae0266a3d0aea99857ddddbb1dd27efbe73f74a6ee1d16", checked := Try.checked }
namespace Rows
def none {H : Type} : Left H := { results := [], args := [] }

/-- 'telemeterlaw10.HeapDrop': WHATEVER THE INPUT: true; the input reads as it did. -/
def heapDropSpec : ChangeSpec := { name := "heapDrop", fn := fun _ => fun
  | [d1, d2] => { results := [.lit (.bool true)], args := [d1, d2] }
  | _ => none }
def heapDropRow : OpenClaim := { program := "ytlbopajnnbnolaa", sum := "8fe07188303b90948aae0266a3d0aea99857ddddbb1dd27efbe73f74a6ee1d16", func := "telemeter/telemeterlaw10.HeapDrop", spec := "heapDrop", unfollowed := true, recurses := true, apart := false }
def HeapDropSaid : Prop := heapDropRow.holds Try.pinned (OpenSpec.ofChange heapDropSpec)

/-- ITS FALSE NEIGHBOUR: 'it returns false'. Refute it at one input. -/
def heapDropWrong : ChangeSpec := { name := "heapDrop", fn := fun _ => fun
  | [d1, d2] => { results := [.lit (.bool false)], args := [d1, d2] }
  | _ => none }
def HeapDropWrongFalsely : Prop := heapDropRow.holds Try.pinned (OpenSpec.ofChange heapDropWrong)

/-- 'telemeterlaw10.HeapDoes': WHATEVER THE INPUT: true; the input reads as it did. -/
def heapDoesSpec : ChangeSpec := { name := "heapDoes", fn := fun _ => fun
  | [d1, d2, d3, d4] => { results := [.lit (.bool true)], args := [d1, d2, d3, d4] }
  | _ => none }
def heapDoesRow : OpenClaim := { program := "ytlbopajnnbnolaa", sum := "8fe07188303b90948aae0266a3d0aea99857ddddbb1dd27efbe73f74a6ee1d16", func := "telemeter/telemeterlaw10.HeapDoes", spec := "heapDoes", unfollowed := true, recurses := true, apart := false }
def HeapDoesSaid : Prop := heapDoesRow.holds Try.pinned (OpenSpec.ofChange heapDoesSpec)

/-- ITS FALSE NEIGHBOUR: 'it returns false'. Refute it at one input. -/
def heapDoesWrong : ChangeSpec := { name := "heapDoes", fn := fun _ => fun
  | [d1, d2, d3, d4] => { results := [.lit (.bool false)], args := [d1, d2, d3, d4] }
  | _ => none }
def HeapDoesWrongFalsely : Prop := heapDoesRow.holds Try.pinned (OpenSpec.ofChange heapDoesWrong)

/-- 'telemeterlaw10.HeapSorts': WHATEVER THE INPUT: true; the input reads as it did. -/
def heapSortsSpec : ChangeSpec := { name := "heapSorts", fn := fun _ => fun
  | [d1, d2] => { results := [.lit (.bool true)], args := [d1, d2] }
  | _ => none }
def heapSortsRow : OpenClaim := { program := "ytlbopajnnbnolaa", sum := "8fe07188303b90948aae0266a3d0aea99857ddddbb1dd27efbe73f74a6ee1d16", func := "telemeter/telemeterlaw10.HeapSorts", spec := "heapSorts", unfollowed := true, recurses := true, apart := false }
def HeapSortsSaid : Prop := heapSortsRow.holds Try.pinned (OpenSpec.ofChange heapSortsSpec)

/-- ITS FALSE NEIGHBOUR: 'it returns false'. Refute it at one input. -/
def heapSortsWrong : ChangeSpec := { name := "heapSorts", fn := fun _ => fun
  | [d1, d2] => { results := [.lit (.bool false)], args := [d1, d2] }
  | _ => none }
def HeapSortsWrongFalsely : Prop := heapSortsRow.holds Try.pinned (OpenSpec.ofChange heapSortsWrong)

/-- 'telemeterlaw10.HeapFull': WHATEVER THE INPUT: true; the input reads as it did. -/
def heapFullSpec : ChangeSpec := { name := "heapFull", fn := fun _ => fun
  | [d1, d2] => { results := [.lit (.bool true)], args := [d1, d2] }
  | _ => none }
def heapFullRow : OpenClaim := { program := "ytlbopajnnbnolaa", sum := "8fe07188303b90948aae0266a3d0aea99857ddddbb1dd27efbe73f74a6ee1d16", func := "telemeter/telemeterlaw10.HeapFull", spec := "heapFull", unfollowed := true, recurses := true, apart := false }
def HeapFullSaid : Prop := heapFullRow.holds Try.pinned (OpenSpec.ofChange heapFullSpec)

/-- ITS FALSE NEIGHBOUR: 'it returns false'. Refute it at one input. -/
def heapFullWrong : ChangeSpec := { name := "heapFull", fn := fun _ => fun
  | [d1, d2] => { results := [.lit (.bool false)], args := [d1, d2] }
  | _ => none }
def HeapFullWrongFalsely : Prop := heapFullRow.holds Try.pinned (OpenSpec.ofChange heapFullWrong)

/-- 'telemeterlaw10.HeapDue': WHATEVER THE INPUT: true; the input reads as it did. -/
def heapDueSpec : ChangeSpec := { name := "heapDue", fn := fun _ => fun
  | [d1, d2] => { results := [.lit (.bool true)], args := [d1, d2] }
  | _ => none }
def heapDueRow : OpenClaim := { program := "ytlbopajnnbnolaa", sum := "8fe07188303b90948aae0266a3d0aea99857ddddbb1dd27efbe73f74a6ee1d16", func := "telemeter/telemeterlaw10.HeapDue", spec := "heapDue", unfollowed := true, recurses := true, apart := false }
def HeapDueSaid : Prop := heapDueRow.holds Try.pinned (OpenSpec.ofChange heapDueSpec)

/-- ITS FALSE NEIGHBOUR: 'it returns false'. Refute it at one input. -/
def heapDueWrong : ChangeSpec := { name := "heapDue", fn := fun _ => fun
  | [d1, d2] => { results := [.lit (.bool false)], args := [d1, d2] }
  | _ => none }
def HeapDueWrongFalsely : Prop := heapDueRow.holds Try.pinned (OpenSpec.ofChange heapDueWrong)

/- THE SECOND FORM. 'bulk': how many values and letters a reading holds, each counted each time it is reached (what is shared counts as often as it is met; a slice's spare places count too). A statement '..UptoSaid' is the law's where the arguments, and the package variables that the reading takes, are together of bulk at most 1048576: NARROWER than '..Said'. Prove '..Said' where nothing that the law and all that it calls make is longer than what came in: it says more and counts as full. Else prove '..UptoSaid'. A law counts once. -/
mutual
def uptoBulk {H : Type} : DataW H → Nat
  | .lit (.string bytes) => bytes.length + 1
  | .lit _ => 1
  | .nil => 1
  | .ptr d => uptoBulk d + 1
  | .slice elems spare => uptoBulkAll elems + uptoBulkAll spare + 1
  | .agg parts => uptoBulkAll parts + 1
  | .iface _ d => uptoBulk d + 1
  | .map entries => uptoBulkEntries entries + 1
  | .held _ => 1
def uptoBulkAll {H : Type} : List (DataW H) → Nat
  | [] => 0
  | d :: r => uptoBulk d + uptoBulkAll r
def uptoBulkEntries {H : Type} : List (Lit × DataW H) → Nat
  | [] => 0
  | x :: r => uptoBulkEntry x + uptoBulkEntries r
def uptoBulkEntry {H : Type} : Lit × DataW H → Nat
  | (.string bytes, d) => bytes.length + uptoBulk d + 1
  | (_, d) => uptoBulk d + 1
 end
def uptoSmall : (H : Type) → List (DataW H) → Bool := fun _ ds => decide (uptoBulkAll ds ≤ 1048576)
def OpenSpec.upto (s : _root_.Go.ChangeSpec) : _root_.Go.OpenSpec := { _root_.Go.OpenSpec.ofChange s with cond := some uptoSmall }

/-- 'telemeterlaw10.HeapDrop', WHERE WHAT IT READS IS OF BULK AT MOST 1048576: true; the input reads as it did. -/
def heapDropUptoRow : OpenClaim := { program := "ytlbopajnnbnolaa", sum := "8fe07188303b90948aae0266a3d0aea99857ddddbb1dd27efbe73f74a6ee1d16", func := "telemeter/telemeterlaw10.HeapDrop", spec := "heapDrop", unfollowed := true, recurses := true, apart := false, narrowed := true }
def HeapDropUptoSaid : Prop := heapDropUptoRow.holds Try.pinned (OpenSpec.upto heapDropSpec)

/-- 'telemeterlaw10.HeapDoes', WHERE WHAT IT READS IS OF BULK AT MOST 1048576: true; the input reads as it did. -/
def heapDoesUptoRow : OpenClaim := { program := "ytlbopajnnbnolaa", sum := "8fe07188303b90948aae0266a3d0aea99857ddddbb1dd27efbe73f74a6ee1d16", func := "telemeter/telemeterlaw10.HeapDoes", spec := "heapDoes", unfollowed := true, recurses := true, apart := false, narrowed := true }
def HeapDoesUptoSaid : Prop := heapDoesUptoRow.holds Try.pinned (OpenSpec.upto heapDoesSpec)

/-- 'telemeterlaw10.HeapSorts', WHERE WHAT IT READS IS OF BULK AT MOST 1048576: true; the input reads as it did. -/
def heapSortsUptoRow : OpenClaim := { program := "ytlbopajnnbnolaa", sum := "8fe07188303b90948aae0266a3d0aea99857ddddbb1dd27efbe73f74a6ee1d16", func := "telemeter/telemeterlaw10.HeapSorts", spec := "heapSorts", unfollowed := true, recurses := true, apart := false, narrowed := true }
def HeapSortsUptoSaid : Prop := heapSortsUptoRow.holds Try.pinned (OpenSpec.upto heapSortsSpec)

/-- 'telemeterlaw10.HeapFull', WHERE WHAT IT READS IS OF BULK AT MOST 1048576: true; the input reads as it did. -/
def heapFullUptoRow : OpenClaim := { program := "ytlbopajnnbnolaa", sum := "8fe07188303b90948aae0266a3d0aea99857ddddbb1dd27efbe73f74a6ee1d16", func := "telemeter/telemeterlaw10.HeapFull", spec := "heapFull", unfollowed := true, recurses := true, apart := false, narrowed := true }
def HeapFullUptoSaid : Prop := heapFullUptoRow.holds Try.pinned (OpenSpec.upto heapFullSpec)

/-- 'telemeterlaw10.HeapDue', WHERE WHAT IT READS IS OF BULK AT MOST 1048576: true; the input reads as it did. -/
def heapDueUptoRow : OpenClaim := { program := "ytlbopajnnbnolaa", sum := "8fe07188303b90948aae0266a3d0aea99857ddddbb1dd27efbe73f74a6ee1d16", func := "telemeter/telemeterlaw10.HeapDue", spec := "heapDue", unfollowed := true, recurses := true, apart := false, narrowed := true }
def HeapDueUptoSaid : Prop := heapDueUptoRow.holds Try.pinned (OpenSpec.upto heapDueSpec)

end Rows
end Go.Proofs.Ytlbopajnnbnolaa
