/-
  NARROWER THAN 'FOR EVERY INPUT', by the rows' own cells (each row's printed sentence says how): HashMixes: laid · HashTexts: laid · HashBack: laid · HashApart: laid · HashWithin: laid.
  DERIVED. THE GIVEN ROWS OF THIS SEAT. 5 by the template 'for every input the law returns true; each argument reads behind the call as it read before'; 0 by the template 'total and deterministic' (their statements: YtmomboinapgpjaaDoorTotals.lean).
  GIVEN WITH THE SEED: the statements are not yours to turn. If you find one false, say at which input.
  Laid BY PROGRAM, IN A SANDBOX (cutbox-rows.mjs): the forced cells as the released guide's own fill.sh prints them over the translation 35d455889d12b6c5… (all of the seat's roots in one cut). By AI agents, Wed Nov 11 2026. No macro, syntax, notation, axiom, sorry.
-/
import Derived.Test.YtmomboinapgpjaaDoorChecked
import GoSem.Claim
import GoSem.ClaimJoined
import GoSem.ClaimMapViews
import Derived.JoinedTies
import Derived.KernelRfl
namespace Go.Proofs.YtmomboinapgpjaaDoor
/- THE CELL 'sum', in the pinned program and in every row, IS THE sha256 OF THE DUMP (.gsa) THAT YtmomboinapgpjaaDoorProg.lean LOADS. Nothing in Lean hashes anything: it is a label: what it is worth is what the hold of that sum in a sandbox is worth. -/
noncomputable def Tryd.pinned : Pinned := { name := "ytmomboinapgpjaadoor", sum := "35d455889d12b6c5cf376e05817637e5565bea7d06bbc1026f529c4087c999d3", checked := Tryd.checked }
namespace Rows
def none {H : Type} : Left H := { results := [], args := [] }

/- WHAT THE LISTED PACKAGE-LEVEL VARIABLES READ AS WHEN THE CALL BEGINS. Each datum BY PROGRAM (the guide's laid-datum.mjs) off the statement by which the dump's own 'gosem.cut.vars' lays the variable. In a bare row this is a premise. The card (YtmomboinapgpjaaDoorCards.lean) ties it to the program's text. -/
def laid_telemeter_hash_steps {H : Type} : DataW H := .agg [.agg [.lit (.int .u64 30), .lit (.int .u64 13787848793156543929), .lit (.int .u64 10871156337175269513)], .agg [.lit (.int .u64 27), .lit (.int .u64 10723151780598845931), .lit (.int .u64 3573116690164977347)], .agg [.lit (.int .u64 31), .lit (.int .u64 1), .lit (.int .u64 1)]]

/-- 'telemeterlaw06.HashMixes': WHATEVER THE INPUT: true; the input reads as it did. -/
def hashMixesSpec : ChangeSpec := { name := "hashMixes", fn := fun _ => fun
  | [d1, d2] => { results := [.lit (.bool true)], args := [d1, d2] }
  | _ => none }
def hashMixesRow : OpenClaim := { program := "ytmomboinapgpjaadoor", sum := "35d455889d12b6c5cf376e05817637e5565bea7d06bbc1026f529c4087c999d3", func := "telemeter/telemeterlaw06.HashMixes", spec := "hashMixes", named := ["telemeter/hash.steps"], apart := false, laid := [("telemeter/hash.steps", laid_telemeter_hash_steps)] }
def HashMixesSaid : Prop := hashMixesRow.holds Tryd.pinned (OpenSpec.ofChange hashMixesSpec)

/-- ITS FALSE NEIGHBOUR: 'it returns false'. Refute it at one input. -/
def hashMixesWrong : ChangeSpec := { name := "hashMixes", fn := fun _ => fun
  | [d1, d2] => { results := [.lit (.bool false)], args := [d1, d2] }
  | _ => none }
def HashMixesWrongFalsely : Prop := hashMixesRow.holds Tryd.pinned (OpenSpec.ofChange hashMixesWrong)

/-- 'telemeterlaw06.HashTexts': WHATEVER THE INPUT: true; the input reads as it did. -/
def hashTextsSpec : ChangeSpec := { name := "hashTexts", fn := fun _ => fun
  | [d1, d2, d3, d4] => { results := [.lit (.bool true)], args := [d1, d2, d3, d4] }
  | _ => none }
def hashTextsRow : OpenClaim := { program := "ytmomboinapgpjaadoor", sum := "35d455889d12b6c5cf376e05817637e5565bea7d06bbc1026f529c4087c999d3", func := "telemeter/telemeterlaw06.HashTexts", spec := "hashTexts", named := ["telemeter/hash.steps"], apart := false, laid := [("telemeter/hash.steps", laid_telemeter_hash_steps)] }
def HashTextsSaid : Prop := hashTextsRow.holds Tryd.pinned (OpenSpec.ofChange hashTextsSpec)

/-- ITS FALSE NEIGHBOUR: 'it returns false'. Refute it at one input. -/
def hashTextsWrong : ChangeSpec := { name := "hashTexts", fn := fun _ => fun
  | [d1, d2, d3, d4] => { results := [.lit (.bool false)], args := [d1, d2, d3, d4] }
  | _ => none }
def HashTextsWrongFalsely : Prop := hashTextsRow.holds Tryd.pinned (OpenSpec.ofChange hashTextsWrong)

/-- 'telemeterlaw06.HashBack': WHATEVER THE INPUT: true; the input reads as it did. -/
def hashBackSpec : ChangeSpec := { name := "hashBack", fn := fun _ => fun
  | [d] => { results := [.lit (.bool true)], args := [d] }
  | _ => none }
def hashBackRow : OpenClaim := { program := "ytmomboinapgpjaadoor", sum := "35d455889d12b6c5cf376e05817637e5565bea7d06bbc1026f529c4087c999d3", func := "telemeter/telemeterlaw06.HashBack", spec := "hashBack", named := ["telemeter/hash.steps"], apart := false, laid := [("telemeter/hash.steps", laid_telemeter_hash_steps)] }
def HashBackSaid : Prop := hashBackRow.holds Tryd.pinned (OpenSpec.ofChange hashBackSpec)

/-- ITS FALSE NEIGHBOUR: 'it returns false'. Refute it at one input. -/
def hashBackWrong : ChangeSpec := { name := "hashBack", fn := fun _ => fun
  | [d] => { results := [.lit (.bool false)], args := [d] }
  | _ => none }
def HashBackWrongFalsely : Prop := hashBackRow.holds Tryd.pinned (OpenSpec.ofChange hashBackWrong)

/-- 'telemeterlaw06.HashApart': WHATEVER THE INPUT: true; the input reads as it did. -/
def hashApartSpec : ChangeSpec := { name := "hashApart", fn := fun _ => fun
  | [d1, d2, d3, d4] => { results := [.lit (.bool true)], args := [d1, d2, d3, d4] }
  | _ => none }
def hashApartRow : OpenClaim := { program := "ytmomboinapgpjaadoor", sum := "35d455889d12b6c5cf376e05817637e5565bea7d06bbc1026f529c4087c999d3", func := "telemeter/telemeterlaw06.HashApart", spec := "hashApart", named := ["telemeter/hash.steps"], apart := false, laid := [("telemeter/hash.steps", laid_telemeter_hash_steps)] }
def HashApartSaid : Prop := hashApartRow.holds Tryd.pinned (OpenSpec.ofChange hashApartSpec)

/-- ITS FALSE NEIGHBOUR: 'it returns false'. Refute it at one input. -/
def hashApartWrong : ChangeSpec := { name := "hashApart", fn := fun _ => fun
  | [d1, d2, d3, d4] => { results := [.lit (.bool false)], args := [d1, d2, d3, d4] }
  | _ => none }
def HashApartWrongFalsely : Prop := hashApartRow.holds Tryd.pinned (OpenSpec.ofChange hashApartWrong)

/-- 'telemeterlaw06.HashWithin': WHATEVER THE INPUT: true; the input reads as it did. -/
def hashWithinSpec : ChangeSpec := { name := "hashWithin", fn := fun _ => fun
  | [d1, d2, d3] => { results := [.lit (.bool true)], args := [d1, d2, d3] }
  | _ => none }
def hashWithinRow : OpenClaim := { program := "ytmomboinapgpjaadoor", sum := "35d455889d12b6c5cf376e05817637e5565bea7d06bbc1026f529c4087c999d3", func := "telemeter/telemeterlaw06.HashWithin", spec := "hashWithin", named := ["telemeter/hash.steps"], apart := false, laid := [("telemeter/hash.steps", laid_telemeter_hash_steps)] }
def HashWithinSaid : Prop := hashWithinRow.holds Tryd.pinned (OpenSpec.ofChange hashWithinSpec)

/-- ITS FALSE NEIGHBOUR: 'it returns false'. Refute it at one input. -/
def hashWithinWrong : ChangeSpec := { name := "hashWithin", fn := fun _ => fun
  | [d1, d2, d3] => { results := [.lit (.bool false)], args := [d1, d2, d3] }
  | _ => none }
def HashWithinWrongFalsely : Prop := hashWithinRow.holds Tryd.pinned (OpenSpec.ofChange hashWithinWrong)

/- THE SECOND FORM. 'bulk': how many values and letters a reading holds, each counted each time it is reached (what is shared counts as often as it is met; a slice's spare places count too). A statement '..UptoSaid' is the law's where the arguments, and the package variables that the reading takes, are together of bulk at most 1048576: NARROWER than '..Said'. Prove '..Said' where nothing that the law and all that it calls make is longer than what came in: it says more and counts as full. Else prove '..UptoSaid'. A law counts once. -/
mutual
def uptoBulk {H : Type} : DataW H → Nat
  | .lit (.string bytes) => bytes.length + 1
  | .lit _ => 1
  | .nil => 1
  | .ptr d => uptoBulk d + 1
  | .slice elems spare => uptoBulkAll elems + uptoBulkAll spare + 1
  | .agg parts => uptoBulkAll parts + 1
  | .iface _ d => uptoBulk d + 1
  | .map entries => uptoBulkEntries entries + 1
  | .held _ => 1
def uptoBulkAll {H : Type} : List (DataW H) → Nat
  | [] => 0
  | d :: r => uptoBulk d + uptoBulkAll r
def uptoBulkEntries {H : Type} : List (Lit × DataW H) → Nat
  | [] => 0
  | x :: r => uptoBulkEntry x + uptoBulkEntries r
def uptoBulkEntry {H : Type} : Lit × DataW H → Nat
  | (.string bytes, d) => bytes.length + uptoBulk d + 1
  | (_, d) => uptoBulk d + 1
 end
def uptoSmall : (H : Type) → List (DataW H) → Bool := fun _ ds => decide (uptoBulkAll ds ≤ 1048576)
def OpenSpec.upto (s : _root_.Go.ChangeSpec) : _root_.Go.OpenSpec := { _root_.Go.OpenSpec.ofChange s with cond := some uptoSmall }

/-- 'telemeterlaw06.HashMixes', WHERE WHAT IT READS IS OF BULK AT MOST 1048576: true; the input reads as it did. -/
def hashMixesUptoRow : OpenClaim := { program := "ytmomboinapgpjaadoor", sum := "35d455889d12b6c5cf376e05817637e5565bea7d06bbc1026f529c4087c999d3", func := "telemeter/telemeterlaw06.HashMixes", spec := "hashMixes", named := ["telemeter/hash.steps"], apart := false, laid := [("telemeter/hash.steps", laid_telemeter_hash_steps)], narrowed := true }
def HashMixesUptoSaid : Prop := hashMixesUptoRow.holds Tryd.pinned (OpenSpec.upto hashMixesSpec)

/-- 'telemeterlaw06.HashTexts', WHERE WHAT IT READS IS OF BULK AT MOST 1048576: true; the input reads as it did. -/
def hashTextsUptoRow : OpenClaim := { program := "ytmomboinapgpjaadoor", sum := "35d455889d12b6c5cf376e05817637e5565bea7d06bbc1026f529c4087c999d3", func := "telemeter/telemeterlaw06.HashTexts", spec := "hashTexts", named := ["telemeter/hash.steps"], apart := false, laid := [("telemeter/hash.steps", laid_telemeter_hash_steps)], narrowed := true }
def HashTextsUptoSaid : Prop := hashTextsUptoRow.holds Tryd.pinned (OpenSpec.upto hashTextsSpec)

/-- 'telemeterlaw06.HashBack', WHERE WHAT IT READS IS OF BULK AT MOST 1048576: true; the input reads as it did. -/
def hashBackUptoRow : OpenClaim := { program := "ytmomboinapgpjaadoor", sum := "35d455889d12b6c5cf376e05817637e5565bea7d06bbc1026f529c4087c999d3", func := "telemeter/telemeterlaw06.HashBack", spec := "hashBack", named := ["telemeter/hash.steps"], apart := false, laid := [("telemeter/hash.steps", laid_telemeter_hash_steps)], narrowed := true }
def HashBackUptoSaid : Prop := hashBackUptoRow.holds Tryd.pinned (OpenSpec.upto hashBackSpec)

/-- 'telemeterlaw06.HashApart', WHERE WHAT IT READS IS OF BULK AT MOST 1048576: true; the input reads as it did. -/
def hashApartUptoRow : OpenClaim := { program := "ytmomboinapgpjaadoor", sum := "35d455889d12b6c5cf376e05817637e5565bea7d06bbc1026f529c4087c999d3", func := "telemeter/telemeterlaw06.HashApart", spec := "hashApart", named := ["telemeter/hash.steps"], apart := false, laid := [("telemeter/hash.steps", laid_telemeter_hash_steps)], narrowed := true }
def HashApartUptoSaid : Prop := hashApartUptoRow.holds Tryd.pinned (OpenSpec.upto hashApartSpec)

/-- 'telemeterlaw06.HashWithin', WHERE WHAT IT READS IS OF BULK AT MOST 1048576: true; the input reads as it did. -/
def hashWithinUptoRow : OpenClaim := { program := "ytmomboinapgpjaadoor", sum := "35d455889d12b6c5cf376e05817637e5565bea7d06bbc1026f529c4087c999d3", func := "telemeter/telemeterlaw06.HashWithin", spec := "hashWithin", named := ["telemeter/hash.steps"], apart := false, laid := [("telemeter/hash.steps", laid_telemeter_hash_steps)], narrowed := true }
def HashWithinUptoSaid : Prop := hashWithinUptoRow.holds Tryd.pinned (OpenSpec.upto hashWithinSpec)

end Rows
end Go.Proofs.YtmomboinapgpjaaDoor
