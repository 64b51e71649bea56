/-
  NARROWER THAN 'FOR EVERY INPUT', by the rows' own cells (each row's printed sentence says how): SketchZero: laid · SketchCounts: laid · SketchNever: laid · SketchRows: laid · SketchAlone: laid · SketchCopies: laid.
  DERIVED. THE GIVEN ROWS OF THIS SEAT. 6 by the template 'for every input the law returns true; each argument reads behind the call as it read before'; 0 by the template 'total and deterministic' (their statements: YtmacehpfhhlnpaaDoorTotals.lean).
  GIVEN WITH THE SEED: the statements are not yours to turn. If you find one false, say at which input.
  Laid BY PROGRAM, IN A SANDBOX (cutbox-rows.mjs): the forced cells as the released guide's own fill.sh prints them over the translation 5d2a414bcd76f701… (all of the seat's roots in one cut). By AI agents, Wed Nov 11 2026. No macro, syntax, notation, axiom, sorry.
-/
import Derived.Test.YtmacehpfhhlnpaaDoorChecked
import GoSem.Claim
import GoSem.ClaimJoined
import GoSem.ClaimMapViews
import Derived.JoinedTies
import Derived.KernelRfl
namespace Go.Proofs.YtmacehpfhhlnpaaDoor
/- THE CELL 'sum', in the pinned program and in every row, IS THE sha256 OF THE DUMP (.gsa) THAT YtmacehpfhhlnpaaDoorProg.lean LOADS. Nothing in Lean hashes anything: it is a label: what it is worth is what the hold of that sum in a sandbox is worth. -/
noncomputable def Tryd.pinned : Pinned := { name := "ytmacehpfhhlnpaadoor", sum := "5d2a414bcd76f7018b0d44be47d982641d7f615d883d228973926dba3a2ab351", checked := Tryd.checked }
namespace Rows
def none {H : Type} : Left H := { results := [], args := [] }

/- WHAT THE LISTED PACKAGE-LEVEL VARIABLES READ AS WHEN THE CALL BEGINS. Each datum BY PROGRAM (the guide's laid-datum.mjs) off the statement by which the dump's own 'gosem.cut.vars' lays the variable. In a bare row this is a premise. The card (YtmacehpfhhlnpaaDoorCards.lean) ties it to the program's text. -/
def laid_telemeter_hash_steps {H : Type} : DataW H := .agg [.agg [.lit (.int .u64 30), .lit (.int .u64 13787848793156543929), .lit (.int .u64 10871156337175269513)], .agg [.lit (.int .u64 27), .lit (.int .u64 10723151780598845931), .lit (.int .u64 3573116690164977347)], .agg [.lit (.int .u64 31), .lit (.int .u64 1), .lit (.int .u64 1)]]

/-- 'telemeterlaw07.SketchZero': WHATEVER THE INPUT: true; the input reads as it did. -/
def sketchZeroSpec : ChangeSpec := { name := "sketchZero", fn := fun _ => fun
  | [d1, d2, d3, d4] => { results := [.lit (.bool true)], args := [d1, d2, d3, d4] }
  | _ => none }
def sketchZeroRow : OpenClaim := { program := "ytmacehpfhhlnpaadoor", sum := "5d2a414bcd76f7018b0d44be47d982641d7f615d883d228973926dba3a2ab351", func := "telemeter/telemeterlaw07.SketchZero", spec := "sketchZero", named := ["telemeter/hash.steps"], apart := false, laid := [("telemeter/hash.steps", laid_telemeter_hash_steps)] }
def SketchZeroSaid : Prop := sketchZeroRow.holds Tryd.pinned (OpenSpec.ofChange sketchZeroSpec)

/-- ITS FALSE NEIGHBOUR: 'it returns false'. Refute it at one input. -/
def sketchZeroWrong : ChangeSpec := { name := "sketchZero", fn := fun _ => fun
  | [d1, d2, d3, d4] => { results := [.lit (.bool false)], args := [d1, d2, d3, d4] }
  | _ => none }
def SketchZeroWrongFalsely : Prop := sketchZeroRow.holds Tryd.pinned (OpenSpec.ofChange sketchZeroWrong)

/-- 'telemeterlaw07.SketchCounts': WHATEVER THE INPUT: true; the input reads as it did. -/
def sketchCountsSpec : ChangeSpec := { name := "sketchCounts", fn := fun _ => fun
  | [d1, d2, d3, d4, d5, d6, d7, d8, d9] => { results := [.lit (.bool true)], args := [d1, d2, d3, d4, d5, d6, d7, d8, d9] }
  | _ => none }
def sketchCountsRow : OpenClaim := { program := "ytmacehpfhhlnpaadoor", sum := "5d2a414bcd76f7018b0d44be47d982641d7f615d883d228973926dba3a2ab351", func := "telemeter/telemeterlaw07.SketchCounts", spec := "sketchCounts", named := ["telemeter/hash.steps"], apart := false, laid := [("telemeter/hash.steps", laid_telemeter_hash_steps)] }
def SketchCountsSaid : Prop := sketchCountsRow.holds Tryd.pinned (OpenSpec.ofChange sketchCountsSpec)

/-- ITS FALSE NEIGHBOUR: 'it returns false'. Refute it at one input. -/
def sketchCountsWrong : ChangeSpec := { name := "sketchCounts", fn := fun _ => fun
  | [d1, d2, d3, d4, d5, d6, d7, d8, d9] => { results := [.lit (.bool false)], args := [d1, d2, d3, d4, d5, d6, d7, d8, d9] }
  | _ => none }
def SketchCountsWrongFalsely : Prop := sketchCountsRow.holds Tryd.pinned (OpenSpec.ofChange sketchCountsWrong)

/-- 'telemeterlaw07.SketchNever': WHATEVER THE INPUT: true; the input reads as it did. -/
def sketchNeverSpec : ChangeSpec := { name := "sketchNever", fn := fun _ => fun
  | [d1, d2, d3, d4, d5] => { results := [.lit (.bool true)], args := [d1, d2, d3, d4, d5] }
  | _ => none }
def sketchNeverRow : OpenClaim := { program := "ytmacehpfhhlnpaadoor", sum := "5d2a414bcd76f7018b0d44be47d982641d7f615d883d228973926dba3a2ab351", func := "telemeter/telemeterlaw07.SketchNever", spec := "sketchNever", named := ["telemeter/hash.steps"], apart := false, laid := [("telemeter/hash.steps", laid_telemeter_hash_steps)] }
def SketchNeverSaid : Prop := sketchNeverRow.holds Tryd.pinned (OpenSpec.ofChange sketchNeverSpec)

/-- ITS FALSE NEIGHBOUR: 'it returns false'. Refute it at one input. -/
def sketchNeverWrong : ChangeSpec := { name := "sketchNever", fn := fun _ => fun
  | [d1, d2, d3, d4, d5] => { results := [.lit (.bool false)], args := [d1, d2, d3, d4, d5] }
  | _ => none }
def SketchNeverWrongFalsely : Prop := sketchNeverRow.holds Tryd.pinned (OpenSpec.ofChange sketchNeverWrong)

/-- 'telemeterlaw07.SketchRows': WHATEVER THE INPUT: true; the input reads as it did. -/
def sketchRowsSpec : ChangeSpec := { name := "sketchRows", fn := fun _ => fun
  | [d1, d2, d3, d4] => { results := [.lit (.bool true)], args := [d1, d2, d3, d4] }
  | _ => none }
def sketchRowsRow : OpenClaim := { program := "ytmacehpfhhlnpaadoor", sum := "5d2a414bcd76f7018b0d44be47d982641d7f615d883d228973926dba3a2ab351", func := "telemeter/telemeterlaw07.SketchRows", spec := "sketchRows", named := ["telemeter/hash.steps"], apart := false, laid := [("telemeter/hash.steps", laid_telemeter_hash_steps)] }
def SketchRowsSaid : Prop := sketchRowsRow.holds Tryd.pinned (OpenSpec.ofChange sketchRowsSpec)

/-- ITS FALSE NEIGHBOUR: 'it returns false'. Refute it at one input. -/
def sketchRowsWrong : ChangeSpec := { name := "sketchRows", fn := fun _ => fun
  | [d1, d2, d3, d4] => { results := [.lit (.bool false)], args := [d1, d2, d3, d4] }
  | _ => none }
def SketchRowsWrongFalsely : Prop := sketchRowsRow.holds Tryd.pinned (OpenSpec.ofChange sketchRowsWrong)

/-- 'telemeterlaw07.SketchAlone': WHATEVER THE INPUT: true; the input reads as it did. -/
def sketchAloneSpec : ChangeSpec := { name := "sketchAlone", fn := fun _ => fun
  | [d1, d2, d3, d4] => { results := [.lit (.bool true)], args := [d1, d2, d3, d4] }
  | _ => none }
def sketchAloneRow : OpenClaim := { program := "ytmacehpfhhlnpaadoor", sum := "5d2a414bcd76f7018b0d44be47d982641d7f615d883d228973926dba3a2ab351", func := "telemeter/telemeterlaw07.SketchAlone", spec := "sketchAlone", named := ["telemeter/hash.steps"], apart := false, laid := [("telemeter/hash.steps", laid_telemeter_hash_steps)] }
def SketchAloneSaid : Prop := sketchAloneRow.holds Tryd.pinned (OpenSpec.ofChange sketchAloneSpec)

/-- ITS FALSE NEIGHBOUR: 'it returns false'. Refute it at one input. -/
def sketchAloneWrong : ChangeSpec := { name := "sketchAlone", fn := fun _ => fun
  | [d1, d2, d3, d4] => { results := [.lit (.bool false)], args := [d1, d2, d3, d4] }
  | _ => none }
def SketchAloneWrongFalsely : Prop := sketchAloneRow.holds Tryd.pinned (OpenSpec.ofChange sketchAloneWrong)

/-- 'telemeterlaw07.SketchCopies': WHATEVER THE INPUT: true; the input reads as it did. -/
def sketchCopiesSpec : ChangeSpec := { name := "sketchCopies", fn := fun _ => fun
  | [d1, d2, d3] => { results := [.lit (.bool true)], args := [d1, d2, d3] }
  | _ => none }
def sketchCopiesRow : OpenClaim := { program := "ytmacehpfhhlnpaadoor", sum := "5d2a414bcd76f7018b0d44be47d982641d7f615d883d228973926dba3a2ab351", func := "telemeter/telemeterlaw07.SketchCopies", spec := "sketchCopies", named := ["telemeter/hash.steps"], apart := false, laid := [("telemeter/hash.steps", laid_telemeter_hash_steps)] }
def SketchCopiesSaid : Prop := sketchCopiesRow.holds Tryd.pinned (OpenSpec.ofChange sketchCopiesSpec)

/-- ITS FALSE NEIGHBOUR: 'it returns false'. Refute it at one input. -/
def sketchCopiesWrong : ChangeSpec := { name := "sketchCopies", fn := fun _ => fun
  | [d1, d2, d3] => { results := [.lit (.bool false)], args := [d1, d2, d3] }
  | _ => none }
def SketchCopiesWrongFalsely : Prop := sketchCopiesRow.holds Tryd.pinned (OpenSpec.ofChange sketchCopiesWrong)

/- THE SECOND FORM. 'bulk': how many values and letters a reading holds, each counted each time it is reached (what is shared counts as often as it is met; a slice's spare places count too). A statement '..UptoSaid' is the law's where the arguments, and the package variables that the reading takes, are together of bulk at most 1048576: NARROWER than '..Said'. Prove '..Said' where nothing that the law and all that it calls make is longer than what came in: it says more and counts as full. Else prove '..UptoSaid'. A law counts once. -/
mutual
def uptoBulk {H : Type} : DataW H → Nat
  | .lit (.string bytes) => bytes.length + 1
  | .lit _ => 1
  | .nil => 1
  | .ptr d => uptoBulk d + 1
  | .slice elems spare => uptoBulkAll elems + uptoBulkAll spare + 1
  | .agg parts => uptoBulkAll parts + 1
  | .iface _ d => uptoBulk d + 1
  | .map entries => uptoBulkEntries entries + 1
  | .held _ => 1
def uptoBulkAll {H : Type} : List (DataW H) → Nat
  | [] => 0
  | d :: r => uptoBulk d + uptoBulkAll r
def uptoBulkEntries {H : Type} : List (Lit × DataW H) → Nat
  | [] => 0
  | x :: r => uptoBulkEntry x + uptoBulkEntries r
def uptoBulkEntry {H : Type} : Lit × DataW H → Nat
  | (.string bytes, d) => bytes.length + uptoBulk d + 1
  | (_, d) => uptoBulk d + 1
 end
def uptoSmall : (H : Type) → List (DataW H) → Bool := fun _ ds => decide (uptoBulkAll ds ≤ 1048576)
def OpenSpec.upto (s : _root_.Go.ChangeSpec) : _root_.Go.OpenSpec := { _root_.Go.OpenSpec.ofChange s with cond := some uptoSmall }

/-- 'telemeterlaw07.SketchZero', WHERE WHAT IT READS IS OF BULK AT MOST 1048576: true; the input reads as it did. -/
def sketchZeroUptoRow : OpenClaim := { program := "ytmacehpfhhlnpaadoor", sum := "5d2a414bcd76f7018b0d44be47d982641d7f615d883d228973926dba3a2ab351", func := "telemeter/telemeterlaw07.SketchZero", spec := "sketchZero", named := ["telemeter/hash.steps"], apart := false, laid := [("telemeter/hash.steps", laid_telemeter_hash_steps)], narrowed := true }
def SketchZeroUptoSaid : Prop := sketchZeroUptoRow.holds Tryd.pinned (OpenSpec.upto sketchZeroSpec)

/-- 'telemeterlaw07.SketchCounts', WHERE WHAT IT READS IS OF BULK AT MOST 1048576: true; the input reads as it did. -/
def sketchCountsUptoRow : OpenClaim := { program := "ytmacehpfhhlnpaadoor", sum := "5d2a414bcd76f7018b0d44be47d982641d7f615d883d228973926dba3a2ab351", func := "telemeter/telemeterlaw07.SketchCounts", spec := "sketchCounts", named := ["telemeter/hash.steps"], apart := false, laid := [("telemeter/hash.steps", laid_telemeter_hash_steps)], narrowed := true }
def SketchCountsUptoSaid : Prop := sketchCountsUptoRow.holds Tryd.pinned (OpenSpec.upto sketchCountsSpec)

/-- 'telemeterlaw07.SketchNever', WHERE WHAT IT READS IS OF BULK AT MOST 1048576: true; the input reads as it did. -/
def sketchNeverUptoRow : OpenClaim := { program := "ytmacehpfhhlnpaadoor", sum := "5d2a414bcd76f7018b0d44be47d982641d7f615d883d228973926dba3a2ab351", func := "telemeter/telemeterlaw07.SketchNever", spec := "sketchNever", named := ["telemeter/hash.steps"], apart := false, laid := [("telemeter/hash.steps", laid_telemeter_hash_steps)], narrowed := true }
def SketchNeverUptoSaid : Prop := sketchNeverUptoRow.holds Tryd.pinned (OpenSpec.upto sketchNeverSpec)

/-- 'telemeterlaw07.SketchRows', WHERE WHAT IT READS IS OF BULK AT MOST 1048576: true; the input reads as it did. -/
def sketchRowsUptoRow : OpenClaim := { program := "ytmacehpfhhlnpaadoor", sum := "5d2a414bcd76f7018b0d44be47d982641d7f615d883d228973926dba3a2ab351", func := "telemeter/telemeterlaw07.SketchRows", spec := "sketchRows", named := ["telemeter/hash.steps"], apart := false, laid := [("telemeter/hash.steps", laid_telemeter_hash_steps)], narrowed := true }
def SketchRowsUptoSaid : Prop := sketchRowsUptoRow.holds Tryd.pinned (OpenSpec.upto sketchRowsSpec)

/-- 'telemeterlaw07.SketchAlone', WHERE WHAT IT READS IS OF BULK AT MOST 1048576: true; the input reads as it did. -/
def sketchAloneUptoRow : OpenClaim := { program := "ytmacehpfhhlnpaadoor", sum := "5d2a414bcd76f7018b0d44be47d982641d7f615d883d228973926dba3a2ab351", func := "telemeter/telemeterlaw07.SketchAlone", spec := "sketchAlone", named := ["telemeter/hash.steps"], apart := false, laid := [("telemeter/hash.steps", laid_telemeter_hash_steps)], narrowed := true }
def SketchAloneUptoSaid : Prop := sketchAloneUptoRow.holds Tryd.pinned (OpenSpec.upto sketchAloneSpec)

/-- 'telemeterlaw07.SketchCopies', WHERE WHAT IT READS IS OF BULK AT MOST 1048576: true; the input reads as it did. -/
def sketchCopiesUptoRow : OpenClaim := { program := "ytmacehpfhhlnpaadoor", sum := "5d2a414bcd76f7018b0d44be47d982641d7f615d883d228973926dba3a2ab351", func := "telemeter/telemeterlaw07.SketchCopies", spec := "sketchCopies", named := ["telemeter/hash.steps"], apart := false, laid := [("telemeter/hash.steps", laid_telemeter_hash_steps)], narrowed := true }
def SketchCopiesUptoSaid : Prop := sketchCopiesUptoRow.holds Tryd.pinned (OpenSpec.upto sketchCopiesSpec)

end Rows
end Go.Proofs.YtmacehpfhhlnpaaDoor
