/-
  NARROWER THAN 'FOR EVERY INPUT', by the rows' own cells (each row's printed sentence says how): RateBy: laid · RateAsks: laid · RateKeeps: laid · RateToward: laid · RateSteady: laid · RateFirst: laid.
  DERIVED. THE GIVEN ROWS OF THIS SEAT. 6 by the template 'for every input the law returns true; each argument reads behind the call as it read before'; 0 by the template 'total and deterministic' (their statements: YtkhbodlffhfmnaaDoorTotals.lean).
  GIVEN WITH THE SEED: the statements are not yours to turn. If you find one false, say at which input.
  Laid BY PROGRAM, IN A SANDBOX (cutbox-rows.mjs): the forced cells as the released guide's own fill.sh prints them over the translation 850c9b9841ce95f6… (all of the seat's roots in one cut). By AI agents, Wed Nov 11 2026. No macro, syntax, notation, axiom, sorry.
-/
import Derived.Test.YtkhbodlffhfmnaaDoorChecked
import GoSem.Claim
import GoSem.ClaimJoined
import GoSem.ClaimMapViews
import Derived.JoinedTies
import Derived.KernelRfl
namespace Go.Proofs.YtkhbodlffhfmnaaDoor
/- THE CELL 'sum', in the pinned program and in every row, IS THE sha256 OF THE DUMP (.gsa) THAT YtkhbodlffhfmnaaDoorProg.lean LOADS. Nothing in Lean hashes anything: it is a label: what it is worth is what the hold of that sum in a sandbox is worth. -/
noncomputable def Tryd.pinned : Pinned := { name := "ytkhbodlffhfmnaadoor", sum := "850c9b9841ce95f6fd235804be0507fd7e1d4f76afed559e1d1febc4b0e6c1e9", checked := Tryd.checked }
namespace Rows
def none {H : Type} : Left H := { results := [], args := [] }

/- WHAT THE LISTED PACKAGE-LEVEL VARIABLES READ AS WHEN THE CALL BEGINS. Each datum BY PROGRAM (the guide's laid-datum.mjs) off the statement by which the dump's own 'gosem.cut.vars' lays the variable. In a bare row this is a premise. The card (YtkhbodlffhfmnaaDoorCards.lean) ties it to the program's text. -/
def laid_telemeter_hash_steps {H : Type} : DataW H := .agg [.agg [.lit (.int .u64 30), .lit (.int .u64 13787848793156543929), .lit (.int .u64 10871156337175269513)], .agg [.lit (.int .u64 27), .lit (.int .u64 10723151780598845931), .lit (.int .u64 3573116690164977347)], .agg [.lit (.int .u64 31), .lit (.int .u64 1), .lit (.int .u64 1)]]

/-- 'telemeterlaw09.RateBy': WHATEVER THE INPUT: true; the input reads as it did. -/
def rateBySpec : ChangeSpec := { name := "rateBy", fn := fun _ => fun
  | [d1, d2, d3, d4] => { results := [.lit (.bool true)], args := [d1, d2, d3, d4] }
  | _ => none }
def rateByRow : OpenClaim := { program := "ytkhbodlffhfmnaadoor", sum := "850c9b9841ce95f6fd235804be0507fd7e1d4f76afed559e1d1febc4b0e6c1e9", func := "telemeter/telemeterlaw09.RateBy", spec := "rateBy", unfollowed := true, recurses := true, named := ["telemeter/hash.steps", "math/bits.divideError", "math/bits.overflowError"], apart := false, laid := [("telemeter/hash.steps", laid_telemeter_hash_steps)] }
def RateBySaid : Prop := rateByRow.holds Tryd.pinned (OpenSpec.ofChange rateBySpec)

/-- ITS FALSE NEIGHBOUR: 'it returns false'. Refute it at one input. -/
def rateByWrong : ChangeSpec := { name := "rateBy", fn := fun _ => fun
  | [d1, d2, d3, d4] => { results := [.lit (.bool false)], args := [d1, d2, d3, d4] }
  | _ => none }
def RateByWrongFalsely : Prop := rateByRow.holds Tryd.pinned (OpenSpec.ofChange rateByWrong)

/-- 'telemeterlaw09.RateAsks': WHATEVER THE INPUT: true; the input reads as it did. -/
def rateAsksSpec : ChangeSpec := { name := "rateAsks", fn := fun _ => fun
  | [d1, d2, d3, d4, d5, d6, d7, d8] => { results := [.lit (.bool true)], args := [d1, d2, d3, d4, d5, d6, d7, d8] }
  | _ => none }
def rateAsksRow : OpenClaim := { program := "ytkhbodlffhfmnaadoor", sum := "850c9b9841ce95f6fd235804be0507fd7e1d4f76afed559e1d1febc4b0e6c1e9", func := "telemeter/telemeterlaw09.RateAsks", spec := "rateAsks", unfollowed := true, recurses := true, named := ["telemeter/hash.steps", "math/bits.divideError", "math/bits.overflowError"], apart := false, laid := [("telemeter/hash.steps", laid_telemeter_hash_steps)] }
def RateAsksSaid : Prop := rateAsksRow.holds Tryd.pinned (OpenSpec.ofChange rateAsksSpec)

/-- ITS FALSE NEIGHBOUR: 'it returns false'. Refute it at one input. -/
def rateAsksWrong : ChangeSpec := { name := "rateAsks", fn := fun _ => fun
  | [d1, d2, d3, d4, d5, d6, d7, d8] => { results := [.lit (.bool false)], args := [d1, d2, d3, d4, d5, d6, d7, d8] }
  | _ => none }
def RateAsksWrongFalsely : Prop := rateAsksRow.holds Tryd.pinned (OpenSpec.ofChange rateAsksWrong)

/-- 'telemeterlaw09.RateKeeps': WHATEVER THE INPUT: true; the input reads as it did. -/
def rateKeepsSpec : ChangeSpec := { name := "rateKeeps", fn := fun _ => fun
  | [d1, d2] => { results := [.lit (.bool true)], args := [d1, d2] }
  | _ => none }
def rateKeepsRow : OpenClaim := { program := "ytkhbodlffhfmnaadoor", sum := "850c9b9841ce95f6fd235804be0507fd7e1d4f76afed559e1d1febc4b0e6c1e9", func := "telemeter/telemeterlaw09.RateKeeps", spec := "rateKeeps", unfollowed := true, recurses := true, named := ["math/bits.divideError", "math/bits.overflowError", "telemeter/hash.steps"], apart := false, laid := [("telemeter/hash.steps", laid_telemeter_hash_steps)] }
def RateKeepsSaid : Prop := rateKeepsRow.holds Tryd.pinned (OpenSpec.ofChange rateKeepsSpec)

/-- ITS FALSE NEIGHBOUR: 'it returns false'. Refute it at one input. -/
def rateKeepsWrong : ChangeSpec := { name := "rateKeeps", fn := fun _ => fun
  | [d1, d2] => { results := [.lit (.bool false)], args := [d1, d2] }
  | _ => none }
def RateKeepsWrongFalsely : Prop := rateKeepsRow.holds Tryd.pinned (OpenSpec.ofChange rateKeepsWrong)

/-- 'telemeterlaw09.RateToward': WHATEVER THE INPUT: true; the input reads as it did. -/
def rateTowardSpec : ChangeSpec := { name := "rateToward", fn := fun _ => fun
  | [d1, d2, d3] => { results := [.lit (.bool true)], args := [d1, d2, d3] }
  | _ => none }
def rateTowardRow : OpenClaim := { program := "ytkhbodlffhfmnaadoor", sum := "850c9b9841ce95f6fd235804be0507fd7e1d4f76afed559e1d1febc4b0e6c1e9", func := "telemeter/telemeterlaw09.RateToward", spec := "rateToward", unfollowed := true, recurses := true, named := ["telemeter/hash.steps", "math/bits.divideError", "math/bits.overflowError"], apart := false, laid := [("telemeter/hash.steps", laid_telemeter_hash_steps)] }
def RateTowardSaid : Prop := rateTowardRow.holds Tryd.pinned (OpenSpec.ofChange rateTowardSpec)

/-- ITS FALSE NEIGHBOUR: 'it returns false'. Refute it at one input. -/
def rateTowardWrong : ChangeSpec := { name := "rateToward", fn := fun _ => fun
  | [d1, d2, d3] => { results := [.lit (.bool false)], args := [d1, d2, d3] }
  | _ => none }
def RateTowardWrongFalsely : Prop := rateTowardRow.holds Tryd.pinned (OpenSpec.ofChange rateTowardWrong)

/-- 'telemeterlaw09.RateSteady': WHATEVER THE INPUT: true; the input reads as it did. -/
def rateSteadySpec : ChangeSpec := { name := "rateSteady", fn := fun _ => fun
  | [d1, d2, d3, d4] => { results := [.lit (.bool true)], args := [d1, d2, d3, d4] }
  | _ => none }
def rateSteadyRow : OpenClaim := { program := "ytkhbodlffhfmnaadoor", sum := "850c9b9841ce95f6fd235804be0507fd7e1d4f76afed559e1d1febc4b0e6c1e9", func := "telemeter/telemeterlaw09.RateSteady", spec := "rateSteady", unfollowed := true, recurses := true, named := ["telemeter/hash.steps", "math/bits.divideError", "math/bits.overflowError"], apart := false, laid := [("telemeter/hash.steps", laid_telemeter_hash_steps)] }
def RateSteadySaid : Prop := rateSteadyRow.holds Tryd.pinned (OpenSpec.ofChange rateSteadySpec)

/-- ITS FALSE NEIGHBOUR: 'it returns false'. Refute it at one input. -/
def rateSteadyWrong : ChangeSpec := { name := "rateSteady", fn := fun _ => fun
  | [d1, d2, d3, d4] => { results := [.lit (.bool false)], args := [d1, d2, d3, d4] }
  | _ => none }
def RateSteadyWrongFalsely : Prop := rateSteadyRow.holds Tryd.pinned (OpenSpec.ofChange rateSteadyWrong)

/-- 'telemeterlaw09.RateFirst': WHATEVER THE INPUT: true; the input reads as it did. -/
def rateFirstSpec : ChangeSpec := { name := "rateFirst", fn := fun _ => fun
  | [d1, d2, d3, d4] => { results := [.lit (.bool true)], args := [d1, d2, d3, d4] }
  | _ => none }
def rateFirstRow : OpenClaim := { program := "ytkhbodlffhfmnaadoor", sum := "850c9b9841ce95f6fd235804be0507fd7e1d4f76afed559e1d1febc4b0e6c1e9", func := "telemeter/telemeterlaw09.RateFirst", spec := "rateFirst", unfollowed := true, recurses := true, named := ["telemeter/hash.steps", "math/bits.divideError", "math/bits.overflowError"], apart := false, laid := [("telemeter/hash.steps", laid_telemeter_hash_steps)] }
def RateFirstSaid : Prop := rateFirstRow.holds Tryd.pinned (OpenSpec.ofChange rateFirstSpec)

/-- ITS FALSE NEIGHBOUR: 'it returns false'. Refute it at one input. -/
def rateFirstWrong : ChangeSpec := { name := "rateFirst", fn := fun _ => fun
  | [d1, d2, d3, d4] => { results := [.lit (.bool false)], args := [d1, d2, d3, d4] }
  | _ => none }
def RateFirstWrongFalsely : Prop := rateFirstRow.holds Tryd.pinned (OpenSpec.ofChange rateFirstWrong)

/- THE SECOND FORM. 'bulk': how many values and letters a reading holds, each counted each time it is reached (what is shared counts as often as it is met; a slice's spare places count too). A statement '..UptoSaid' is the law's where the arguments, and the package variables that the reading takes, are together of bulk at most 1048576: NARROWER than '..Said'. Prove '..Said' where nothing that the law and all that it calls make is longer than what came in: it says more and counts as full. Else prove '..UptoSaid'. A law counts once. -/
mutual
def uptoBulk {H : Type} : DataW H → Nat
  | .lit (.string bytes) => bytes.length + 1
  | .lit _ => 1
  | .nil => 1
  | .ptr d => uptoBulk d + 1
  | .slice elems spare => uptoBulkAll elems + uptoBulkAll spare + 1
  | .agg parts => uptoBulkAll parts + 1
  | .iface _ d => uptoBulk d + 1
  | .map entries => uptoBulkEntries entries + 1
  | .held _ => 1
def uptoBulkAll {H : Type} : List (DataW H) → Nat
  | [] => 0
  | d :: r => uptoBulk d + uptoBulkAll r
def uptoBulkEntries {H : Type} : List (Lit × DataW H) → Nat
  | [] => 0
  | x :: r => uptoBulkEntry x + uptoBulkEntries r
def uptoBulkEntry {H : Type} : Lit × DataW H → Nat
  | (.string bytes, d) => bytes.length + uptoBulk d + 1
  | (_, d) => uptoBulk d + 1
 end
def uptoSmall : (H : Type) → List (DataW H) → Bool := fun _ ds => decide (uptoBulkAll ds ≤ 1048576)
def OpenSpec.upto (s : _root_.Go.ChangeSpec) : _root_.Go.OpenSpec := { _root_.Go.OpenSpec.ofChange s with cond := some uptoSmall }

/-- 'telemeterlaw09.RateBy', WHERE WHAT IT READS IS OF BULK AT MOST 1048576: true; the input reads as it did. -/
def rateByUptoRow : OpenClaim := { program := "ytkhbodlffhfmnaadoor", sum := "850c9b9841ce95f6fd235804be0507fd7e1d4f76afed559e1d1febc4b0e6c1e9", func := "telemeter/telemeterlaw09.RateBy", spec := "rateBy", unfollowed := true, recurses := true, named := ["telemeter/hash.steps", "math/bits.divideError", "math/bits.overflowError"], apart := false, laid := [("telemeter/hash.steps", laid_telemeter_hash_steps)], narrowed := true }
def RateByUptoSaid : Prop := rateByUptoRow.holds Tryd.pinned (OpenSpec.upto rateBySpec)

/-- 'telemeterlaw09.RateAsks', WHERE WHAT IT READS IS OF BULK AT MOST 1048576: true; the input reads as it did. -/
def rateAsksUptoRow : OpenClaim := { program := "ytkhbodlffhfmnaadoor", sum := "850c9b9841ce95f6fd235804be0507fd7e1d4f76afed559e1d1febc4b0e6c1e9", func := "telemeter/telemeterlaw09.RateAsks", spec := "rateAsks", unfollowed := true, recurses := true, named := ["telemeter/hash.steps", "math/bits.divideError", "math/bits.overflowError"], apart := false, laid := [("telemeter/hash.steps", laid_telemeter_hash_steps)], narrowed := true }
def RateAsksUptoSaid : Prop := rateAsksUptoRow.holds Tryd.pinned (OpenSpec.upto rateAsksSpec)

/-- 'telemeterlaw09.RateKeeps', WHERE WHAT IT READS IS OF BULK AT MOST 1048576: true; the input reads as it did. -/
def rateKeepsUptoRow : OpenClaim := { program := "ytkhbodlffhfmnaadoor", sum := "850c9b9841ce95f6fd235804be0507fd7e1d4f76afed559e1d1febc4b0e6c1e9", func := "telemeter/telemeterlaw09.RateKeeps", spec := "rateKeeps", unfollowed := true, recurses := true, named := ["math/bits.divideError", "math/bits.overflowError", "telemeter/hash.steps"], apart := false, laid := [("telemeter/hash.steps", laid_telemeter_hash_steps)], narrowed := true }
def RateKeepsUptoSaid : Prop := rateKeepsUptoRow.holds Tryd.pinned (OpenSpec.upto rateKeepsSpec)

/-- 'telemeterlaw09.RateToward', WHERE WHAT IT READS IS OF BULK AT MOST 1048576: true; the input reads as it did. -/
def rateTowardUptoRow : OpenClaim := { program := "ytkhbodlffhfmnaadoor", sum := "850c9b9841ce95f6fd235804be0507fd7e1d4f76afed559e1d1febc4b0e6c1e9", func := "telemeter/telemeterlaw09.RateToward", spec := "rateToward", unfollowed := true, recurses := true, named := ["telemeter/hash.steps", "math/bits.divideError", "math/bits.overflowError"], apart := false, laid := [("telemeter/hash.steps", laid_telemeter_hash_steps)], narrowed := true }
def RateTowardUptoSaid : Prop := rateTowardUptoRow.holds Tryd.pinned (OpenSpec.upto rateTowardSpec)

/-- 'telemeterlaw09.RateSteady', WHERE WHAT IT READS IS OF BULK AT MOST 1048576: true; the input reads as it did. -/
def rateSteadyUptoRow : OpenClaim := { program := "ytkhbodlffhfmnaadoor", sum := "850c9b9841ce95f6fd235804be0507fd7e1d4f76afed559e1d1febc4b0e6c1e9", func := "telemeter/telemeterlaw09.RateSteady", spec := "rateSteady", unfollowed := true, recurses := true, named := ["telemeter/hash.steps", "math/bits.divideError", "math/bits.overflowError"], apart := false, laid := [("telemeter/hash.steps", laid_telemeter_hash_steps)], narrowed := true }
def RateSteadyUptoSaid : Prop := rateSteadyUptoRow.holds Tryd.pinned (OpenSpec.upto rateSteadySpec)

/-- 'telemeterlaw09.RateFirst', WHERE WHAT IT READS IS OF BULK AT MOST 1048576: true; the input reads as it did. -/
def rateFirstUptoRow : OpenClaim := { program := "ytkhbodlffhfmnaadoor", sum := "850c9b9841ce95f6fd235804be0507fd7e1d4f76afed559e1d1febc4b0e6c1e9", func := "telemeter/telemeterlaw09.RateFirst", spec := "rateFirst", unfollowed := true, recurses := true, named := ["telemeter/hash.steps", "math/bits.divideError", "math/bits.overflowError"], apart := false, laid := [("telemeter/hash.steps", laid_telemeter_hash_steps)], narrowed := true }
def RateFirstUptoSaid : Prop := rateFirstUptoRow.holds Tryd.pinned (OpenSpec.upto rateFirstSpec)

end Rows
end Go.Proofs.YtkhbodlffhfmnaaDoor
