/-
  NARROWER THAN 'FOR EVERY INPUT', by the rows' own cells (each row's printed sentence says how): PolicyBoth: laid · PolicyFew: laid · PolicyRights: laid · PolicyTells: laid · PolicyMore: laid · PolicyRows: laid.
  DERIVED. THE GIVEN ROWS OF THIS SEAT. 6 by the template 'for every input the law returns true; each argument reads behind the call as it read before'; 0 by the template 'total and deterministic' (their statements: YtmjbdjcpjaeemaaDoorTotals.lean).
  GIVEN WITH THE SEED: the statements are not yours to turn. If you find one false, say at which input.
  Laid BY PROGRAM, IN A SANDBOX (cutbox-rows.mjs): the forced cells as the released guide's own fill.sh prints them over the translation 8a3b9dde5568fef5… (all of the seat's roots in one cut). By AI agents, Wed Nov 11 2026. No macro, syntax, notation, axiom, sorry.
-/
import Derived.Test.YtmjbdjcpjaeemaaDoorChecked
import GoSem.Claim
import GoSem.ClaimJoined
import GoSem.ClaimMapViews
import Derived.JoinedTies
import Derived.KernelRfl
namespace Go.Proofs.YtmjbdjcpjaeemaaDoor
/- THE CELL 'sum', in the pinned program and in every row, IS THE sha256 OF THE DUMP (.gsa) THAT YtmjbdjcpjaeemaaDoorProg.lean LOADS. Nothing in Lean hashes anything: it is a label: what it is worth is what the hold of that sum in a sandbox is worth. -/
noncomputable def Tryd.pinned : Pinned := { name := "ytmjbdjcpjaeemaadoor", sum := "8a3b9dde5568fef5b2d0e4671ebd93147dcfb884259b6b0a3ad9f5b5d4193489", checked := Tryd.checked }
namespace Rows
def none {H : Type} : Left H := { results := [], args := [] }

/- WHAT THE LISTED PACKAGE-LEVEL VARIABLES READ AS WHEN THE CALL BEGINS. Each datum BY PROGRAM (the guide's laid-datum.mjs) off the statement by which the dump's own 'gosem.cut.vars' lays the variable. In a bare row this is a premise. The card (YtmjbdjcpjaeemaaDoorCards.lean) ties it to the program's text. -/
def laid_telemeter_policy_mostA {H : Type} : DataW H := .agg [.lit (.int .i64 0), .lit (.int .i64 9223372036854775807), .lit (.int .i64 0), .lit (.int .i64 0), .lit (.int .i64 9223372036854775807), .lit (.int .i64 72057594037927936)]

/-- 'telemeterlaw12.PolicyBoth': WHATEVER THE INPUT: true; the input reads as it did. -/
def policyBothSpec : ChangeSpec := { name := "policyBoth", fn := fun _ => fun
  | [d1, d2, d3, d4] => { results := [.lit (.bool true)], args := [d1, d2, d3, d4] }
  | _ => none }
def policyBothRow : OpenClaim := { program := "ytmjbdjcpjaeemaadoor", sum := "8a3b9dde5568fef5b2d0e4671ebd93147dcfb884259b6b0a3ad9f5b5d4193489", func := "telemeter/telemeterlaw12.PolicyBoth", spec := "policyBoth", unfollowed := true, recurses := true, named := ["telemeter/policy.mostA"], apart := false, laid := [("telemeter/policy.mostA", laid_telemeter_policy_mostA)] }
def PolicyBothSaid : Prop := policyBothRow.holds Tryd.pinned (OpenSpec.ofChange policyBothSpec)

/-- ITS FALSE NEIGHBOUR: 'it returns false'. Refute it at one input. -/
def policyBothWrong : ChangeSpec := { name := "policyBoth", fn := fun _ => fun
  | [d1, d2, d3, d4] => { results := [.lit (.bool false)], args := [d1, d2, d3, d4] }
  | _ => none }
def PolicyBothWrongFalsely : Prop := policyBothRow.holds Tryd.pinned (OpenSpec.ofChange policyBothWrong)

/-- 'telemeterlaw12.PolicyFew': WHATEVER THE INPUT: true; the input reads as it did. -/
def policyFewSpec : ChangeSpec := { name := "policyFew", fn := fun _ => fun
  | [d1, d2, d3] => { results := [.lit (.bool true)], args := [d1, d2, d3] }
  | _ => none }
def policyFewRow : OpenClaim := { program := "ytmjbdjcpjaeemaadoor", sum := "8a3b9dde5568fef5b2d0e4671ebd93147dcfb884259b6b0a3ad9f5b5d4193489", func := "telemeter/telemeterlaw12.PolicyFew", spec := "policyFew", unfollowed := true, recurses := true, named := ["telemeter/policy.mostA"], apart := false, laid := [("telemeter/policy.mostA", laid_telemeter_policy_mostA)] }
def PolicyFewSaid : Prop := policyFewRow.holds Tryd.pinned (OpenSpec.ofChange policyFewSpec)

/-- ITS FALSE NEIGHBOUR: 'it returns false'. Refute it at one input. -/
def policyFewWrong : ChangeSpec := { name := "policyFew", fn := fun _ => fun
  | [d1, d2, d3] => { results := [.lit (.bool false)], args := [d1, d2, d3] }
  | _ => none }
def PolicyFewWrongFalsely : Prop := policyFewRow.holds Tryd.pinned (OpenSpec.ofChange policyFewWrong)

/-- 'telemeterlaw12.PolicyRights': WHATEVER THE INPUT: true; the input reads as it did. -/
def policyRightsSpec : ChangeSpec := { name := "policyRights", fn := fun _ => fun
  | [d1, d2, d3, d4, d5, d6] => { results := [.lit (.bool true)], args := [d1, d2, d3, d4, d5, d6] }
  | _ => none }
def policyRightsRow : OpenClaim := { program := "ytmjbdjcpjaeemaadoor", sum := "8a3b9dde5568fef5b2d0e4671ebd93147dcfb884259b6b0a3ad9f5b5d4193489", func := "telemeter/telemeterlaw12.PolicyRights", spec := "policyRights", unfollowed := true, recurses := true, named := ["telemeter/policy.mostA"], apart := false, laid := [("telemeter/policy.mostA", laid_telemeter_policy_mostA)] }
def PolicyRightsSaid : Prop := policyRightsRow.holds Tryd.pinned (OpenSpec.ofChange policyRightsSpec)

/-- ITS FALSE NEIGHBOUR: 'it returns false'. Refute it at one input. -/
def policyRightsWrong : ChangeSpec := { name := "policyRights", fn := fun _ => fun
  | [d1, d2, d3, d4, d5, d6] => { results := [.lit (.bool false)], args := [d1, d2, d3, d4, d5, d6] }
  | _ => none }
def PolicyRightsWrongFalsely : Prop := policyRightsRow.holds Tryd.pinned (OpenSpec.ofChange policyRightsWrong)

/-- 'telemeterlaw12.PolicyTells': WHATEVER THE INPUT: true; the input reads as it did. -/
def policyTellsSpec : ChangeSpec := { name := "policyTells", fn := fun _ => fun
  | [d1, d2, d3, d4, d5] => { results := [.lit (.bool true)], args := [d1, d2, d3, d4, d5] }
  | _ => none }
def policyTellsRow : OpenClaim := { program := "ytmjbdjcpjaeemaadoor", sum := "8a3b9dde5568fef5b2d0e4671ebd93147dcfb884259b6b0a3ad9f5b5d4193489", func := "telemeter/telemeterlaw12.PolicyTells", spec := "policyTells", unfollowed := true, recurses := true, named := ["telemeter/policy.mostA"], apart := false, laid := [("telemeter/policy.mostA", laid_telemeter_policy_mostA)] }
def PolicyTellsSaid : Prop := policyTellsRow.holds Tryd.pinned (OpenSpec.ofChange policyTellsSpec)

/-- ITS FALSE NEIGHBOUR: 'it returns false'. Refute it at one input. -/
def policyTellsWrong : ChangeSpec := { name := "policyTells", fn := fun _ => fun
  | [d1, d2, d3, d4, d5] => { results := [.lit (.bool false)], args := [d1, d2, d3, d4, d5] }
  | _ => none }
def PolicyTellsWrongFalsely : Prop := policyTellsRow.holds Tryd.pinned (OpenSpec.ofChange policyTellsWrong)

/-- 'telemeterlaw12.PolicyMore': WHATEVER THE INPUT: true; the input reads as it did. -/
def policyMoreSpec : ChangeSpec := { name := "policyMore", fn := fun _ => fun
  | [d1, d2, d3, d4, d5] => { results := [.lit (.bool true)], args := [d1, d2, d3, d4, d5] }
  | _ => none }
def policyMoreRow : OpenClaim := { program := "ytmjbdjcpjaeemaadoor", sum := "8a3b9dde5568fef5b2d0e4671ebd93147dcfb884259b6b0a3ad9f5b5d4193489", func := "telemeter/telemeterlaw12.PolicyMore", spec := "policyMore", unfollowed := true, recurses := true, named := ["telemeter/policy.mostA"], apart := false, laid := [("telemeter/policy.mostA", laid_telemeter_policy_mostA)] }
def PolicyMoreSaid : Prop := policyMoreRow.holds Tryd.pinned (OpenSpec.ofChange policyMoreSpec)

/-- ITS FALSE NEIGHBOUR: 'it returns false'. Refute it at one input. -/
def policyMoreWrong : ChangeSpec := { name := "policyMore", fn := fun _ => fun
  | [d1, d2, d3, d4, d5] => { results := [.lit (.bool false)], args := [d1, d2, d3, d4, d5] }
  | _ => none }
def PolicyMoreWrongFalsely : Prop := policyMoreRow.holds Tryd.pinned (OpenSpec.ofChange policyMoreWrong)

/-- 'telemeterlaw12.PolicyRows': WHATEVER THE INPUT: true; the input reads as it did. -/
def policyRowsSpec : ChangeSpec := { name := "policyRows", fn := fun _ => fun
  | [d1, d2, d3] => { results := [.lit (.bool true)], args := [d1, d2, d3] }
  | _ => none }
def policyRowsRow : OpenClaim := { program := "ytmjbdjcpjaeemaadoor", sum := "8a3b9dde5568fef5b2d0e4671ebd93147dcfb884259b6b0a3ad9f5b5d4193489", func := "telemeter/telemeterlaw12.PolicyRows", spec := "policyRows", unfollowed := true, recurses := true, named := ["telemeter/policy.mostA"], apart := false, laid := [("telemeter/policy.mostA", laid_telemeter_policy_mostA)] }
def PolicyRowsSaid : Prop := policyRowsRow.holds Tryd.pinned (OpenSpec.ofChange policyRowsSpec)

/-- ITS FALSE NEIGHBOUR: 'it returns false'. Refute it at one input. -/
def policyRowsWrong : ChangeSpec := { name := "policyRows", fn := fun _ => fun
  | [d1, d2, d3] => { results := [.lit (.bool false)], args := [d1, d2, d3] }
  | _ => none }
def PolicyRowsWrongFalsely : Prop := policyRowsRow.holds Tryd.pinned (OpenSpec.ofChange policyRowsWrong)

/- THE SECOND FORM. 'bulk': how many values and letters a reading holds, each counted each time it is reached (what is shared counts as often as it is met; a slice's spare places count too). A statement '..UptoSaid' is the law's where the arguments, and the package variables that the reading takes, are together of bulk at most 1048576: NARROWER than '..Said'. Prove '..Said' where nothing that the law and all that it calls make is longer than what came in: it says more and counts as full. Else prove '..UptoSaid'. A law counts once. -/
mutual
def uptoBulk {H : Type} : DataW H → Nat
  | .lit (.string bytes) => bytes.length + 1
  | .lit _ => 1
  | .nil => 1
  | .ptr d => uptoBulk d + 1
  | .slice elems spare => uptoBulkAll elems + uptoBulkAll spare + 1
  | .agg parts => uptoBulkAll parts + 1
  | .iface _ d => uptoBulk d + 1
  | .map entries => uptoBulkEntries entries + 1
  | .held _ => 1
def uptoBulkAll {H : Type} : List (DataW H) → Nat
  | [] => 0
  | d :: r => uptoBulk d + uptoBulkAll r
def uptoBulkEntries {H : Type} : List (Lit × DataW H) → Nat
  | [] => 0
  | x :: r => uptoBulkEntry x + uptoBulkEntries r
def uptoBulkEntry {H : Type} : Lit × DataW H → Nat
  | (.string bytes, d) => bytes.length + uptoBulk d + 1
  | (_, d) => uptoBulk d + 1
 end
def uptoSmall : (H : Type) → List (DataW H) → Bool := fun _ ds => decide (uptoBulkAll ds ≤ 1048576)
def OpenSpec.upto (s : _root_.Go.ChangeSpec) : _root_.Go.OpenSpec := { _root_.Go.OpenSpec.ofChange s with cond := some uptoSmall }

/-- 'telemeterlaw12.PolicyBoth', WHERE WHAT IT READS IS OF BULK AT MOST 1048576: true; the input reads as it did. -/
def policyBothUptoRow : OpenClaim := { program := "ytmjbdjcpjaeemaadoor", sum := "8a3b9dde5568fef5b2d0e4671ebd93147dcfb884259b6b0a3ad9f5b5d4193489", func := "telemeter/telemeterlaw12.PolicyBoth", spec := "policyBoth", unfollowed := true, recurses := true, named := ["telemeter/policy.mostA"], apart := false, laid := [("telemeter/policy.mostA", laid_telemeter_policy_mostA)], narrowed := true }
def PolicyBothUptoSaid : Prop := policyBothUptoRow.holds Tryd.pinned (OpenSpec.upto policyBothSpec)

/-- 'telemeterlaw12.PolicyFew', WHERE WHAT IT READS IS OF BULK AT MOST 1048576: true; the input reads as it did. -/
def policyFewUptoRow : OpenClaim := { program := "ytmjbdjcpjaeemaadoor", sum := "8a3b9dde5568fef5b2d0e4671ebd93147dcfb884259b6b0a3ad9f5b5d4193489", func := "telemeter/telemeterlaw12.PolicyFew", spec := "policyFew", unfollowed := true, recurses := true, named := ["telemeter/policy.mostA"], apart := false, laid := [("telemeter/policy.mostA", laid_telemeter_policy_mostA)], narrowed := true }
def PolicyFewUptoSaid : Prop := policyFewUptoRow.holds Tryd.pinned (OpenSpec.upto policyFewSpec)

/-- 'telemeterlaw12.PolicyRights', WHERE WHAT IT READS IS OF BULK AT MOST 1048576: true; the input reads as it did. -/
def policyRightsUptoRow : OpenClaim := { program := "ytmjbdjcpjaeemaadoor", sum := "8a3b9dde5568fef5b2d0e4671ebd93147dcfb884259b6b0a3ad9f5b5d4193489", func := "telemeter/telemeterlaw12.PolicyRights", spec := "policyRights", unfollowed := true, recurses := true, named := ["telemeter/policy.mostA"], apart := false, laid := [("telemeter/policy.mostA", laid_telemeter_policy_mostA)], narrowed := true }
def PolicyRightsUptoSaid : Prop := policyRightsUptoRow.holds Tryd.pinned (OpenSpec.upto policyRightsSpec)

/-- 'telemeterlaw12.PolicyTells', WHERE WHAT IT READS IS OF BULK AT MOST 1048576: true; the input reads as it did. -/
def policyTellsUptoRow : OpenClaim := { program := "ytmjbdjcpjaeemaadoor", sum := "8a3b9dde5568fef5b2d0e4671ebd93147dcfb884259b6b0a3ad9f5b5d4193489", func := "telemeter/telemeterlaw12.PolicyTells", spec := "policyTells", unfollowed := true, recurses := true, named := ["telemeter/policy.mostA"], apart := false, laid := [("telemeter/policy.mostA", laid_telemeter_policy_mostA)], narrowed := true }
def PolicyTellsUptoSaid : Prop := policyTellsUptoRow.holds Tryd.pinned (OpenSpec.upto policyTellsSpec)

/-- 'telemeterlaw12.PolicyMore', WHERE WHAT IT READS IS OF BULK AT MOST 1048576: true; the input reads as it did. -/
def policyMoreUptoRow : OpenClaim := { program := "ytmjbdjcpjaeemaadoor", sum := "8a3b9dde5568fef5b2d0e4671ebd93147dcfb884259b6b0a3ad9f5b5d4193489", func := "telemeter/telemeterlaw12.PolicyMore", spec := "policyMore", unfollowed := true, recurses := true, named := ["telemeter/policy.mostA"], apart := false, laid := [("telemeter/policy.mostA", laid_telemeter_policy_mostA)], narrowed := true }
def PolicyMoreUptoSaid : Prop := policyMoreUptoRow.holds Tryd.pinned (OpenSpec.upto policyMoreSpec)

/-- 'telemeterlaw12.PolicyRows', WHERE WHAT IT READS IS OF BULK AT MOST 1048576: true; the input reads as it did. -/
def policyRowsUptoRow : OpenClaim := { program := "ytmjbdjcpjaeemaadoor", sum := "8a3b9dde5568fef5b2d0e4671ebd93147dcfb884259b6b0a3ad9f5b5d4193489", func := "telemeter/telemeterlaw12.PolicyRows", spec := "policyRows", unfollowed := true, recurses := true, named := ["telemeter/policy.mostA"], apart := false, laid := [("telemeter/policy.mostA", laid_telemeter_policy_mostA)], narrowed := true }
def PolicyRowsUptoSaid : Prop := policyRowsUptoRow.holds Tryd.pinned (OpenSpec.upto policyRowsSpec)

end Rows
end Go.Proofs.YtmjbdjcpjaeemaaDoor
