/-
  NARROWER THAN 'FOR EVERY INPUT', by the rows' own cells (each row's printed sentence says how): WindowOpen: laid · WindowCounts: laid · WindowTurns: laid · WindowTimes: laid.
  DERIVED. THE GIVEN ROWS OF THIS SEAT. 4 by the template 'for every input the law returns true; each argument reads behind the call as it read before'; 0 by the template 'total and deterministic' (their statements: YtgaoggniaajflaaDoorTotals.lean).
  GIVEN WITH THE SEED: the statements are not yours to turn. If you find one false, say at which input.
  Laid BY PROGRAM, IN A SANDBOX (cutbox-rows.mjs): the forced cells as the released guide's own fill.sh prints them over the translation 190461cce19cb930… (all of the seat's roots in one cut). By AI agents, Wed Nov 11 2026. No macro, syntax, notation, axiom, sorry.
-/
import Derived.Test.YtgaoggniaajflaaDoorChecked
import GoSem.Claim
import GoSem.ClaimJoined
import GoSem.ClaimMapViews
import Derived.JoinedTies
import Derived.KernelRfl
namespace Go.Proofs.YtgaoggniaajflaaDoor
/- THE CELL 'sum', in the pinned program and in every row, IS THE sha256 OF THE DUMP (.gsa) THAT YtgaoggniaajflaaDoorProg.lean LOADS. Nothing in Lean hashes anything: it is a label: what it is worth is what the hold of that sum in a sandbox is worth. -/
noncomputable def Tryd.pinned : Pinned := { name := "ytgaoggniaajflaadoor", sum := "190461cce19cb93030fb994c1c5eab37e2d8a2c1eaa46d72857630f9da57e0a8", checked := Tryd.checked }
namespace Rows
def none {H : Type} : Left H := { results := [], args := [] }

/- WHAT THE LISTED PACKAGE-LEVEL VARIABLES READ AS WHEN THE CALL BEGINS. Each datum BY PROGRAM (the guide's laid-datum.mjs) off the statement by which the dump's own 'gosem.cut.vars' lays the variable. In a bare row this is a premise. The card (YtgaoggniaajflaaDoorCards.lean) ties it to the program's text. -/
def laid_telemeter_hash_steps {H : Type} : DataW H := .agg [.agg [.lit (.int .u64 30), .lit (.int .u64 13787848793156543929), .lit (.int .u64 10871156337175269513)], .agg [.lit (.int .u64 27), .lit (.int .u64 10723151780598845931), .lit (.int .u64 3573116690164977347)], .agg [.lit (.int .u64 31), .lit (.int .u64 1), .lit (.int .u64 1)]]

/-- 'telemeterlaw08.WindowOpen': WHATEVER THE INPUT: true; the input reads as it did. -/
def windowOpenSpec : ChangeSpec := { name := "windowOpen", fn := fun _ => fun
  | [d1, d2, d3] => { results := [.lit (.bool true)], args := [d1, d2, d3] }
  | _ => none }
def windowOpenRow : OpenClaim := { program := "ytgaoggniaajflaadoor", sum := "190461cce19cb93030fb994c1c5eab37e2d8a2c1eaa46d72857630f9da57e0a8", func := "telemeter/telemeterlaw08.WindowOpen", spec := "windowOpen", unfollowed := true, recurses := true, named := ["telemeter/hash.steps"], apart := false, laid := [("telemeter/hash.steps", laid_telemeter_hash_steps)] }
def WindowOpenSaid : Prop := windowOpenRow.holds Tryd.pinned (OpenSpec.ofChange windowOpenSpec)

/-- ITS FALSE NEIGHBOUR: 'it returns false'. Refute it at one input. -/
def windowOpenWrong : ChangeSpec := { name := "windowOpen", fn := fun _ => fun
  | [d1, d2, d3] => { results := [.lit (.bool false)], args := [d1, d2, d3] }
  | _ => none }
def WindowOpenWrongFalsely : Prop := windowOpenRow.holds Tryd.pinned (OpenSpec.ofChange windowOpenWrong)

/-- 'telemeterlaw08.WindowCounts': WHATEVER THE INPUT: true; the input reads as it did. -/
def windowCountsSpec : ChangeSpec := { name := "windowCounts", fn := fun _ => fun
  | [d1, d2, d3, d4, d5, d6, d7] => { results := [.lit (.bool true)], args := [d1, d2, d3, d4, d5, d6, d7] }
  | _ => none }
def windowCountsRow : OpenClaim := { program := "ytgaoggniaajflaadoor", sum := "190461cce19cb93030fb994c1c5eab37e2d8a2c1eaa46d72857630f9da57e0a8", func := "telemeter/telemeterlaw08.WindowCounts", spec := "windowCounts", unfollowed := true, recurses := true, named := ["telemeter/hash.steps"], apart := false, laid := [("telemeter/hash.steps", laid_telemeter_hash_steps)] }
def WindowCountsSaid : Prop := windowCountsRow.holds Tryd.pinned (OpenSpec.ofChange windowCountsSpec)

/-- ITS FALSE NEIGHBOUR: 'it returns false'. Refute it at one input. -/
def windowCountsWrong : ChangeSpec := { name := "windowCounts", fn := fun _ => fun
  | [d1, d2, d3, d4, d5, d6, d7] => { results := [.lit (.bool false)], args := [d1, d2, d3, d4, d5, d6, d7] }
  | _ => none }
def WindowCountsWrongFalsely : Prop := windowCountsRow.holds Tryd.pinned (OpenSpec.ofChange windowCountsWrong)

/-- 'telemeterlaw08.WindowTurns': WHATEVER THE INPUT: true; the input reads as it did. -/
def windowTurnsSpec : ChangeSpec := { name := "windowTurns", fn := fun _ => fun
  | [d1, d2, d3, d4, d5] => { results := [.lit (.bool true)], args := [d1, d2, d3, d4, d5] }
  | _ => none }
def windowTurnsRow : OpenClaim := { program := "ytgaoggniaajflaadoor", sum := "190461cce19cb93030fb994c1c5eab37e2d8a2c1eaa46d72857630f9da57e0a8", func := "telemeter/telemeterlaw08.WindowTurns", spec := "windowTurns", unfollowed := true, recurses := true, named := ["telemeter/hash.steps"], apart := false, laid := [("telemeter/hash.steps", laid_telemeter_hash_steps)] }
def WindowTurnsSaid : Prop := windowTurnsRow.holds Tryd.pinned (OpenSpec.ofChange windowTurnsSpec)

/-- ITS FALSE NEIGHBOUR: 'it returns false'. Refute it at one input. -/
def windowTurnsWrong : ChangeSpec := { name := "windowTurns", fn := fun _ => fun
  | [d1, d2, d3, d4, d5] => { results := [.lit (.bool false)], args := [d1, d2, d3, d4, d5] }
  | _ => none }
def WindowTurnsWrongFalsely : Prop := windowTurnsRow.holds Tryd.pinned (OpenSpec.ofChange windowTurnsWrong)

/-- 'telemeterlaw08.WindowTimes': WHATEVER THE INPUT: true; the input reads as it did. -/
def windowTimesSpec : ChangeSpec := { name := "windowTimes", fn := fun _ => fun
  | [d1, d2, d3, d4] => { results := [.lit (.bool true)], args := [d1, d2, d3, d4] }
  | _ => none }
def windowTimesRow : OpenClaim := { program := "ytgaoggniaajflaadoor", sum := "190461cce19cb93030fb994c1c5eab37e2d8a2c1eaa46d72857630f9da57e0a8", func := "telemeter/telemeterlaw08.WindowTimes", spec := "windowTimes", unfollowed := true, recurses := true, named := ["telemeter/hash.steps"], apart := false, laid := [("telemeter/hash.steps", laid_telemeter_hash_steps)] }
def WindowTimesSaid : Prop := windowTimesRow.holds Tryd.pinned (OpenSpec.ofChange windowTimesSpec)

/-- ITS FALSE NEIGHBOUR: 'it returns false'. Refute it at one input. -/
def windowTimesWrong : ChangeSpec := { name := "windowTimes", fn := fun _ => fun
  | [d1, d2, d3, d4] => { results := [.lit (.bool false)], args := [d1, d2, d3, d4] }
  | _ => none }
def WindowTimesWrongFalsely : Prop := windowTimesRow.holds Tryd.pinned (OpenSpec.ofChange windowTimesWrong)

/- THE SECOND FORM. 'bulk': how many values and letters a reading holds, each counted each time it is reached (what is shared counts as often as it is met; a slice's spare places count too). A statement '..UptoSaid' is the law's where the arguments, and the package variables that the reading takes, are together of bulk at most 1048576: NARROWER than '..Said'. Prove '..Said' where nothing that the law and all that it calls make is longer than what came in: it says more and counts as full. Else prove '..UptoSaid'. A law counts once. -/
mutual
def uptoBulk {H : Type} : DataW H → Nat
  | .lit (.string bytes) => bytes.length + 1
  | .lit _ => 1
  | .nil => 1
  | .ptr d => uptoBulk d + 1
  | .slice elems spare => uptoBulkAll elems + uptoBulkAll spare + 1
  | .agg parts => uptoBulkAll parts + 1
  | .iface _ d => uptoBulk d + 1
  | .map entries => uptoBulkEntries entries + 1
  | .held _ => 1
def uptoBulkAll {H : Type} : List (DataW H) → Nat
  | [] => 0
  | d :: r => uptoBulk d + uptoBulkAll r
def uptoBulkEntries {H : Type} : List (Lit × DataW H) → Nat
  | [] => 0
  | x :: r => uptoBulkEntry x + uptoBulkEntries r
def uptoBulkEntry {H : Type} : Lit × DataW H → Nat
  | (.string bytes, d) => bytes.length + uptoBulk d + 1
  | (_, d) => uptoBulk d + 1
 end
def uptoSmall : (H : Type) → List (DataW H) → Bool := fun _ ds => decide (uptoBulkAll ds ≤ 1048576)
def OpenSpec.upto (s : _root_.Go.ChangeSpec) : _root_.Go.OpenSpec := { _root_.Go.OpenSpec.ofChange s with cond := some uptoSmall }

/-- 'telemeterlaw08.WindowOpen', WHERE WHAT IT READS IS OF BULK AT MOST 1048576: true; the input reads as it did. -/
def windowOpenUptoRow : OpenClaim := { program := "ytgaoggniaajflaadoor", sum := "190461cce19cb93030fb994c1c5eab37e2d8a2c1eaa46d72857630f9da57e0a8", func := "telemeter/telemeterlaw08.WindowOpen", spec := "windowOpen", unfollowed := true, recurses := true, named := ["telemeter/hash.steps"], apart := false, laid := [("telemeter/hash.steps", laid_telemeter_hash_steps)], narrowed := true }
def WindowOpenUptoSaid : Prop := windowOpenUptoRow.holds Tryd.pinned (OpenSpec.upto windowOpenSpec)

/-- 'telemeterlaw08.WindowCounts', WHERE WHAT IT READS IS OF BULK AT MOST 1048576: true; the input reads as it did. -/
def windowCountsUptoRow : OpenClaim := { program := "ytgaoggniaajflaadoor", sum := "190461cce19cb93030fb994c1c5eab37e2d8a2c1eaa46d72857630f9da57e0a8", func := "telemeter/telemeterlaw08.WindowCounts", spec := "windowCounts", unfollowed := true, recurses := true, named := ["telemeter/hash.steps"], apart := false, laid := [("telemeter/hash.steps", laid_telemeter_hash_steps)], narrowed := true }
def WindowCountsUptoSaid : Prop := windowCountsUptoRow.holds Tryd.pinned (OpenSpec.upto windowCountsSpec)

/-- 'telemeterlaw08.WindowTurns', WHERE WHAT IT READS IS OF BULK AT MOST 1048576: true; the input reads as it did. -/
def windowTurnsUptoRow : OpenClaim := { program := "ytgaoggniaajflaadoor", sum := "190461cce19cb93030fb994c1c5eab37e2d8a2c1eaa46d72857630f9da57e0a8", func := "telemeter/telemeterlaw08.WindowTurns", spec := "windowTurns", unfollowed := true, recurses := true, named := ["telemeter/hash.steps"], apart := false, laid := [("telemeter/hash.steps", laid_telemeter_hash_steps)], narrowed := true }
def WindowTurnsUptoSaid : Prop := windowTurnsUptoRow.holds Tryd.pinned (OpenSpec.upto windowTurnsSpec)

/-- 'telemeterlaw08.WindowTimes', WHERE WHAT IT READS IS OF BULK AT MOST 1048576: true; the input reads as it did. -/
def windowTimesUptoRow : OpenClaim := { program := "ytgaoggniaajflaadoor", sum := "190461cce19cb93030fb994c1c5eab37e2d8a2c1eaa46d72857630f9da57e0a8", func := "telemeter/telemeterlaw08.WindowTimes", spec := "windowTimes", unfollowed := true, recurses := true, named := ["telemeter/hash.steps"], apart := false, laid := [("telemeter/hash.steps", laid_telemeter_hash_steps)], narrowed := true }
def WindowTimesUptoSaid : Prop := windowTimesUptoRow.holds Tryd.pinned (OpenSpec.upto windowTimesSpec)

end Rows
end Go.Proofs.YtgaoggniaajflaaDoor
