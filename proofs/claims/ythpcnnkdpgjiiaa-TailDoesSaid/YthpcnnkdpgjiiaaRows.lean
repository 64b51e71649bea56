/-
  No cell of these rows narrows 'for every input' (looked for: loops, veiled, ifaces, maps, wideKeys, modest, calm, conditions, laid).
  DERIVED. THE GIVEN ROWS OF THIS SEAT. 7 by the template 'for every input the law returns true; each argument reads behind the call as it read before'; 0 by the template 'total and deterministic' (their statements: YthpcnnkdpgjiiaaTotals.lean).
  GIVEN WITH THE SEED: the statements are not yours to turn. If you find one false, say at which input.
  Laid BY PROGRAM, IN A SANDBOX (cutbox-rows.mjs): the forced cells as the released guide's own fill.sh prints them over the translation c108674893623b39… (all of the seat's roots in one cut). By AI agents, Wed Nov 11 2026. No macro, syntax, notation, axiom, sorry.
-/
import Derived.Test.YthpcnnkdpgjiiaaChecked
import GoSem.Claim
import GoSem.ClaimJoined
import GoSem.ClaimMapViews
import Derived.JoinedTies
import Derived.KernelRfl
namespace Go.Proofs.Ythpcnnkdpgjiiaa
/- THE CELL 'sum', in the pinned program and in every row, IS THE sha256 OF THE DUMP (.gsa) THAT YthpcnnkdpgjiiaaProg.lean LOADS. Nothing in Lean hashes anything: it is a label: what it is worth is what the hold of that sum in a sandbox is worth. -/
noncomputable def Try.pinned : Pinned := { name := "ythpcnnkdpgjiiaa", sum := "c108674893623b39715ca4b6aad33e208e21a10cd99d911a29219ee40aa8a7f6", checked := Try.checked }
namespace Rows
def none {H : Type} : Left H := { results := [], args := [] }

/-- 'telemeterlaw13.TailOrder': WHATEVER THE INPUT: true; the input reads as it did. -/
def tailOrderSpec : ChangeSpec := { name := "tailOrder", fn := fun _ => fun
  | [d1, d2] => { results := [.lit (.bool true)], args := [d1, d2] }
  | _ => none }
def tailOrderRow : OpenClaim := { program := "ythpcnnkdpgjiiaa", sum := "c108674893623b39715ca4b6aad33e208e21a10cd99d911a29219ee40aa8a7f6", func := "telemeter/telemeterlaw13.TailOrder", spec := "tailOrder", unfollowed := true, recurses := true, plainKeys := false, apart := false }
def TailOrderSaid : Prop := tailOrderRow.holds Try.pinned (OpenSpec.ofChange tailOrderSpec)

/-- ITS FALSE NEIGHBOUR: 'it returns false'. Refute it at one input. -/
def tailOrderWrong : ChangeSpec := { name := "tailOrder", fn := fun _ => fun
  | [d1, d2] => { results := [.lit (.bool false)], args := [d1, d2] }
  | _ => none }
def TailOrderWrongFalsely : Prop := tailOrderRow.holds Try.pinned (OpenSpec.ofChange tailOrderWrong)

/-- 'telemeterlaw13.TailTold': WHATEVER THE INPUT: true; the input reads as it did. -/
def tailToldSpec : ChangeSpec := { name := "tailTold", fn := fun _ => fun
  | [d1, d2] => { results := [.lit (.bool true)], args := [d1, d2] }
  | _ => none }
def tailToldRow : OpenClaim := { program := "ythpcnnkdpgjiiaa", sum := "c108674893623b39715ca4b6aad33e208e21a10cd99d911a29219ee40aa8a7f6", func := "telemeter/telemeterlaw13.TailTold", spec := "tailTold", unfollowed := true, recurses := true, plainKeys := false, apart := false }
def TailToldSaid : Prop := tailToldRow.holds Try.pinned (OpenSpec.ofChange tailToldSpec)

/-- ITS FALSE NEIGHBOUR: 'it returns false'. Refute it at one input. -/
def tailToldWrong : ChangeSpec := { name := "tailTold", fn := fun _ => fun
  | [d1, d2] => { results := [.lit (.bool false)], args := [d1, d2] }
  | _ => none }
def TailToldWrongFalsely : Prop := tailToldRow.holds Try.pinned (OpenSpec.ofChange tailToldWrong)

/-- 'telemeterlaw13.TailDoes': WHATEVER THE INPUT: true; the input reads as it did. -/
def tailDoesSpec : ChangeSpec := { name := "tailDoes", fn := fun _ => fun
  | [d1, d2, d3, d4, d5] => { results := [.lit (.bool true)], args := [d1, d2, d3, d4, d5] }
  | _ => none }
def tailDoesRow : OpenClaim := { program := "ythpcnnkdpgjiiaa", sum := "c108674893623b39715ca4b6aad33e208e21a10cd99d911a29219ee40aa8a7f6", func := "telemeter/telemeterlaw13.TailDoes", spec := "tailDoes", unfollowed := true, recurses := true, plainKeys := false, apart := false }
def TailDoesSaid : Prop := tailDoesRow.holds Try.pinned (OpenSpec.ofChange tailDoesSpec)

/-- ITS FALSE NEIGHBOUR: 'it returns false'. Refute it at one input. -/
def tailDoesWrong : ChangeSpec := { name := "tailDoes", fn := fun _ => fun
  | [d1, d2, d3, d4, d5] => { results := [.lit (.bool false)], args := [d1, d2, d3, d4, d5] }
  | _ => none }
def TailDoesWrongFalsely : Prop := tailDoesRow.holds Try.pinned (OpenSpec.ofChange tailDoesWrong)

/-- 'telemeterlaw13.TailOnce': WHATEVER THE INPUT: true; the input reads as it did. -/
def tailOnceSpec : ChangeSpec := { name := "tailOnce", fn := fun _ => fun
  | [d1, d2, d3] => { results := [.lit (.bool true)], args := [d1, d2, d3] }
  | _ => none }
def tailOnceRow : OpenClaim := { program := "ythpcnnkdpgjiiaa", sum := "c108674893623b39715ca4b6aad33e208e21a10cd99d911a29219ee40aa8a7f6", func := "telemeter/telemeterlaw13.TailOnce", spec := "tailOnce", unfollowed := true, recurses := true, plainKeys := false, apart := false }
def TailOnceSaid : Prop := tailOnceRow.holds Try.pinned (OpenSpec.ofChange tailOnceSpec)

/-- ITS FALSE NEIGHBOUR: 'it returns false'. Refute it at one input. -/
def tailOnceWrong : ChangeSpec := { name := "tailOnce", fn := fun _ => fun
  | [d1, d2, d3] => { results := [.lit (.bool false)], args := [d1, d2, d3] }
  | _ => none }
def TailOnceWrongFalsely : Prop := tailOnceRow.holds Try.pinned (OpenSpec.ofChange tailOnceWrong)

/-- 'telemeterlaw13.TailWaits': WHATEVER THE INPUT: true; the input reads as it did. -/
def tailWaitsSpec : ChangeSpec := { name := "tailWaits", fn := fun _ => fun
  | [d1, d2] => { results := [.lit (.bool true)], args := [d1, d2] }
  | _ => none }
def tailWaitsRow : OpenClaim := { program := "ythpcnnkdpgjiiaa", sum := "c108674893623b39715ca4b6aad33e208e21a10cd99d911a29219ee40aa8a7f6", func := "telemeter/telemeterlaw13.TailWaits", spec := "tailWaits", unfollowed := true, recurses := true, plainKeys := false, apart := false }
def TailWaitsSaid : Prop := tailWaitsRow.holds Try.pinned (OpenSpec.ofChange tailWaitsSpec)

/-- ITS FALSE NEIGHBOUR: 'it returns false'. Refute it at one input. -/
def tailWaitsWrong : ChangeSpec := { name := "tailWaits", fn := fun _ => fun
  | [d1, d2] => { results := [.lit (.bool false)], args := [d1, d2] }
  | _ => none }
def TailWaitsWrongFalsely : Prop := tailWaitsRow.holds Try.pinned (OpenSpec.ofChange tailWaitsWrong)

/-- 'telemeterlaw13.TailKnows': WHATEVER THE INPUT: true; the input reads as it did. -/
def tailKnowsSpec : ChangeSpec := { name := "tailKnows", fn := fun _ => fun
  | [d1, d2] => { results := [.lit (.bool true)], args := [d1, d2] }
  | _ => none }
def tailKnowsRow : OpenClaim := { program := "ythpcnnkdpgjiiaa", sum := "c108674893623b39715ca4b6aad33e208e21a10cd99d911a29219ee40aa8a7f6", func := "telemeter/telemeterlaw13.TailKnows", spec := "tailKnows", unfollowed := true, recurses := true, plainKeys := false, apart := false }
def TailKnowsSaid : Prop := tailKnowsRow.holds Try.pinned (OpenSpec.ofChange tailKnowsSpec)

/-- ITS FALSE NEIGHBOUR: 'it returns false'. Refute it at one input. -/
def tailKnowsWrong : ChangeSpec := { name := "tailKnows", fn := fun _ => fun
  | [d1, d2] => { results := [.lit (.bool false)], args := [d1, d2] }
  | _ => none }
def TailKnowsWrongFalsely : Prop := tailKnowsRow.holds Try.pinned (OpenSpec.ofChange tailKnowsWrong)

/-- 'telemeterlaw13.TailRoom': WHATEVER THE INPUT: true; the input reads as it did. -/
def tailRoomSpec : ChangeSpec := { name := "tailRoom", fn := fun _ => fun
  | [d1, d2] => { results := [.lit (.bool true)], args := [d1, d2] }
  | _ => none }
def tailRoomRow : OpenClaim := { program := "ythpcnnkdpgjiiaa", sum := "c108674893623b39715ca4b6aad33e208e21a10cd99d911a29219ee40aa8a7f6", func := "telemeter/telemeterlaw13.TailRoom", spec := "tailRoom", unfollowed := true, recurses := true, plainKeys := false, apart := false }
def TailRoomSaid : Prop := tailRoomRow.holds Try.pinned (OpenSpec.ofChange tailRoomSpec)

/-- ITS FALSE NEIGHBOUR: 'it returns false'. Refute it at one input. -/
def tailRoomWrong : ChangeSpec := { name := "tailRoom", fn := fun _ => fun
  | [d1, d2] => { results := [.lit (.bool false)], args := [d1, d2] }
  | _ => none }
def TailRoomWrongFalsely : Prop := tailRoomRow.holds Try.pinned (OpenSpec.ofChange tailRoomWrong)

/- THE SECOND FORM. 'bulk': how many values and letters a reading holds, each counted each time it is reached (what is shared counts as often as it is met; a slice's spare places count too). A statement '..UptoSaid' is the law's where the arguments, and the package variables that the reading takes, are together of bulk at most 1048576: NARROWER than '..Said'. Prove '..Said' where nothing that the law and all that it calls make is longer than what came in: it says more and counts as full. Else prove '..UptoSaid'. A law counts once. -/
mutual
def uptoBulk {H : Type} : DataW H → Nat
  | .lit (.string bytes) => bytes.length + 1
  | .lit _ => 1
  | .nil => 1
  | .ptr d => uptoBulk d + 1
  | .slice elems spare => uptoBulkAll elems + uptoBulkAll spare + 1
  | .agg parts => uptoBulkAll parts + 1
  | .iface _ d => uptoBulk d + 1
  | .map entries => uptoBulkEntries entries + 1
  | .held _ => 1
def uptoBulkAll {H : Type} : List (DataW H) → Nat
  | [] => 0
  | d :: r => uptoBulk d + uptoBulkAll r
def uptoBulkEntries {H : Type} : List (Lit × DataW H) → Nat
  | [] => 0
  | x :: r => uptoBulkEntry x + uptoBulkEntries r
def uptoBulkEntry {H : Type} : Lit × DataW H → Nat
  | (.string bytes, d) => bytes.length + uptoBulk d + 1
  | (_, d) => uptoBulk d + 1
 end
def uptoSmall : (H : Type) → List (DataW H) → Bool := fun _ ds => decide (uptoBulkAll ds ≤ 1048576)
def OpenSpec.upto (s : _root_.Go.ChangeSpec) : _root_.Go.OpenSpec := { _root_.Go.OpenSpec.ofChange s with cond := some uptoSmall }

/-- 'telemeterlaw13.TailOrder', WHERE WHAT IT READS IS OF BULK AT MOST 1048576: true; the input reads as it did. -/
def tailOrderUptoRow : OpenClaim := { program := "ythpcnnkdpgjiiaa", sum := "c108674893623b39715ca4b6aad33e208e21a10cd99d911a29219ee40aa8a7f6", func := "telemeter/telemeterlaw13.TailOrder", spec := "tailOrder", unfollowed := true, recurses := true, plainKeys := false, apart := false, narrowed := true }
def TailOrderUptoSaid : Prop := tailOrderUptoRow.holds Try.pinned (OpenSpec.upto tailOrderSpec)

/-- 'telemeterlaw13.TailTold', WHERE WHAT IT READS IS OF BULK AT MOST 1048576: true; the input reads as it did. -/
def tailToldUptoRow : OpenClaim := { program := "ythpcnnkdpgjiiaa", sum := "c108674893623b39715ca4b6aad33e208e21a10cd99d911a29219ee40aa8a7f6", func := "telemeter/telemeterlaw13.TailTold", spec := "tailTold", unfollowed := true, recurses := true, plainKeys := false, apart := false, narrowed := true }
def TailToldUptoSaid : Prop := tailToldUptoRow.holds Try.pinned (OpenSpec.upto tailToldSpec)

/-- 'telemeterlaw13.TailDoes', WHERE WHAT IT READS IS OF BULK AT MOST 1048576: true; the input reads as it did. -/
def tailDoesUptoRow : OpenClaim := { program := "ythpcnnkdpgjiiaa", sum := "c108674893623b39715ca4b6aad33e208e21a10cd99d911a29219ee40aa8a7f6", func := "telemeter/telemeterlaw13.TailDoes", spec := "tailDoes", unfollowed := true, recurses := true, plainKeys := false, apart := false, narrowed := true }
def TailDoesUptoSaid : Prop := tailDoesUptoRow.holds Try.pinned (OpenSpec.upto tailDoesSpec)

/-- 'telemeterlaw13.TailOnce', WHERE WHAT IT READS IS OF BULK AT MOST 1048576: true; the input reads as it did. -/
def tailOnceUptoRow : OpenClaim := { program := "ythpcnnkdpgjiiaa", sum := "c108674893623b39715ca4b6aad33e208e21a10cd99d911a29219ee40aa8a7f6", func := "telemeter/telemeterlaw13.TailOnce", spec := "tailOnce", unfollowed := true, recurses := true, plainKeys := false, apart := false, narrowed := true }
def TailOnceUptoSaid : Prop := tailOnceUptoRow.holds Try.pinned (OpenSpec.upto tailOnceSpec)

/-- 'telemeterlaw13.TailWaits', WHERE WHAT IT READS IS OF BULK AT MOST 1048576: true; the input reads as it did. -/
def tailWaitsUptoRow : OpenClaim := { program := "ythpcnnkdpgjiiaa", sum := "c108674893623b39715ca4b6aad33e208e21a10cd99d911a29219ee40aa8a7f6", func := "telemeter/telemeterlaw13.TailWaits", spec := "tailWaits", unfollowed := true, recurses := true, plainKeys := false, apart := false, narrowed := true }
def TailWaitsUptoSaid : Prop := tailWaitsUptoRow.holds Try.pinned (OpenSpec.upto tailWaitsSpec)

/-- 'telemeterlaw13.TailKnows', WHERE WHAT IT READS IS OF BULK AT MOST 1048576: true; the input reads as it did. -/
def tailKnowsUptoRow : OpenClaim := { program := "ythpcnnkdpgjiiaa", sum := "c108674893623b39715ca4b6aad33e208e21a10cd99d911a29219ee40aa8a7f6", func := "telemeter/telemeterlaw13.TailKnows", spec := "tailKnows", unfollowed := true, recurses := true, plainKeys := false, apart := false, narrowed := true }
def TailKnowsUptoSaid : Prop := tailKnowsUptoRow.holds Try.pinned (OpenSpec.upto tailKnowsSpec)

/-- 'telemeterlaw13.TailRoom', WHERE WHAT IT READS IS OF BULK AT MOST 1048576: true; the input reads as it did. -/
def tailRoomUptoRow : OpenClaim := { program := "ythpcnnkdpgjiiaa", sum := "c108674893623b39715ca4b6aad33e208e21a10cd99d911a29219ee40aa8a7f6", func := "telemeter/telemeterlaw13.TailRoom", spec := "tailRoom", unfollowed := true, recurses := true, plainKeys := false, apart := false, narrowed := true }
def TailRoomUptoSaid : Prop := tailRoomUptoRow.holds Try.pinned (OpenSpec.upto tailRoomSpec)

end Rows
end Go.Proofs.Ythpcnnkdpgjiiaa
