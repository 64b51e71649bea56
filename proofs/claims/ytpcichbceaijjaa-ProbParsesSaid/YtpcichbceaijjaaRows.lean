/-
  No cell of these rows narrows 'for every input' (looked for: loops, veiled, ifaces, maps, wideKeys, modest, calm, conditions, laid).
  DERIVED. THE GIVEN ROWS OF THIS SEAT. 10 by the template 'for every input the law returns true; each argument reads behind the call as it read before'; 0 by the template 'total and deterministic' (their statements: YtpcichbceaijjaaTotals.lean).
  GIVEN WITH THE SEED: the statements are not yours to turn. If you find one false, say at which input.
  Laid BY PROGRAM, IN A SANDBOX (cutbox-rows.mjs): the forced cells as the released guide's own fill.sh prints them over the translation 308a9520dcfe5fa7… (all of the seat's roots in one cut). By AI agents, Wed Nov 11 2026. No macro, syntax, notation, axiom, sorry.
-/
import Derived.Test.YtpcichbceaijjaaChecked
import GoSem.Claim
import GoSem.ClaimJoined
import GoSem.ClaimMapViews
import Derived.JoinedTies
import Derived.KernelRfl
namespace Go.Proofs.Ytpcichbceaijjaa
/- THE CELL 'sum', in the pinned program and in every row, IS THE sha256 OF THE DUMP (.gsa) THAT YtpcichbceaijjaaProg.lean LOADS. Nothing in Lean hashes anything: it is a label: what it is worth is what the hold of that sum in a sandbox is worth. -/
noncomputable def Try.pinned : Pinned := { name := "ytpcichbceaijjaa", sum := "308a9520dcfe5fa7a3f5faa98f361f989fd034ea1ad6cc5be64c2ce13a48c663", checked := Try.checked }
namespace Rows
def none {H : Type} : Left H := { results := [], args := [] }

/-- 'telemeterlaw05.ProbGrows': WHATEVER THE INPUT: true; the input reads as it did. -/
def probGrowsSpec : ChangeSpec := { name := "probGrows", fn := fun _ => fun
  | [d1, d2, d3] => { results := [.lit (.bool true)], args := [d1, d2, d3] }
  | _ => none }
def probGrowsRow : OpenClaim := { program := "ytpcichbceaijjaa", sum := "308a9520dcfe5fa7a3f5faa98f361f989fd034ea1ad6cc5be64c2ce13a48c663", func := "telemeter/telemeterlaw05.ProbGrows", spec := "probGrows", inPlace := ["internal/bytealg.IndexByteString"], named := ["math/bits.divideError", "math/bits.overflowError"], apart := false }
def ProbGrowsSaid : Prop := probGrowsRow.holds Try.pinned (OpenSpec.ofChange probGrowsSpec)

/-- ITS FALSE NEIGHBOUR: 'it returns false'. Refute it at one input. -/
def probGrowsWrong : ChangeSpec := { name := "probGrows", fn := fun _ => fun
  | [d1, d2, d3] => { results := [.lit (.bool false)], args := [d1, d2, d3] }
  | _ => none }
def ProbGrowsWrongFalsely : Prop := probGrowsRow.holds Try.pinned (OpenSpec.ofChange probGrowsWrong)

/-- 'telemeterlaw05.ProbParts': WHATEVER THE INPUT: true; the input reads as it did. -/
def probPartsSpec : ChangeSpec := { name := "probParts", fn := fun _ => fun
  | [d] => { results := [.lit (.bool true)], args := [d] }
  | _ => none }
def probPartsRow : OpenClaim := { program := "ytpcichbceaijjaa", sum := "308a9520dcfe5fa7a3f5faa98f361f989fd034ea1ad6cc5be64c2ce13a48c663", func := "telemeter/telemeterlaw05.ProbParts", spec := "probParts", inPlace := ["internal/bytealg.IndexByteString"], named := ["math/bits.divideError", "math/bits.overflowError"], apart := false }
def ProbPartsSaid : Prop := probPartsRow.holds Try.pinned (OpenSpec.ofChange probPartsSpec)

/-- ITS FALSE NEIGHBOUR: 'it returns false'. Refute it at one input. -/
def probPartsWrong : ChangeSpec := { name := "probParts", fn := fun _ => fun
  | [d] => { results := [.lit (.bool false)], args := [d] }
  | _ => none }
def ProbPartsWrongFalsely : Prop := probPartsRow.holds Try.pinned (OpenSpec.ofChange probPartsWrong)

/-- 'telemeterlaw05.ProbKeeps': WHATEVER THE INPUT: true; the input reads as it did. -/
def probKeepsSpec : ChangeSpec := { name := "probKeeps", fn := fun _ => fun
  | [d1, d2, d3, d4] => { results := [.lit (.bool true)], args := [d1, d2, d3, d4] }
  | _ => none }
def probKeepsRow : OpenClaim := { program := "ytpcichbceaijjaa", sum := "308a9520dcfe5fa7a3f5faa98f361f989fd034ea1ad6cc5be64c2ce13a48c663", func := "telemeter/telemeterlaw05.ProbKeeps", spec := "probKeeps", inPlace := ["internal/bytealg.IndexByteString"], named := ["math/bits.divideError", "math/bits.overflowError"], apart := false }
def ProbKeepsSaid : Prop := probKeepsRow.holds Try.pinned (OpenSpec.ofChange probKeepsSpec)

/-- ITS FALSE NEIGHBOUR: 'it returns false'. Refute it at one input. -/
def probKeepsWrong : ChangeSpec := { name := "probKeeps", fn := fun _ => fun
  | [d1, d2, d3, d4] => { results := [.lit (.bool false)], args := [d1, d2, d3, d4] }
  | _ => none }
def ProbKeepsWrongFalsely : Prop := probKeepsRow.holds Try.pinned (OpenSpec.ofChange probKeepsWrong)

/-- 'telemeterlaw05.ProbThresholds': WHATEVER THE INPUT: true; the input reads as it did. -/
def probThresholdsSpec : ChangeSpec := { name := "probThresholds", fn := fun _ => fun
  | [d1, d2, d3, d4, d5] => { results := [.lit (.bool true)], args := [d1, d2, d3, d4, d5] }
  | _ => none }
def probThresholdsRow : OpenClaim := { program := "ytpcichbceaijjaa", sum := "308a9520dcfe5fa7a3f5faa98f361f989fd034ea1ad6cc5be64c2ce13a48c663", func := "telemeter/telemeterlaw05.ProbThresholds", spec := "probThresholds", inPlace := ["internal/bytealg.IndexByteString"], named := ["math/bits.divideError", "math/bits.overflowError"], apart := false }
def ProbThresholdsSaid : Prop := probThresholdsRow.holds Try.pinned (OpenSpec.ofChange probThresholdsSpec)

/-- ITS FALSE NEIGHBOUR: 'it returns false'. Refute it at one input. -/
def probThresholdsWrong : ChangeSpec := { name := "probThresholds", fn := fun _ => fun
  | [d1, d2, d3, d4, d5] => { results := [.lit (.bool false)], args := [d1, d2, d3, d4, d5] }
  | _ => none }
def ProbThresholdsWrongFalsely : Prop := probThresholdsRow.holds Try.pinned (OpenSpec.ofChange probThresholdsWrong)

/-- 'telemeterlaw05.ProbParses': WHATEVER THE INPUT: true; the input reads as it did. -/
def probParsesSpec : ChangeSpec := { name := "probParses", fn := fun _ => fun
  | [d1, d2, d3] => { results := [.lit (.bool true)], args := [d1, d2, d3] }
  | _ => none }
def probParsesRow : OpenClaim := { program := "ytpcichbceaijjaa", sum := "308a9520dcfe5fa7a3f5faa98f361f989fd034ea1ad6cc5be64c2ce13a48c663", func := "telemeter/telemeterlaw05.ProbParses", spec := "probParses", inPlace := ["internal/bytealg.IndexByteString"], named := ["math/bits.divideError", "math/bits.overflowError"], apart := false }
def ProbParsesSaid : Prop := probParsesRow.holds Try.pinned (OpenSpec.ofChange probParsesSpec)

/-- ITS FALSE NEIGHBOUR: 'it returns false'. Refute it at one input. -/
def probParsesWrong : ChangeSpec := { name := "probParses", fn := fun _ => fun
  | [d1, d2, d3] => { results := [.lit (.bool false)], args := [d1, d2, d3] }
  | _ => none }
def ProbParsesWrongFalsely : Prop := probParsesRow.holds Try.pinned (OpenSpec.ofChange probParsesWrong)

/-- 'telemeterlaw05.ProbBack': WHATEVER THE INPUT: true; the input reads as it did. -/
def probBackSpec : ChangeSpec := { name := "probBack", fn := fun _ => fun
  | [d1, d2] => { results := [.lit (.bool true)], args := [d1, d2] }
  | _ => none }
def probBackRow : OpenClaim := { program := "ytpcichbceaijjaa", sum := "308a9520dcfe5fa7a3f5faa98f361f989fd034ea1ad6cc5be64c2ce13a48c663", func := "telemeter/telemeterlaw05.ProbBack", spec := "probBack", inPlace := ["internal/bytealg.IndexByteString"], named := ["math/bits.divideError", "math/bits.overflowError"], apart := false }
def ProbBackSaid : Prop := probBackRow.holds Try.pinned (OpenSpec.ofChange probBackSpec)

/-- ITS FALSE NEIGHBOUR: 'it returns false'. Refute it at one input. -/
def probBackWrong : ChangeSpec := { name := "probBack", fn := fun _ => fun
  | [d1, d2] => { results := [.lit (.bool false)], args := [d1, d2] }
  | _ => none }
def ProbBackWrongFalsely : Prop := probBackRow.holds Try.pinned (OpenSpec.ofChange probBackWrong)

/-- 'telemeterlaw05.ProbShares': WHATEVER THE INPUT: true; the input reads as it did. -/
def probSharesSpec : ChangeSpec := { name := "probShares", fn := fun _ => fun
  | [d1, d2] => { results := [.lit (.bool true)], args := [d1, d2] }
  | _ => none }
def probSharesRow : OpenClaim := { program := "ytpcichbceaijjaa", sum := "308a9520dcfe5fa7a3f5faa98f361f989fd034ea1ad6cc5be64c2ce13a48c663", func := "telemeter/telemeterlaw05.ProbShares", spec := "probShares", inPlace := ["internal/bytealg.IndexByteString"], named := ["math/bits.divideError", "math/bits.overflowError"], apart := false }
def ProbSharesSaid : Prop := probSharesRow.holds Try.pinned (OpenSpec.ofChange probSharesSpec)

/-- ITS FALSE NEIGHBOUR: 'it returns false'. Refute it at one input. -/
def probSharesWrong : ChangeSpec := { name := "probShares", fn := fun _ => fun
  | [d1, d2] => { results := [.lit (.bool false)], args := [d1, d2] }
  | _ => none }
def ProbSharesWrongFalsely : Prop := probSharesRow.holds Try.pinned (OpenSpec.ofChange probSharesWrong)

/-- 'telemeterlaw05.ProbNests': WHATEVER THE INPUT: true; the input reads as it did. -/
def probNestsSpec : ChangeSpec := { name := "probNests", fn := fun _ => fun
  | [d1, d2, d3, d4, d5, d6] => { results := [.lit (.bool true)], args := [d1, d2, d3, d4, d5, d6] }
  | _ => none }
def probNestsRow : OpenClaim := { program := "ytpcichbceaijjaa", sum := "308a9520dcfe5fa7a3f5faa98f361f989fd034ea1ad6cc5be64c2ce13a48c663", func := "telemeter/telemeterlaw05.ProbNests", spec := "probNests", inPlace := ["internal/bytealg.IndexByteString"], named := ["math/bits.divideError", "math/bits.overflowError"], apart := false }
def ProbNestsSaid : Prop := probNestsRow.holds Try.pinned (OpenSpec.ofChange probNestsSpec)

/-- ITS FALSE NEIGHBOUR: 'it returns false'. Refute it at one input. -/
def probNestsWrong : ChangeSpec := { name := "probNests", fn := fun _ => fun
  | [d1, d2, d3, d4, d5, d6] => { results := [.lit (.bool false)], args := [d1, d2, d3, d4, d5, d6] }
  | _ => none }
def ProbNestsWrongFalsely : Prop := probNestsRow.holds Try.pinned (OpenSpec.ofChange probNestsWrong)

/-- 'telemeterlaw05.ProbWeighs': WHATEVER THE INPUT: true; the input reads as it did. -/
def probWeighsSpec : ChangeSpec := { name := "probWeighs", fn := fun _ => fun
  | [d1, d2] => { results := [.lit (.bool true)], args := [d1, d2] }
  | _ => none }
def probWeighsRow : OpenClaim := { program := "ytpcichbceaijjaa", sum := "308a9520dcfe5fa7a3f5faa98f361f989fd034ea1ad6cc5be64c2ce13a48c663", func := "telemeter/telemeterlaw05.ProbWeighs", spec := "probWeighs", inPlace := ["internal/bytealg.IndexByteString"], named := ["math/bits.divideError", "math/bits.overflowError"], apart := false }
def ProbWeighsSaid : Prop := probWeighsRow.holds Try.pinned (OpenSpec.ofChange probWeighsSpec)

/-- ITS FALSE NEIGHBOUR: 'it returns false'. Refute it at one input. -/
def probWeighsWrong : ChangeSpec := { name := "probWeighs", fn := fun _ => fun
  | [d1, d2] => { results := [.lit (.bool false)], args := [d1, d2] }
  | _ => none }
def ProbWeighsWrongFalsely : Prop := probWeighsRow.holds Try.pinned (OpenSpec.ofChange probWeighsWrong)

/-- 'telemeterlaw05.ProbDraws': WHATEVER THE INPUT: true; the input reads as it did. -/
def probDrawsSpec : ChangeSpec := { name := "probDraws", fn := fun _ => fun
  | [d1, d2, d3] => { results := [.lit (.bool true)], args := [d1, d2, d3] }
  | _ => none }
def probDrawsRow : OpenClaim := { program := "ytpcichbceaijjaa", sum := "308a9520dcfe5fa7a3f5faa98f361f989fd034ea1ad6cc5be64c2ce13a48c663", func := "telemeter/telemeterlaw05.ProbDraws", spec := "probDraws", inPlace := ["internal/bytealg.IndexByteString"], named := ["math/bits.divideError", "math/bits.overflowError"], apart := false }
def ProbDrawsSaid : Prop := probDrawsRow.holds Try.pinned (OpenSpec.ofChange probDrawsSpec)

/-- ITS FALSE NEIGHBOUR: 'it returns false'. Refute it at one input. -/
def probDrawsWrong : ChangeSpec := { name := "probDraws", fn := fun _ => fun
  | [d1, d2, d3] => { results := [.lit (.bool false)], args := [d1, d2, d3] }
  | _ => none }
def ProbDrawsWrongFalsely : Prop := probDrawsRow.holds Try.pinned (OpenSpec.ofChange probDrawsWrong)

/- THE SECOND FORM. 'bulk': how many values and letters a reading holds, each counted each time it is reached (what is shared counts as often as it is met; a slice's spare places count too). A statement '..UptoSaid' is the law's where the arguments, and the package variables that the reading takes, are together of bulk at most 1048576: NARROWER than '..Said'. Prove '..Said' where nothing that the law and all that it calls make is longer than what came in: it says more and counts as full. Else prove '..UptoSaid'. A law counts once. -/
mutual
def uptoBulk {H : Type} : DataW H → Nat
  | .lit (.string bytes) => bytes.length + 1
  | .lit _ => 1
  | .nil => 1
  | .ptr d => uptoBulk d + 1
  | .slice elems spare => uptoBulkAll elems + uptoBulkAll spare + 1
  | .agg parts => uptoBulkAll parts + 1
  | .iface _ d => uptoBulk d + 1
  | .map entries => uptoBulkEntries entries + 1
  | .held _ => 1
def uptoBulkAll {H : Type} : List (DataW H) → Nat
  | [] => 0
  | d :: r => uptoBulk d + uptoBulkAll r
def uptoBulkEntries {H : Type} : List (Lit × DataW H) → Nat
  | [] => 0
  | x :: r => uptoBulkEntry x + uptoBulkEntries r
def uptoBulkEntry {H : Type} : Lit × DataW H → Nat
  | (.string bytes, d) => bytes.length + uptoBulk d + 1
  | (_, d) => uptoBulk d + 1
 end
def uptoSmall : (H : Type) → List (DataW H) → Bool := fun _ ds => decide (uptoBulkAll ds ≤ 1048576)
def OpenSpec.upto (s : _root_.Go.ChangeSpec) : _root_.Go.OpenSpec := { _root_.Go.OpenSpec.ofChange s with cond := some uptoSmall }

/-- 'telemeterlaw05.ProbGrows', WHERE WHAT IT READS IS OF BULK AT MOST 1048576: true; the input reads as it did. -/
def probGrowsUptoRow : OpenClaim := { program := "ytpcichbceaijjaa", sum := "308a9520dcfe5fa7a3f5faa98f361f989fd034ea1ad6cc5be64c2ce13a48c663", func := "telemeter/telemeterlaw05.ProbGrows", spec := "probGrows", inPlace := ["internal/bytealg.IndexByteString"], named := ["math/bits.divideError", "math/bits.overflowError"], apart := false, narrowed := true }
def ProbGrowsUptoSaid : Prop := probGrowsUptoRow.holds Try.pinned (OpenSpec.upto probGrowsSpec)

/-- 'telemeterlaw05.ProbParts', WHERE WHAT IT READS IS OF BULK AT MOST 1048576: true; the input reads as it did. -/
def probPartsUptoRow : OpenClaim := { program := "ytpcichbceaijjaa", sum := "308a9520dcfe5fa7a3f5faa98f361f989fd034ea1ad6cc5be64c2ce13a48c663", func := "telemeter/telemeterlaw05.ProbParts", spec := "probParts", inPlace := ["internal/bytealg.IndexByteString"], named := ["math/bits.divideError", "math/bits.overflowError"], apart := false, narrowed := true }
def ProbPartsUptoSaid : Prop := probPartsUptoRow.holds Try.pinned (OpenSpec.upto probPartsSpec)

/-- 'telemeterlaw05.ProbKeeps', WHERE WHAT IT READS IS OF BULK AT MOST 1048576: true; the input reads as it did. -/
def probKeepsUptoRow : OpenClaim := { program := "ytpcichbceaijjaa", sum := "308a9520dcfe5fa7a3f5faa98f361f989fd034ea1ad6cc5be64c2ce13a48c663", func := "telemeter/telemeterlaw05.ProbKeeps", spec := "probKeeps", inPlace := ["internal/bytealg.IndexByteString"], named := ["math/bits.divideError", "math/bits.overflowError"], apart := false, narrowed := true }
def ProbKeepsUptoSaid : Prop := probKeepsUptoRow.holds Try.pinned (OpenSpec.upto probKeepsSpec)

/-- 'telemeterlaw05.ProbThresholds', WHERE WHAT IT READS IS OF BULK AT MOST 1048576: true; the input reads as it did. -/
def probThresholdsUptoRow : OpenClaim := { program := "ytpcichbceaijjaa", sum := "308a9520dcfe5fa7a3f5faa98f361f989fd034ea1ad6cc5be64c2ce13a48c663", func := "telemeter/telemeterlaw05.ProbThresholds", spec := "probThresholds", inPlace := ["internal/bytealg.IndexByteString"], named := ["math/bits.divideError", "math/bits.overflowError"], apart := false, narrowed := true }
def ProbThresholdsUptoSaid : Prop := probThresholdsUptoRow.holds Try.pinned (OpenSpec.upto probThresholdsSpec)

/-- 'telemeterlaw05.ProbParses', WHERE WHAT IT READS IS OF BULK AT MOST 1048576: true; the input reads as it did. -/
def probParsesUptoRow : OpenClaim := { program := "ytpcichbceaijjaa", sum := "308a9520dcfe5fa7a3f5faa98f361f989fd034ea1ad6cc5be64c2ce13a48c663", func := "telemeter/telemeterlaw05.ProbParses", spec := "probParses", inPlace := ["internal/bytealg.IndexByteString"], named := ["math/bits.divideError", "math/bits.overflowError"], apart := false, narrowed := true }
def ProbParsesUptoSaid : Prop := probParsesUptoRow.holds Try.pinned (OpenSpec.upto probParsesSpec)

/-- 'telemeterlaw05.ProbBack', WHERE WHAT IT READS IS OF BULK AT MOST 1048576: true; the input reads as it did. -/
def probBackUptoRow : OpenClaim := { program := "ytpcichbceaijjaa", sum := "308a9520dcfe5fa7a3f5faa98f361f989fd034ea1ad6cc5be64c2ce13a48c663", func := "telemeter/telemeterlaw05.ProbBack", spec := "probBack", inPlace := ["internal/bytealg.IndexByteString"], named := ["math/bits.divideError", "math/bits.overflowError"], apart := false, narrowed := true }
def ProbBackUptoSaid : Prop := probBackUptoRow.holds Try.pinned (OpenSpec.upto probBackSpec)

/-- 'telemeterlaw05.ProbShares', WHERE WHAT IT READS IS OF BULK AT MOST 1048576: true; the input reads as it did. -/
def probSharesUptoRow : OpenClaim := { program := "ytpcichbceaijjaa", sum := "308a9520dcfe5fa7a3f5faa98f361f989fd034ea1ad6cc5be64c2ce13a48c663", func := "telemeter/telemeterlaw05.ProbShares", spec := "probShares", inPlace := ["internal/bytealg.IndexByteString"], named := ["math/bits.divideError", "math/bits.overflowError"], apart := false, narrowed := true }
def ProbSharesUptoSaid : Prop := probSharesUptoRow.holds Try.pinned (OpenSpec.upto probSharesSpec)

/-- 'telemeterlaw05.ProbNests', WHERE WHAT IT READS IS OF BULK AT MOST 1048576: true; the input reads as it did. -/
def probNestsUptoRow : OpenClaim := { program := "ytpcichbceaijjaa", sum := "308a9520dcfe5fa7a3f5faa98f361f989fd034ea1ad6cc5be64c2ce13a48c663", func := "telemeter/telemeterlaw05.ProbNests", spec := "probNests", inPlace := ["internal/bytealg.IndexByteString"], named := ["math/bits.divideError", "math/bits.overflowError"], apart := false, narrowed := true }
def ProbNestsUptoSaid : Prop := probNestsUptoRow.holds Try.pinned (OpenSpec.upto probNestsSpec)

/-- 'telemeterlaw05.ProbWeighs', WHERE WHAT IT READS IS OF BULK AT MOST 1048576: true; the input reads as it did. -/
def probWeighsUptoRow : OpenClaim := { program := "ytpcichbceaijjaa", sum := "308a9520dcfe5fa7a3f5faa98f361f989fd034ea1ad6cc5be64c2ce13a48c663", func := "telemeter/telemeterlaw05.ProbWeighs", spec := "probWeighs", inPlace := ["internal/bytealg.IndexByteString"], named := ["math/bits.divideError", "math/bits.overflowError"], apart := false, narrowed := true }
def ProbWeighsUptoSaid : Prop := probWeighsUptoRow.holds Try.pinned (OpenSpec.upto probWeighsSpec)

/-- 'telemeterlaw05.ProbDraws', WHERE WHAT IT READS IS OF BULK AT MOST 1048576: true; the input reads as it did. -/
def probDrawsUptoRow : OpenClaim := { program := "ytpcichbceaijjaa", sum := "308a9520dcfe5fa7a3f5faa98f361f989fd034ea1ad6cc5be64c2ce13a48c663", func := "telemeter/telemeterlaw05.ProbDraws", spec := "probDraws", inPlace := ["internal/bytealg.IndexByteString"], named := ["math/bits.divideError", "math/bits.overflowError"], apart := false, narrowed := true }
def ProbDrawsUptoSaid : Prop := probDrawsUptoRow.holds Try.pinned (OpenSpec.upto probDrawsSpec)

end Rows
end Go.Proofs.Ytpcichbceaijjaa
