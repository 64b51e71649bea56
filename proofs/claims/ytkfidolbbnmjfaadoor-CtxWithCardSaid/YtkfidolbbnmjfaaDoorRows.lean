/-
  NARROWER THAN 'FOR EVERY INPUT', by the rows' own cells (each row's printed sentence says how): CtxOthers: laid · CtxSmall: laid · CtxParses: laid · CtxWith: laid · CtxBack: laid · CtxTwice: laid · CtxLong: laid.
  DERIVED. THE GIVEN ROWS OF THIS SEAT. 7 by the template 'for every input the law returns true; each argument reads behind the call as it read before'; 0 by the template 'total and deterministic' (their statements: YtkfidolbbnmjfaaDoorTotals.lean).
  GIVEN WITH THE SEED: the statements are not yours to turn. If you find one false, say at which input.
  Laid BY PROGRAM, IN A SANDBOX (cutbox-rows.mjs): the forced cells as the released guide's own fill.sh prints them over the translation 3093a8a634f95742… (all of the seat's roots in one cut). By AI agents, Wed Nov 11 2026. No macro, syntax, notation, axiom, sorry.
-/
import Derived.Test.YtkfidolbbnmjfaaDoorChecked
import GoSem.PinnedTables
import GoSem.Claim
import GoSem.ClaimJoined
import GoSem.ClaimMapViews
import Derived.JoinedTies
import Derived.KernelRfl
namespace Go.Proofs.YtkfidolbbnmjfaaDoor
/- THE CELL 'sum', in the pinned program and in every row, IS THE sha256 OF THE DUMP (.gsa) THAT YtkfidolbbnmjfaaDoorProg.lean LOADS. Nothing in Lean hashes anything: it is a label: what it is worth is what the hold of that sum in a sandbox is worth. -/
noncomputable def Tryd.pinned : Pinned := { name := "ytkfidolbbnmjfaadoor", sum := "3093a8a634f95742591b89971c674cbf41088c0decd2989eb4518c227c49a0a6", checked := Tryd.checked }
namespace Rows
def none {H : Type} : Left H := { results := [], args := [] }

/- WHAT THE LISTED PACKAGE-LEVEL VARIABLES READ AS WHEN THE CALL BEGINS. Each datum BY PROGRAM (the guide's laid-datum.mjs) off the statement by which the dump's own 'gosem.cut.vars' lays the variable. In a bare row this is a premise. The card (YtkfidolbbnmjfaaDoorCards.lean) ties it to the program's text. -/
def laid_unicode_utf8_acceptRanges {H : Type} : DataW H := .agg [.agg [.lit (.int .u8 128), .lit (.int .u8 191)], .agg [.lit (.int .u8 160), .lit (.int .u8 191)], .agg [.lit (.int .u8 128), .lit (.int .u8 159)], .agg [.lit (.int .u8 144), .lit (.int .u8 191)], .agg [.lit (.int .u8 128), .lit (.int .u8 143)], .agg [.lit (.int .u8 0), .lit (.int .u8 0)], .agg [.lit (.int .u8 0), .lit (.int .u8 0)], .agg [.lit (.int .u8 0), .lit (.int .u8 0)], .agg [.lit (.int .u8 0), .lit (.int .u8 0)], .agg [.lit (.int .u8 0), .lit (.int .u8 0)], .agg [.lit (.int .u8 0), .lit (.int .u8 0)], .agg [.lit (.int .u8 0), .lit (.int .u8 0)], .agg [.lit (.int .u8 0), .lit (.int .u8 0)], .agg [.lit (.int .u8 0), .lit (.int .u8 0)], .agg [.lit (.int .u8 0), .lit (.int .u8 0)], .agg [.lit (.int .u8 0), .lit (.int .u8 0)]]
def laid_telemeter_ctx_shape {H : Type} : DataW H := .agg [.agg [.lit (.string [48, 48, 45]), .lit (.int .i64 16)], .agg [.lit (.string []), .lit (.int .i64 16)], .agg [.lit (.string [45]), .lit (.int .i64 16)], .agg [.lit (.string [45]), .lit (.int .i64 2)]]
/-- One of Go's own tables, pinned by name: the form's constant. -/
def laid_unicode_utf8_first : DataW Unit := Go.Pinned.utf8First

/-- 'telemeterlaw04.CtxOthers': WHATEVER THE INPUT: true; the input reads as it did. -/
def ctxOthersSpec : ChangeSpec := { name := "ctxOthers", fn := fun _ => fun
  | [d1, d2, d3] => { results := [.lit (.bool true)], args := [d1, d2, d3] }
  | _ => none }
def ctxOthersRow : OpenClaim := { program := "ytkfidolbbnmjfaadoor", sum := "3093a8a634f95742591b89971c674cbf41088c0decd2989eb4518c227c49a0a6", func := "telemeter/telemeterlaw04.CtxOthers", spec := "ctxOthers", inPlace := ["internal/bytealg.CountString", "internal/bytealg.IndexByteString", "internal/bytealg.IndexString", "internal/abi.NoEscape", "internal/bytealg.MakeNoZero"], unfollowed := true, recurses := true, named := ["internal/bytealg.MaxLen", "unicode/utf8.first", "unicode/utf8.acceptRanges", "telemeter/ctx.shape"], apart := false, laid := [("unicode/utf8.acceptRanges", laid_unicode_utf8_acceptRanges), ("telemeter/ctx.shape", laid_telemeter_ctx_shape), ("unicode/utf8.first", laid_unicode_utf8_first)] }
def CtxOthersSaid : Prop := ctxOthersRow.holds Tryd.pinned (OpenSpec.ofChange ctxOthersSpec)

/-- ITS FALSE NEIGHBOUR: 'it returns false'. Refute it at one input. -/
def ctxOthersWrong : ChangeSpec := { name := "ctxOthers", fn := fun _ => fun
  | [d1, d2, d3] => { results := [.lit (.bool false)], args := [d1, d2, d3] }
  | _ => none }
def CtxOthersWrongFalsely : Prop := ctxOthersRow.holds Tryd.pinned (OpenSpec.ofChange ctxOthersWrong)

/-- 'telemeterlaw04.CtxSmall': WHATEVER THE INPUT: true; the input reads as it did. -/
def ctxSmallSpec : ChangeSpec := { name := "ctxSmall", fn := fun _ => fun
  | [d1, d2] => { results := [.lit (.bool true)], args := [d1, d2] }
  | _ => none }
def ctxSmallRow : OpenClaim := { program := "ytkfidolbbnmjfaadoor", sum := "3093a8a634f95742591b89971c674cbf41088c0decd2989eb4518c227c49a0a6", func := "telemeter/telemeterlaw04.CtxSmall", spec := "ctxSmall", inPlace := ["internal/bytealg.IndexByteString", "internal/bytealg.CountString", "internal/bytealg.IndexString", "internal/abi.NoEscape", "internal/bytealg.MakeNoZero"], unfollowed := true, recurses := true, named := ["telemeter/ctx.shape", "internal/bytealg.MaxLen", "unicode/utf8.first", "unicode/utf8.acceptRanges"], apart := false, laid := [("unicode/utf8.acceptRanges", laid_unicode_utf8_acceptRanges), ("telemeter/ctx.shape", laid_telemeter_ctx_shape), ("unicode/utf8.first", laid_unicode_utf8_first)] }
def CtxSmallSaid : Prop := ctxSmallRow.holds Tryd.pinned (OpenSpec.ofChange ctxSmallSpec)

/-- ITS FALSE NEIGHBOUR: 'it returns false'. Refute it at one input. -/
def ctxSmallWrong : ChangeSpec := { name := "ctxSmall", fn := fun _ => fun
  | [d1, d2] => { results := [.lit (.bool false)], args := [d1, d2] }
  | _ => none }
def CtxSmallWrongFalsely : Prop := ctxSmallRow.holds Tryd.pinned (OpenSpec.ofChange ctxSmallWrong)

/-- 'telemeterlaw04.CtxParses': WHATEVER THE INPUT: true; the input reads as it did. -/
def ctxParsesSpec : ChangeSpec := { name := "ctxParses", fn := fun _ => fun
  | [d1, d2, d3, d4] => { results := [.lit (.bool true)], args := [d1, d2, d3, d4] }
  | _ => none }
def ctxParsesRow : OpenClaim := { program := "ytkfidolbbnmjfaadoor", sum := "3093a8a634f95742591b89971c674cbf41088c0decd2989eb4518c227c49a0a6", func := "telemeter/telemeterlaw04.CtxParses", spec := "ctxParses", inPlace := ["internal/bytealg.CountString", "internal/bytealg.IndexByteString", "internal/bytealg.IndexString", "internal/abi.NoEscape", "internal/bytealg.MakeNoZero"], unfollowed := true, recurses := true, named := ["internal/bytealg.MaxLen", "unicode/utf8.first", "unicode/utf8.acceptRanges", "telemeter/ctx.shape"], apart := false, laid := [("unicode/utf8.acceptRanges", laid_unicode_utf8_acceptRanges), ("telemeter/ctx.shape", laid_telemeter_ctx_shape), ("unicode/utf8.first", laid_unicode_utf8_first)] }
def CtxParsesSaid : Prop := ctxParsesRow.holds Tryd.pinned (OpenSpec.ofChange ctxParsesSpec)

/-- ITS FALSE NEIGHBOUR: 'it returns false'. Refute it at one input. -/
def ctxParsesWrong : ChangeSpec := { name := "ctxParses", fn := fun _ => fun
  | [d1, d2, d3, d4] => { results := [.lit (.bool false)], args := [d1, d2, d3, d4] }
  | _ => none }
def CtxParsesWrongFalsely : Prop := ctxParsesRow.holds Tryd.pinned (OpenSpec.ofChange ctxParsesWrong)

/-- 'telemeterlaw04.CtxWith': WHATEVER THE INPUT: true; the input reads as it did. -/
def ctxWithSpec : ChangeSpec := { name := "ctxWith", fn := fun _ => fun
  | [d1, d2, d3, d4, d5, d6, d7] => { results := [.lit (.bool true)], args := [d1, d2, d3, d4, d5, d6, d7] }
  | _ => none }
def ctxWithRow : OpenClaim := { program := "ytkfidolbbnmjfaadoor", sum := "3093a8a634f95742591b89971c674cbf41088c0decd2989eb4518c227c49a0a6", func := "telemeter/telemeterlaw04.CtxWith", spec := "ctxWith", inPlace := ["internal/bytealg.CountString", "internal/bytealg.IndexByteString", "internal/bytealg.IndexString", "internal/abi.NoEscape", "internal/bytealg.MakeNoZero"], unfollowed := true, recurses := true, named := ["internal/bytealg.MaxLen", "unicode/utf8.first", "unicode/utf8.acceptRanges", "telemeter/ctx.shape"], apart := false, laid := [("unicode/utf8.acceptRanges", laid_unicode_utf8_acceptRanges), ("telemeter/ctx.shape", laid_telemeter_ctx_shape), ("unicode/utf8.first", laid_unicode_utf8_first)] }
def CtxWithSaid : Prop := ctxWithRow.holds Tryd.pinned (OpenSpec.ofChange ctxWithSpec)

/-- ITS FALSE NEIGHBOUR: 'it returns false'. Refute it at one input. -/
def ctxWithWrong : ChangeSpec := { name := "ctxWith", fn := fun _ => fun
  | [d1, d2, d3, d4, d5, d6, d7] => { results := [.lit (.bool false)], args := [d1, d2, d3, d4, d5, d6, d7] }
  | _ => none }
def CtxWithWrongFalsely : Prop := ctxWithRow.holds Tryd.pinned (OpenSpec.ofChange ctxWithWrong)

/-- 'telemeterlaw04.CtxBack': WHATEVER THE INPUT: true; the input reads as it did. -/
def ctxBackSpec : ChangeSpec := { name := "ctxBack", fn := fun _ => fun
  | [d1, d2, d3, d4, d5] => { results := [.lit (.bool true)], args := [d1, d2, d3, d4, d5] }
  | _ => none }
def ctxBackRow : OpenClaim := { program := "ytkfidolbbnmjfaadoor", sum := "3093a8a634f95742591b89971c674cbf41088c0decd2989eb4518c227c49a0a6", func := "telemeter/telemeterlaw04.CtxBack", spec := "ctxBack", inPlace := ["internal/bytealg.CountString", "internal/bytealg.IndexByteString", "internal/bytealg.IndexString", "internal/abi.NoEscape", "internal/bytealg.MakeNoZero"], unfollowed := true, recurses := true, named := ["internal/bytealg.MaxLen", "unicode/utf8.first", "unicode/utf8.acceptRanges", "telemeter/ctx.shape"], apart := false, laid := [("unicode/utf8.acceptRanges", laid_unicode_utf8_acceptRanges), ("telemeter/ctx.shape", laid_telemeter_ctx_shape), ("unicode/utf8.first", laid_unicode_utf8_first)] }
def CtxBackSaid : Prop := ctxBackRow.holds Tryd.pinned (OpenSpec.ofChange ctxBackSpec)

/-- ITS FALSE NEIGHBOUR: 'it returns false'. Refute it at one input. -/
def ctxBackWrong : ChangeSpec := { name := "ctxBack", fn := fun _ => fun
  | [d1, d2, d3, d4, d5] => { results := [.lit (.bool false)], args := [d1, d2, d3, d4, d5] }
  | _ => none }
def CtxBackWrongFalsely : Prop := ctxBackRow.holds Tryd.pinned (OpenSpec.ofChange ctxBackWrong)

/-- 'telemeterlaw04.CtxTwice': WHATEVER THE INPUT: true; the input reads as it did. -/
def ctxTwiceSpec : ChangeSpec := { name := "ctxTwice", fn := fun _ => fun
  | [d1, d2, d3, d4, d5] => { results := [.lit (.bool true)], args := [d1, d2, d3, d4, d5] }
  | _ => none }
def ctxTwiceRow : OpenClaim := { program := "ytkfidolbbnmjfaadoor", sum := "3093a8a634f95742591b89971c674cbf41088c0decd2989eb4518c227c49a0a6", func := "telemeter/telemeterlaw04.CtxTwice", spec := "ctxTwice", inPlace := ["internal/bytealg.IndexByteString", "internal/bytealg.CountString", "internal/bytealg.IndexString", "internal/abi.NoEscape", "internal/bytealg.MakeNoZero"], unfollowed := true, recurses := true, named := ["telemeter/ctx.shape", "internal/bytealg.MaxLen", "unicode/utf8.first", "unicode/utf8.acceptRanges"], apart := false, laid := [("unicode/utf8.acceptRanges", laid_unicode_utf8_acceptRanges), ("telemeter/ctx.shape", laid_telemeter_ctx_shape), ("unicode/utf8.first", laid_unicode_utf8_first)] }
def CtxTwiceSaid : Prop := ctxTwiceRow.holds Tryd.pinned (OpenSpec.ofChange ctxTwiceSpec)

/-- ITS FALSE NEIGHBOUR: 'it returns false'. Refute it at one input. -/
def ctxTwiceWrong : ChangeSpec := { name := "ctxTwice", fn := fun _ => fun
  | [d1, d2, d3, d4, d5] => { results := [.lit (.bool false)], args := [d1, d2, d3, d4, d5] }
  | _ => none }
def CtxTwiceWrongFalsely : Prop := ctxTwiceRow.holds Tryd.pinned (OpenSpec.ofChange ctxTwiceWrong)

/-- 'telemeterlaw04.CtxLong': WHATEVER THE INPUT: true; the input reads as it did. -/
def ctxLongSpec : ChangeSpec := { name := "ctxLong", fn := fun _ => fun
  | [d1, d2] => { results := [.lit (.bool true)], args := [d1, d2] }
  | _ => none }
def ctxLongRow : OpenClaim := { program := "ytkfidolbbnmjfaadoor", sum := "3093a8a634f95742591b89971c674cbf41088c0decd2989eb4518c227c49a0a6", func := "telemeter/telemeterlaw04.CtxLong", spec := "ctxLong", inPlace := ["internal/bytealg.CountString", "internal/bytealg.IndexByteString", "internal/bytealg.IndexString", "internal/abi.NoEscape", "internal/bytealg.MakeNoZero"], unfollowed := true, recurses := true, named := ["internal/bytealg.MaxLen", "unicode/utf8.first", "unicode/utf8.acceptRanges", "telemeter/ctx.shape"], apart := false, laid := [("unicode/utf8.acceptRanges", laid_unicode_utf8_acceptRanges), ("telemeter/ctx.shape", laid_telemeter_ctx_shape), ("unicode/utf8.first", laid_unicode_utf8_first)] }
def CtxLongSaid : Prop := ctxLongRow.holds Tryd.pinned (OpenSpec.ofChange ctxLongSpec)

/-- ITS FALSE NEIGHBOUR: 'it returns false'. Refute it at one input. -/
def ctxLongWrong : ChangeSpec := { name := "ctxLong", fn := fun _ => fun
  | [d1, d2] => { results := [.lit (.bool false)], args := [d1, d2] }
  | _ => none }
def CtxLongWrongFalsely : Prop := ctxLongRow.holds Tryd.pinned (OpenSpec.ofChange ctxLongWrong)

/- THE SECOND FORM. 'bulk': how many values and letters a reading holds, each counted each time it is reached (what is shared counts as often as it is met; a slice's spare places count too). A statement '..UptoSaid' is the law's where the arguments, and the package variables that the reading takes, are together of bulk at most 1048576: NARROWER than '..Said'. Prove '..Said' where nothing that the law and all that it calls make is longer than what came in: it says more and counts as full. Else prove '..UptoSaid'. A law counts once. -/
mutual
def uptoBulk {H : Type} : DataW H → Nat
  | .lit (.string bytes) => bytes.length + 1
  | .lit _ => 1
  | .nil => 1
  | .ptr d => uptoBulk d + 1
  | .slice elems spare => uptoBulkAll elems + uptoBulkAll spare + 1
  | .agg parts => uptoBulkAll parts + 1
  | .iface _ d => uptoBulk d + 1
  | .map entries => uptoBulkEntries entries + 1
  | .held _ => 1
def uptoBulkAll {H : Type} : List (DataW H) → Nat
  | [] => 0
  | d :: r => uptoBulk d + uptoBulkAll r
def uptoBulkEntries {H : Type} : List (Lit × DataW H) → Nat
  | [] => 0
  | x :: r => uptoBulkEntry x + uptoBulkEntries r
def uptoBulkEntry {H : Type} : Lit × DataW H → Nat
  | (.string bytes, d) => bytes.length + uptoBulk d + 1
  | (_, d) => uptoBulk d + 1
 end
def uptoSmall : (H : Type) → List (DataW H) → Bool := fun _ ds => decide (uptoBulkAll ds ≤ 1048576)
def OpenSpec.upto (s : _root_.Go.ChangeSpec) : _root_.Go.OpenSpec := { _root_.Go.OpenSpec.ofChange s with cond := some uptoSmall }

/-- 'telemeterlaw04.CtxOthers', WHERE WHAT IT READS IS OF BULK AT MOST 1048576: true; the input reads as it did. -/
def ctxOthersUptoRow : OpenClaim := { program := "ytkfidolbbnmjfaadoor", sum := "3093a8a634f95742591b89971c674cbf41088c0decd2989eb4518c227c49a0a6", func := "telemeter/telemeterlaw04.CtxOthers", spec := "ctxOthers", inPlace := ["internal/bytealg.CountString", "internal/bytealg.IndexByteString", "internal/bytealg.IndexString", "internal/abi.NoEscape", "internal/bytealg.MakeNoZero"], unfollowed := true, recurses := true, named := ["internal/bytealg.MaxLen", "unicode/utf8.first", "unicode/utf8.acceptRanges", "telemeter/ctx.shape"], apart := false, laid := [("unicode/utf8.acceptRanges", laid_unicode_utf8_acceptRanges), ("telemeter/ctx.shape", laid_telemeter_ctx_shape), ("unicode/utf8.first", laid_unicode_utf8_first)], narrowed := true }
def CtxOthersUptoSaid : Prop := ctxOthersUptoRow.holds Tryd.pinned (OpenSpec.upto ctxOthersSpec)

/-- 'telemeterlaw04.CtxSmall', WHERE WHAT IT READS IS OF BULK AT MOST 1048576: true; the input reads as it did. -/
def ctxSmallUptoRow : OpenClaim := { program := "ytkfidolbbnmjfaadoor", sum := "3093a8a634f95742591b89971c674cbf41088c0decd2989eb4518c227c49a0a6", func := "telemeter/telemeterlaw04.CtxSmall", spec := "ctxSmall", inPlace := ["internal/bytealg.IndexByteString", "internal/bytealg.CountString", "internal/bytealg.IndexString", "internal/abi.NoEscape", "internal/bytealg.MakeNoZero"], unfollowed := true, recurses := true, named := ["telemeter/ctx.shape", "internal/bytealg.MaxLen", "unicode/utf8.first", "unicode/utf8.acceptRanges"], apart := false, laid := [("unicode/utf8.acceptRanges", laid_unicode_utf8_acceptRanges), ("telemeter/ctx.shape", laid_telemeter_ctx_shape), ("unicode/utf8.first", laid_unicode_utf8_first)], narrowed := true }
def CtxSmallUptoSaid : Prop := ctxSmallUptoRow.holds Tryd.pinned (OpenSpec.upto ctxSmallSpec)

/-- 'telemeterlaw04.CtxParses', WHERE WHAT IT READS IS OF BULK AT MOST 1048576: true; the input reads as it did. -/
def ctxParsesUptoRow : OpenClaim := { program := "ytkfidolbbnmjfaadoor", sum := "3093a8a634f95742591b89971c674cbf41088c0decd2989eb4518c227c49a0a6", func := "telemeter/telemeterlaw04.CtxParses", spec := "ctxParses", inPlace := ["internal/bytealg.CountString", "internal/bytealg.IndexByteString", "internal/bytealg.IndexString", "internal/abi.NoEscape", "internal/bytealg.MakeNoZero"], unfollowed := true, recurses := true, named := ["internal/bytealg.MaxLen", "unicode/utf8.first", "unicode/utf8.acceptRanges", "telemeter/ctx.shape"], apart := false, laid := [("unicode/utf8.acceptRanges", laid_unicode_utf8_acceptRanges), ("telemeter/ctx.shape", laid_telemeter_ctx_shape), ("unicode/utf8.first", laid_unicode_utf8_first)], narrowed := true }
def CtxParsesUptoSaid : Prop := ctxParsesUptoRow.holds Tryd.pinned (OpenSpec.upto ctxParsesSpec)

/-- 'telemeterlaw04.CtxWith', WHERE WHAT IT READS IS OF BULK AT MOST 1048576: true; the input reads as it did. -/
def ctxWithUptoRow : OpenClaim := { program := "ytkfidolbbnmjfaadoor", sum := "3093a8a634f95742591b89971c674cbf41088c0decd2989eb4518c227c49a0a6", func := "telemeter/telemeterlaw04.CtxWith", spec := "ctxWith", inPlace := ["internal/bytealg.CountString", "internal/bytealg.IndexByteString", "internal/bytealg.IndexString", "internal/abi.NoEscape", "internal/bytealg.MakeNoZero"], unfollowed := true, recurses := true, named := ["internal/bytealg.MaxLen", "unicode/utf8.first", "unicode/utf8.acceptRanges", "telemeter/ctx.shape"], apart := false, laid := [("unicode/utf8.acceptRanges", laid_unicode_utf8_acceptRanges), ("telemeter/ctx.shape", laid_telemeter_ctx_shape), ("unicode/utf8.first", laid_unicode_utf8_first)], narrowed := true }
def CtxWithUptoSaid : Prop := ctxWithUptoRow.holds Tryd.pinned (OpenSpec.upto ctxWithSpec)

/-- 'telemeterlaw04.CtxBack', WHERE WHAT IT READS IS OF BULK AT MOST 1048576: true; the input reads as it did. -/
def ctxBackUptoRow : OpenClaim := { program := "ytkfidolbbnmjfaadoor", sum := "3093a8a634f95742591b89971c674cbf41088c0decd2989eb4518c227c49a0a6", func := "telemeter/telemeterlaw04.CtxBack", spec := "ctxBack", inPlace := ["internal/bytealg.CountString", "internal/bytealg.IndexByteString", "internal/bytealg.IndexString", "internal/abi.NoEscape", "internal/bytealg.MakeNoZero"], unfollowed := true, recurses := true, named := ["internal/bytealg.MaxLen", "unicode/utf8.first", "unicode/utf8.acceptRanges", "telemeter/ctx.shape"], apart := false, laid := [("unicode/utf8.acceptRanges", laid_unicode_utf8_acceptRanges), ("telemeter/ctx.shape", laid_telemeter_ctx_shape), ("unicode/utf8.first", laid_unicode_utf8_first)], narrowed := true }
def CtxBackUptoSaid : Prop := ctxBackUptoRow.holds Tryd.pinned (OpenSpec.upto ctxBackSpec)

/-- 'telemeterlaw04.CtxTwice', WHERE WHAT IT READS IS OF BULK AT MOST 1048576: true; the input reads as it did. -/
def ctxTwiceUptoRow : OpenClaim := { program := "ytkfidolbbnmjfaadoor", sum := "3093a8a634f95742591b89971c674cbf41088c0decd2989eb4518c227c49a0a6", func := "telemeter/telemeterlaw04.CtxTwice", spec := "ctxTwice", inPlace := ["internal/bytealg.IndexByteString", "internal/bytealg.CountString", "internal/bytealg.IndexString", "internal/abi.NoEscape", "internal/bytealg.MakeNoZero"], unfollowed := true, recurses := true, named := ["telemeter/ctx.shape", "internal/bytealg.MaxLen", "unicode/utf8.first", "unicode/utf8.acceptRanges"], apart := false, laid := [("unicode/utf8.acceptRanges", laid_unicode_utf8_acceptRanges), ("telemeter/ctx.shape", laid_telemeter_ctx_shape), ("unicode/utf8.first", laid_unicode_utf8_first)], narrowed := true }
def CtxTwiceUptoSaid : Prop := ctxTwiceUptoRow.holds Tryd.pinned (OpenSpec.upto ctxTwiceSpec)

/-- 'telemeterlaw04.CtxLong', WHERE WHAT IT READS IS OF BULK AT MOST 1048576: true; the input reads as it did. -/
def ctxLongUptoRow : OpenClaim := { program := "ytkfidolbbnmjfaadoor", sum := "3093a8a634f95742591b89971c674cbf41088c0decd2989eb4518c227c49a0a6", func := "telemeter/telemeterlaw04.CtxLong", spec := "ctxLong", inPlace := ["internal/bytealg.CountString", "internal/bytealg.IndexByteString", "internal/bytealg.IndexString", "internal/abi.NoEscape", "internal/bytealg.MakeNoZero"], unfollowed := true, recurses := true, named := ["internal/bytealg.MaxLen", "unicode/utf8.first", "unicode/utf8.acceptRanges", "telemeter/ctx.shape"], apart := false, laid := [("unicode/utf8.acceptRanges", laid_unicode_utf8_acceptRanges), ("telemeter/ctx.shape", laid_telemeter_ctx_shape), ("unicode/utf8.first", laid_unicode_utf8_first)], narrowed := true }
def CtxLongUptoSaid : Prop := ctxLongUptoRow.holds Tryd.pinned (OpenSpec.upto ctxLongSpec)

end Rows
end Go.Proofs.YtkfidolbbnmjfaaDoor
