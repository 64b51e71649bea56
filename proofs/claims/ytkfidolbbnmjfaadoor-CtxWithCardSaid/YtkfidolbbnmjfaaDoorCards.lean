/-
  DERIVED. GIVEN WITH THE SEED: THE CARDS: each row of YtkfidolbbnmjfaaDoorRows.lean that lists a variable, with what it lists TIED to the program's text (the seventh form; the later family's looks); each row that meets fmt, with fmt's text TOLD by the authors' own Lean function (tested against real Go, not proved from fmt's source: count such statements apart). THE CARD IS WHAT COUNTS. Prove the row's statement (the work); the ties are given (YtkfidolbbnmjfaaDoorTie.lean); close each card by the builder's one call (the guide's Derived/Test/ToyasCard.lean, 'card_holds'). Laid BY PROGRAM, IN A SANDBOX (cutbox-door.mjs). By AI agents, Wed Nov 11 2026. No macro, syntax, notation, axiom, sorry.
-/
import Derived.Test.YtkfidolbbnmjfaaDoorRows
import GoSem.ClaimSeven
namespace Go.Proofs.YtkfidolbbnmjfaaDoor
namespace Rows

/-- THE TIED CARD OF 'telemeterlaw04.CtxOthers'. -/
def ctxOthersCard : Claim7 := { stood := { row := ctxOthersRow, standIns := [], harness := (true, "b43ba18150b12b623a9944652718dbf9b449f09b5181983626bac313c945c9d4"), looks := false }, kinds := [], alts := [], laidByText := true, laidKinds := [.data, .data, .pinned], laidTests := true, laidLooks := .later }
def CtxOthersCardSaid : Prop := Claim7.holds Tryd.pinned (.plain (OpenSpec.ofChange ctxOthersSpec)) ctxOthersCard

/-- THE TIED CARD OF 'telemeterlaw04.CtxSmall'. -/
def ctxSmallCard : Claim7 := { stood := { row := ctxSmallRow, standIns := [], harness := (true, "b43ba18150b12b623a9944652718dbf9b449f09b5181983626bac313c945c9d4"), looks := false }, kinds := [], alts := [], laidByText := true, laidKinds := [.data, .data, .pinned], laidTests := true, laidLooks := .later }
def CtxSmallCardSaid : Prop := Claim7.holds Tryd.pinned (.plain (OpenSpec.ofChange ctxSmallSpec)) ctxSmallCard

/-- THE TIED CARD OF 'telemeterlaw04.CtxParses'. -/
def ctxParsesCard : Claim7 := { stood := { row := ctxParsesRow, standIns := [], harness := (true, "b43ba18150b12b623a9944652718dbf9b449f09b5181983626bac313c945c9d4"), looks := false }, kinds := [], alts := [], laidByText := true, laidKinds := [.data, .data, .pinned], laidTests := true, laidLooks := .later }
def CtxParsesCardSaid : Prop := Claim7.holds Tryd.pinned (.plain (OpenSpec.ofChange ctxParsesSpec)) ctxParsesCard

/-- THE TIED CARD OF 'telemeterlaw04.CtxWith'. -/
def ctxWithCard : Claim7 := { stood := { row := ctxWithRow, standIns := [], harness := (true, "b43ba18150b12b623a9944652718dbf9b449f09b5181983626bac313c945c9d4"), looks := false }, kinds := [], alts := [], laidByText := true, laidKinds := [.data, .data, .pinned], laidTests := true, laidLooks := .later }
def CtxWithCardSaid : Prop := Claim7.holds Tryd.pinned (.plain (OpenSpec.ofChange ctxWithSpec)) ctxWithCard

/-- THE TIED CARD OF 'telemeterlaw04.CtxBack'. -/
def ctxBackCard : Claim7 := { stood := { row := ctxBackRow, standIns := [], harness := (true, "b43ba18150b12b623a9944652718dbf9b449f09b5181983626bac313c945c9d4"), looks := false }, kinds := [], alts := [], laidByText := true, laidKinds := [.data, .data, .pinned], laidTests := true, laidLooks := .later }
def CtxBackCardSaid : Prop := Claim7.holds Tryd.pinned (.plain (OpenSpec.ofChange ctxBackSpec)) ctxBackCard

/-- THE TIED CARD OF 'telemeterlaw04.CtxTwice'. -/
def ctxTwiceCard : Claim7 := { stood := { row := ctxTwiceRow, standIns := [], harness := (true, "b43ba18150b12b623a9944652718dbf9b449f09b5181983626bac313c945c9d4"), looks := false }, kinds := [], alts := [], laidByText := true, laidKinds := [.data, .data, .pinned], laidTests := true, laidLooks := .later }
def CtxTwiceCardSaid : Prop := Claim7.holds Tryd.pinned (.plain (OpenSpec.ofChange ctxTwiceSpec)) ctxTwiceCard

/-- THE TIED CARD OF 'telemeterlaw04.CtxLong'. -/
def ctxLongCard : Claim7 := { stood := { row := ctxLongRow, standIns := [], harness := (true, "b43ba18150b12b623a9944652718dbf9b449f09b5181983626bac313c945c9d4"), looks := false }, kinds := [], alts := [], laidByText := true, laidKinds := [.data, .data, .pinned], laidTests := true, laidLooks := .later }
def CtxLongCardSaid : Prop := Claim7.holds Tryd.pinned (.plain (OpenSpec.ofChange ctxLongSpec)) ctxLongCard

/-- THE SECOND FORM's CARD OF 'telemeterlaw04.CtxOthers'. -/
def ctxOthersUptoCard : Claim7 := { stood := { row := ctxOthersUptoRow, standIns := [], harness := (true, "b43ba18150b12b623a9944652718dbf9b449f09b5181983626bac313c945c9d4"), looks := false }, kinds := [], alts := [], laidByText := true, laidKinds := [.data, .data, .pinned], laidTests := true, laidLooks := .later }
def CtxOthersUptoCardSaid : Prop := Claim7.holds Tryd.pinned (.plain (OpenSpec.upto ctxOthersSpec)) ctxOthersUptoCard

/-- THE SECOND FORM's CARD OF 'telemeterlaw04.CtxSmall'. -/
def ctxSmallUptoCard : Claim7 := { stood := { row := ctxSmallUptoRow, standIns := [], harness := (true, "b43ba18150b12b623a9944652718dbf9b449f09b5181983626bac313c945c9d4"), looks := false }, kinds := [], alts := [], laidByText := true, laidKinds := [.data, .data, .pinned], laidTests := true, laidLooks := .later }
def CtxSmallUptoCardSaid : Prop := Claim7.holds Tryd.pinned (.plain (OpenSpec.upto ctxSmallSpec)) ctxSmallUptoCard

/-- THE SECOND FORM's CARD OF 'telemeterlaw04.CtxParses'. -/
def ctxParsesUptoCard : Claim7 := { stood := { row := ctxParsesUptoRow, standIns := [], harness := (true, "b43ba18150b12b623a9944652718dbf9b449f09b5181983626bac313c945c9d4"), looks := false }, kinds := [], alts := [], laidByText := true, laidKinds := [.data, .data, .pinned], laidTests := true, laidLooks := .later }
def CtxParsesUptoCardSaid : Prop := Claim7.holds Tryd.pinned (.plain (OpenSpec.upto ctxParsesSpec)) ctxParsesUptoCard

/-- THE SECOND FORM's CARD OF 'telemeterlaw04.CtxWith'. -/
def ctxWithUptoCard : Claim7 := { stood := { row := ctxWithUptoRow, standIns := [], harness := (true, "b43ba18150b12b623a9944652718dbf9b449f09b5181983626bac313c945c9d4"), looks := false }, kinds := [], alts := [], laidByText := true, laidKinds := [.data, .data, .pinned], laidTests := true, laidLooks := .later }
def CtxWithUptoCardSaid : Prop := Claim7.holds Tryd.pinned (.plain (OpenSpec.upto ctxWithSpec)) ctxWithUptoCard

/-- THE SECOND FORM's CARD OF 'telemeterlaw04.CtxBack'. -/
def ctxBackUptoCard : Claim7 := { stood := { row := ctxBackUptoRow, standIns := [], harness := (true, "b43ba18150b12b623a9944652718dbf9b449f09b5181983626bac313c945c9d4"), looks := false }, kinds := [], alts := [], laidByText := true, laidKinds := [.data, .data, .pinned], laidTests := true, laidLooks := .later }
def CtxBackUptoCardSaid : Prop := Claim7.holds Tryd.pinned (.plain (OpenSpec.upto ctxBackSpec)) ctxBackUptoCard

/-- THE SECOND FORM's CARD OF 'telemeterlaw04.CtxTwice'. -/
def ctxTwiceUptoCard : Claim7 := { stood := { row := ctxTwiceUptoRow, standIns := [], harness := (true, "b43ba18150b12b623a9944652718dbf9b449f09b5181983626bac313c945c9d4"), looks := false }, kinds := [], alts := [], laidByText := true, laidKinds := [.data, .data, .pinned], laidTests := true, laidLooks := .later }
def CtxTwiceUptoCardSaid : Prop := Claim7.holds Tryd.pinned (.plain (OpenSpec.upto ctxTwiceSpec)) ctxTwiceUptoCard

/-- THE SECOND FORM's CARD OF 'telemeterlaw04.CtxLong'. -/
def ctxLongUptoCard : Claim7 := { stood := { row := ctxLongUptoRow, standIns := [], harness := (true, "b43ba18150b12b623a9944652718dbf9b449f09b5181983626bac313c945c9d4"), looks := false }, kinds := [], alts := [], laidByText := true, laidKinds := [.data, .data, .pinned], laidTests := true, laidLooks := .later }
def CtxLongUptoCardSaid : Prop := Claim7.holds Tryd.pinned (.plain (OpenSpec.upto ctxLongSpec)) ctxLongUptoCard
end Rows
end Go.Proofs.YtkfidolbbnmjfaaDoor
