/-
  DERIVED. GIVEN WITH THE SEED: THE CARDS: each row of YtgaoggniaajflaaDoorRows.lean that lists a variable, with what it lists TIED to the program's text (the seventh form; the later family's looks); each row that meets fmt, with fmt's text TOLD by the authors' own Lean function (tested against real Go, not proved from fmt's source: count such statements apart). THE CARD IS WHAT COUNTS. Prove the row's statement (the work); the ties are given (YtgaoggniaajflaaDoorTie.lean); close each card by the builder's one call (the guide's Derived/Test/ToyasCard.lean, 'card_holds'). Laid BY PROGRAM, IN A SANDBOX (cutbox-door.mjs). By AI agents, Wed Nov 11 2026. No macro, syntax, notation, axiom, sorry.
-/
import Derived.Test.YtgaoggniaajflaaDoorRows
import GoSem.ClaimSeven
namespace Go.Proofs.YtgaoggniaajflaaDoor
namespace Rows

/-- THE TIED CARD OF 'telemeterlaw08.WindowOpen'. -/
def windowOpenCard : Claim7 := { stood := { row := windowOpenRow, standIns := [], harness := (true, "35a696b54a191e9623e8fa126b20d04c5a52116489f495c68b4e02f340c7dcf8"), looks := false }, kinds := [], alts := [], laidByText := true, laidKinds := [.wider], laidTests := true, laidLooks := .later }
def WindowOpenCardSaid : Prop := Claim7.holds Tryd.pinned (.plain (OpenSpec.ofChange windowOpenSpec)) windowOpenCard

/-- THE TIED CARD OF 'telemeterlaw08.WindowCounts'. -/
def windowCountsCard : Claim7 := { stood := { row := windowCountsRow, standIns := [], harness := (true, "35a696b54a191e9623e8fa126b20d04c5a52116489f495c68b4e02f340c7dcf8"), looks := false }, kinds := [], alts := [], laidByText := true, laidKinds := [.wider], laidTests := true, laidLooks := .later }
def WindowCountsCardSaid : Prop := Claim7.holds Tryd.pinned (.plain (OpenSpec.ofChange windowCountsSpec)) windowCountsCard

/-- THE TIED CARD OF 'telemeterlaw08.WindowTurns'. -/
def windowTurnsCard : Claim7 := { stood := { row := windowTurnsRow, standIns := [], harness := (true, "35a696b54a191e9623e8fa126b20d04c5a52116489f495c68b4e02f340c7dcf8"), looks := false }, kinds := [], alts := [], laidByText := true, laidKinds := [.wider], laidTests := true, laidLooks := .later }
def WindowTurnsCardSaid : Prop := Claim7.holds Tryd.pinned (.plain (OpenSpec.ofChange windowTurnsSpec)) windowTurnsCard

/-- THE TIED CARD OF 'telemeterlaw08.WindowTimes'. -/
def windowTimesCard : Claim7 := { stood := { row := windowTimesRow, standIns := [], harness := (true, "35a696b54a191e9623e8fa126b20d04c5a52116489f495c68b4e02f340c7dcf8"), looks := false }, kinds := [], alts := [], laidByText := true, laidKinds := [.wider], laidTests := true, laidLooks := .later }
def WindowTimesCardSaid : Prop := Claim7.holds Tryd.pinned (.plain (OpenSpec.ofChange windowTimesSpec)) windowTimesCard

/-- THE SECOND FORM's CARD OF 'telemeterlaw08.WindowOpen'. -/
def windowOpenUptoCard : Claim7 := { stood := { row := windowOpenUptoRow, standIns := [], harness := (true, "35a696b54a191e9623e8fa126b20d04c5a52116489f495c68b4e02f340c7dcf8"), looks := false }, kinds := [], alts := [], laidByText := true, laidKinds := [.wider], laidTests := true, laidLooks := .later }
def WindowOpenUptoCardSaid : Prop := Claim7.holds Tryd.pinned (.plain (OpenSpec.upto windowOpenSpec)) windowOpenUptoCard

/-- THE SECOND FORM's CARD OF 'telemeterlaw08.WindowCounts'. -/
def windowCountsUptoCard : Claim7 := { stood := { row := windowCountsUptoRow, standIns := [], harness := (true, "35a696b54a191e9623e8fa126b20d04c5a52116489f495c68b4e02f340c7dcf8"), looks := false }, kinds := [], alts := [], laidByText := true, laidKinds := [.wider], laidTests := true, laidLooks := .later }
def WindowCountsUptoCardSaid : Prop := Claim7.holds Tryd.pinned (.plain (OpenSpec.upto windowCountsSpec)) windowCountsUptoCard

/-- THE SECOND FORM's CARD OF 'telemeterlaw08.WindowTurns'. -/
def windowTurnsUptoCard : Claim7 := { stood := { row := windowTurnsUptoRow, standIns := [], harness := (true, "35a696b54a191e9623e8fa126b20d04c5a52116489f495c68b4e02f340c7dcf8"), looks := false }, kinds := [], alts := [], laidByText := true, laidKinds := [.wider], laidTests := true, laidLooks := .later }
def WindowTurnsUptoCardSaid : Prop := Claim7.holds Tryd.pinned (.plain (OpenSpec.upto windowTurnsSpec)) windowTurnsUptoCard

/-- THE SECOND FORM's CARD OF 'telemeterlaw08.WindowTimes'. -/
def windowTimesUptoCard : Claim7 := { stood := { row := windowTimesUptoRow, standIns := [], harness := (true, "35a696b54a191e9623e8fa126b20d04c5a52116489f495c68b4e02f340c7dcf8"), looks := false }, kinds := [], alts := [], laidByText := true, laidKinds := [.wider], laidTests := true, laidLooks := .later }
def WindowTimesUptoCardSaid : Prop := Claim7.holds Tryd.pinned (.plain (OpenSpec.upto windowTimesSpec)) windowTimesUptoCard
end Rows
end Go.Proofs.YtgaoggniaajflaaDoor
