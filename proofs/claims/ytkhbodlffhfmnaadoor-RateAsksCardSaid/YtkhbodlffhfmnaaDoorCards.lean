/-
  DERIVED. GIVEN WITH THE SEED: THE CARDS: each row of YtkhbodlffhfmnaaDoorRows.lean that lists a variable, with what it lists TIED to the program's text (the seventh form; the later family's looks); each row that meets fmt, with fmt's text TOLD by the authors' own Lean function (tested against real Go, not proved from fmt's source: count such statements apart). THE CARD IS WHAT COUNTS. Prove the row's statement (the work); the ties are given (YtkhbodlffhfmnaaDoorTie.lean); close each card by the builder's one call (the guide's Derived/Test/ToyasCard.lean, 'card_holds'). Laid BY PROGRAM, IN A SANDBOX (cutbox-door.mjs). By AI agents, Wed Nov 11 2026. No macro, syntax, notation, axiom, sorry.
-/
import Derived.Test.YtkhbodlffhfmnaaDoorRows
import GoSem.ClaimSeven
namespace Go.Proofs.YtkhbodlffhfmnaaDoor
namespace Rows

/-- THE TIED CARD OF 'telemeterlaw09.RateBy'. -/
def rateByCard : Claim7 := { stood := { row := rateByRow, standIns := [], harness := (true, "3b820b4a8dad58297398d809c5e35d5c821a43371e6be96d291c6a4e81108cf8"), looks := false }, kinds := [], alts := [], laidByText := true, laidKinds := [.wider], laidTests := true, laidLooks := .later }
def RateByCardSaid : Prop := Claim7.holds Tryd.pinned (.plain (OpenSpec.ofChange rateBySpec)) rateByCard

/-- THE TIED CARD OF 'telemeterlaw09.RateAsks'. -/
def rateAsksCard : Claim7 := { stood := { row := rateAsksRow, standIns := [], harness := (true, "3b820b4a8dad58297398d809c5e35d5c821a43371e6be96d291c6a4e81108cf8"), looks := false }, kinds := [], alts := [], laidByText := true, laidKinds := [.wider], laidTests := true, laidLooks := .later }
def RateAsksCardSaid : Prop := Claim7.holds Tryd.pinned (.plain (OpenSpec.ofChange rateAsksSpec)) rateAsksCard

/-- THE TIED CARD OF 'telemeterlaw09.RateKeeps'. -/
def rateKeepsCard : Claim7 := { stood := { row := rateKeepsRow, standIns := [], harness := (true, "3b820b4a8dad58297398d809c5e35d5c821a43371e6be96d291c6a4e81108cf8"), looks := false }, kinds := [], alts := [], laidByText := true, laidKinds := [.wider], laidTests := true, laidLooks := .later }
def RateKeepsCardSaid : Prop := Claim7.holds Tryd.pinned (.plain (OpenSpec.ofChange rateKeepsSpec)) rateKeepsCard

/-- THE TIED CARD OF 'telemeterlaw09.RateToward'. -/
def rateTowardCard : Claim7 := { stood := { row := rateTowardRow, standIns := [], harness := (true, "3b820b4a8dad58297398d809c5e35d5c821a43371e6be96d291c6a4e81108cf8"), looks := false }, kinds := [], alts := [], laidByText := true, laidKinds := [.wider], laidTests := true, laidLooks := .later }
def RateTowardCardSaid : Prop := Claim7.holds Tryd.pinned (.plain (OpenSpec.ofChange rateTowardSpec)) rateTowardCard

/-- THE TIED CARD OF 'telemeterlaw09.RateSteady'. -/
def rateSteadyCard : Claim7 := { stood := { row := rateSteadyRow, standIns := [], harness := (true, "3b820b4a8dad58297398d809c5e35d5c821a43371e6be96d291c6a4e81108cf8"), looks := false }, kinds := [], alts := [], laidByText := true, laidKinds := [.wider], laidTests := true, laidLooks := .later }
def RateSteadyCardSaid : Prop := Claim7.holds Tryd.pinned (.plain (OpenSpec.ofChange rateSteadySpec)) rateSteadyCard

/-- THE TIED CARD OF 'telemeterlaw09.RateFirst'. -/
def rateFirstCard : Claim7 := { stood := { row := rateFirstRow, standIns := [], harness := (true, "3b820b4a8dad58297398d809c5e35d5c821a43371e6be96d291c6a4e81108cf8"), looks := false }, kinds := [], alts := [], laidByText := true, laidKinds := [.wider], laidTests := true, laidLooks := .later }
def RateFirstCardSaid : Prop := Claim7.holds Tryd.pinned (.plain (OpenSpec.ofChange rateFirstSpec)) rateFirstCard

/-- THE SECOND FORM's CARD OF 'telemeterlaw09.RateBy'. -/
def rateByUptoCard : Claim7 := { stood := { row := rateByUptoRow, standIns := [], harness := (true, "3b820b4a8dad58297398d809c5e35d5c821a43371e6be96d291c6a4e81108cf8"), looks := false }, kinds := [], alts := [], laidByText := true, laidKinds := [.wider], laidTests := true, laidLooks := .later }
def RateByUptoCardSaid : Prop := Claim7.holds Tryd.pinned (.plain (OpenSpec.upto rateBySpec)) rateByUptoCard

/-- THE SECOND FORM's CARD OF 'telemeterlaw09.RateAsks'. -/
def rateAsksUptoCard : Claim7 := { stood := { row := rateAsksUptoRow, standIns := [], harness := (true, "3b820b4a8dad58297398d809c5e35d5c821a43371e6be96d291c6a4e81108cf8"), looks := false }, kinds := [], alts := [], laidByText := true, laidKinds := [.wider], laidTests := true, laidLooks := .later }
def RateAsksUptoCardSaid : Prop := Claim7.holds Tryd.pinned (.plain (OpenSpec.upto rateAsksSpec)) rateAsksUptoCard

/-- THE SECOND FORM's CARD OF 'telemeterlaw09.RateKeeps'. -/
def rateKeepsUptoCard : Claim7 := { stood := { row := rateKeepsUptoRow, standIns := [], harness := (true, "3b820b4a8dad58297398d809c5e35d5c821a43371e6be96d291c6a4e81108cf8"), looks := false }, kinds := [], alts := [], laidByText := true, laidKinds := [.wider], laidTests := true, laidLooks := .later }
def RateKeepsUptoCardSaid : Prop := Claim7.holds Tryd.pinned (.plain (OpenSpec.upto rateKeepsSpec)) rateKeepsUptoCard

/-- THE SECOND FORM's CARD OF 'telemeterlaw09.RateToward'. -/
def rateTowardUptoCard : Claim7 := { stood := { row := rateTowardUptoRow, standIns := [], harness := (true, "3b820b4a8dad58297398d809c5e35d5c821a43371e6be96d291c6a4e81108cf8"), looks := false }, kinds := [], alts := [], laidByText := true, laidKinds := [.wider], laidTests := true, laidLooks := .later }
def RateTowardUptoCardSaid : Prop := Claim7.holds Tryd.pinned (.plain (OpenSpec.upto rateTowardSpec)) rateTowardUptoCard

/-- THE SECOND FORM's CARD OF 'telemeterlaw09.RateSteady'. -/
def rateSteadyUptoCard : Claim7 := { stood := { row := rateSteadyUptoRow, standIns := [], harness := (true, "3b820b4a8dad58297398d809c5e35d5c821a43371e6be96d291c6a4e81108cf8"), looks := false }, kinds := [], alts := [], laidByText := true, laidKinds := [.wider], laidTests := true, laidLooks := .later }
def RateSteadyUptoCardSaid : Prop := Claim7.holds Tryd.pinned (.plain (OpenSpec.upto rateSteadySpec)) rateSteadyUptoCard

/-- THE SECOND FORM's CARD OF 'telemeterlaw09.RateFirst'. -/
def rateFirstUptoCard : Claim7 := { stood := { row := rateFirstUptoRow, standIns := [], harness := (true, "3b820b4a8dad58297398d809c5e35d5c821a43371e6be96d291c6a4e81108cf8"), looks := false }, kinds := [], alts := [], laidByText := true, laidKinds := [.wider], laidTests := true, laidLooks := .later }
def RateFirstUptoCardSaid : Prop := Claim7.holds Tryd.pinned (.plain (OpenSpec.upto rateFirstSpec)) rateFirstUptoCard
end Rows
end Go.Proofs.YtkhbodlffhfmnaaDoor
