/-
  DERIVED. GIVEN WITH THE SEED: THE CARDS: each row of YtmomboinapgpjaaDoorRows.lean that lists a variable, with what it lists TIED to the program's text (the seventh form; the later family's looks); each row that meets fmt, with fmt's text TOLD by the authors' own Lean function (tested against real Go, not proved from fmt's source: count such statements apart). THE CARD IS WHAT COUNTS. Prove the row's statement (the work); the ties are given (YtmomboinapgpjaaDoorTie.lean); close each card by the builder's one call (the guide's Derived/Test/ToyasCard.lean, 'card_holds'). Laid BY PROGRAM, IN A SANDBOX (cutbox-door.mjs). By AI agents, Wed Nov 11 2026. No macro, syntax, notation, axiom, sorry.
-/
import Derived.Test.YtmomboinapgpjaaDoorRows
import GoSem.ClaimSeven
namespace Go.Proofs.YtmomboinapgpjaaDoor
namespace Rows

/-- THE TIED CARD OF 'telemeterlaw06.HashMixes'. -/
def hashMixesCard : Claim7 := { stood := { row := hashMixesRow, standIns := [], harness := (true, "aa4422332cf9b7b569a3b0f99aff7db6bdd2ad50a19e3e0d2d7a2c73e4a5835a"), looks := false }, kinds := [], alts := [], laidByText := true, laidKinds := [.wider], laidTests := true, laidLooks := .later }
def HashMixesCardSaid : Prop := Claim7.holds Tryd.pinned (.plain (OpenSpec.ofChange hashMixesSpec)) hashMixesCard

/-- THE TIED CARD OF 'telemeterlaw06.HashTexts'. -/
def hashTextsCard : Claim7 := { stood := { row := hashTextsRow, standIns := [], harness := (true, "aa4422332cf9b7b569a3b0f99aff7db6bdd2ad50a19e3e0d2d7a2c73e4a5835a"), looks := false }, kinds := [], alts := [], laidByText := true, laidKinds := [.wider], laidTests := true, laidLooks := .later }
def HashTextsCardSaid : Prop := Claim7.holds Tryd.pinned (.plain (OpenSpec.ofChange hashTextsSpec)) hashTextsCard

/-- THE TIED CARD OF 'telemeterlaw06.HashBack'. -/
def hashBackCard : Claim7 := { stood := { row := hashBackRow, standIns := [], harness := (true, "aa4422332cf9b7b569a3b0f99aff7db6bdd2ad50a19e3e0d2d7a2c73e4a5835a"), looks := false }, kinds := [], alts := [], laidByText := true, laidKinds := [.wider], laidTests := true, laidLooks := .later }
def HashBackCardSaid : Prop := Claim7.holds Tryd.pinned (.plain (OpenSpec.ofChange hashBackSpec)) hashBackCard

/-- THE TIED CARD OF 'telemeterlaw06.HashApart'. -/
def hashApartCard : Claim7 := { stood := { row := hashApartRow, standIns := [], harness := (true, "aa4422332cf9b7b569a3b0f99aff7db6bdd2ad50a19e3e0d2d7a2c73e4a5835a"), looks := false }, kinds := [], alts := [], laidByText := true, laidKinds := [.wider], laidTests := true, laidLooks := .later }
def HashApartCardSaid : Prop := Claim7.holds Tryd.pinned (.plain (OpenSpec.ofChange hashApartSpec)) hashApartCard

/-- THE TIED CARD OF 'telemeterlaw06.HashWithin'. -/
def hashWithinCard : Claim7 := { stood := { row := hashWithinRow, standIns := [], harness := (true, "aa4422332cf9b7b569a3b0f99aff7db6bdd2ad50a19e3e0d2d7a2c73e4a5835a"), looks := false }, kinds := [], alts := [], laidByText := true, laidKinds := [.wider], laidTests := true, laidLooks := .later }
def HashWithinCardSaid : Prop := Claim7.holds Tryd.pinned (.plain (OpenSpec.ofChange hashWithinSpec)) hashWithinCard

/-- THE SECOND FORM's CARD OF 'telemeterlaw06.HashMixes'. -/
def hashMixesUptoCard : Claim7 := { stood := { row := hashMixesUptoRow, standIns := [], harness := (true, "aa4422332cf9b7b569a3b0f99aff7db6bdd2ad50a19e3e0d2d7a2c73e4a5835a"), looks := false }, kinds := [], alts := [], laidByText := true, laidKinds := [.wider], laidTests := true, laidLooks := .later }
def HashMixesUptoCardSaid : Prop := Claim7.holds Tryd.pinned (.plain (OpenSpec.upto hashMixesSpec)) hashMixesUptoCard

/-- THE SECOND FORM's CARD OF 'telemeterlaw06.HashTexts'. -/
def hashTextsUptoCard : Claim7 := { stood := { row := hashTextsUptoRow, standIns := [], harness := (true, "aa4422332cf9b7b569a3b0f99aff7db6bdd2ad50a19e3e0d2d7a2c73e4a5835a"), looks := false }, kinds := [], alts := [], laidByText := true, laidKinds := [.wider], laidTests := true, laidLooks := .later }
def HashTextsUptoCardSaid : Prop := Claim7.holds Tryd.pinned (.plain (OpenSpec.upto hashTextsSpec)) hashTextsUptoCard

/-- THE SECOND FORM's CARD OF 'telemeterlaw06.HashBack'. -/
def hashBackUptoCard : Claim7 := { stood := { row := hashBackUptoRow, standIns := [], harness := (true, "aa4422332cf9b7b569a3b0f99aff7db6bdd2ad50a19e3e0d2d7a2c73e4a5835a"), looks := false }, kinds := [], alts := [], laidByText := true, laidKinds := [.wider], laidTests := true, laidLooks := .later }
def HashBackUptoCardSaid : Prop := Claim7.holds Tryd.pinned (.plain (OpenSpec.upto hashBackSpec)) hashBackUptoCard

/-- THE SECOND FORM's CARD OF 'telemeterlaw06.HashApart'. -/
def hashApartUptoCard : Claim7 := { stood := { row := hashApartUptoRow, standIns := [], harness := (true, "aa4422332cf9b7b569a3b0f99aff7db6bdd2ad50a19e3e0d2d7a2c73e4a5835a"), looks := false }, kinds := [], alts := [], laidByText := true, laidKinds := [.wider], laidTests := true, laidLooks := .later }
def HashApartUptoCardSaid : Prop := Claim7.holds Tryd.pinned (.plain (OpenSpec.upto hashApartSpec)) hashApartUptoCard

/-- THE SECOND FORM's CARD OF 'telemeterlaw06.HashWithin'. -/
def hashWithinUptoCard : Claim7 := { stood := { row := hashWithinUptoRow, standIns := [], harness := (true, "aa4422332cf9b7b569a3b0f99aff7db6bdd2ad50a19e3e0d2d7a2c73e4a5835a"), looks := false }, kinds := [], alts := [], laidByText := true, laidKinds := [.wider], laidTests := true, laidLooks := .later }
def HashWithinUptoCardSaid : Prop := Claim7.holds Tryd.pinned (.plain (OpenSpec.upto hashWithinSpec)) hashWithinUptoCard
end Rows
end Go.Proofs.YtmomboinapgpjaaDoor
