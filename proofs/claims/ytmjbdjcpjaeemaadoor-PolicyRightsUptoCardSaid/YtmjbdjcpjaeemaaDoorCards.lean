/-
  DERIVED. GIVEN WITH THE SEED: THE CARDS: each row of YtmjbdjcpjaeemaaDoorRows.lean that lists a variable, with what it lists TIED to the program's text (the seventh form; the later family's looks); each row that meets fmt, with fmt's text TOLD by the authors' own Lean function (tested against real Go, not proved from fmt's source: count such statements apart). THE CARD IS WHAT COUNTS. Prove the row's statement (the work); the ties are given (YtmjbdjcpjaeemaaDoorTie.lean); close each card by the builder's one call (the guide's Derived/Test/ToyasCard.lean, 'card_holds'). Laid BY PROGRAM, IN A SANDBOX (cutbox-door.mjs). By AI agents, Wed Nov 11 2026. No macro, syntax, notation, axiom, sorry.
-/
import Derived.Test.YtmjbdjcpjaeemaaDoorRows
import GoSem.ClaimSeven
namespace Go.Proofs.YtmjbdjcpjaeemaaDoor
namespace Rows

/-- THE TIED CARD OF 'telemeterlaw12.PolicyBoth'. -/
def policyBothCard : Claim7 := { stood := { row := policyBothRow, standIns := [], harness := (true, "d26419e15da7787611b32d9d2416eaa499721131077aabd47a6ecf81f1076838"), looks := false }, kinds := [], alts := [], laidByText := true, laidKinds := [.data], laidTests := true, laidLooks := .later }
def PolicyBothCardSaid : Prop := Claim7.holds Tryd.pinned (.plain (OpenSpec.ofChange policyBothSpec)) policyBothCard

/-- THE TIED CARD OF 'telemeterlaw12.PolicyFew'. -/
def policyFewCard : Claim7 := { stood := { row := policyFewRow, standIns := [], harness := (true, "d26419e15da7787611b32d9d2416eaa499721131077aabd47a6ecf81f1076838"), looks := false }, kinds := [], alts := [], laidByText := true, laidKinds := [.data], laidTests := true, laidLooks := .later }
def PolicyFewCardSaid : Prop := Claim7.holds Tryd.pinned (.plain (OpenSpec.ofChange policyFewSpec)) policyFewCard

/-- THE TIED CARD OF 'telemeterlaw12.PolicyRights'. -/
def policyRightsCard : Claim7 := { stood := { row := policyRightsRow, standIns := [], harness := (true, "d26419e15da7787611b32d9d2416eaa499721131077aabd47a6ecf81f1076838"), looks := false }, kinds := [], alts := [], laidByText := true, laidKinds := [.data], laidTests := true, laidLooks := .later }
def PolicyRightsCardSaid : Prop := Claim7.holds Tryd.pinned (.plain (OpenSpec.ofChange policyRightsSpec)) policyRightsCard

/-- THE TIED CARD OF 'telemeterlaw12.PolicyTells'. -/
def policyTellsCard : Claim7 := { stood := { row := policyTellsRow, standIns := [], harness := (true, "d26419e15da7787611b32d9d2416eaa499721131077aabd47a6ecf81f1076838"), looks := false }, kinds := [], alts := [], laidByText := true, laidKinds := [.data], laidTests := true, laidLooks := .later }
def PolicyTellsCardSaid : Prop := Claim7.holds Tryd.pinned (.plain (OpenSpec.ofChange policyTellsSpec)) policyTellsCard

/-- THE TIED CARD OF 'telemeterlaw12.PolicyMore'. -/
def policyMoreCard : Claim7 := { stood := { row := policyMoreRow, standIns := [], harness := (true, "d26419e15da7787611b32d9d2416eaa499721131077aabd47a6ecf81f1076838"), looks := false }, kinds := [], alts := [], laidByText := true, laidKinds := [.data], laidTests := true, laidLooks := .later }
def PolicyMoreCardSaid : Prop := Claim7.holds Tryd.pinned (.plain (OpenSpec.ofChange policyMoreSpec)) policyMoreCard

/-- THE TIED CARD OF 'telemeterlaw12.PolicyRows'. -/
def policyRowsCard : Claim7 := { stood := { row := policyRowsRow, standIns := [], harness := (true, "d26419e15da7787611b32d9d2416eaa499721131077aabd47a6ecf81f1076838"), looks := false }, kinds := [], alts := [], laidByText := true, laidKinds := [.data], laidTests := true, laidLooks := .later }
def PolicyRowsCardSaid : Prop := Claim7.holds Tryd.pinned (.plain (OpenSpec.ofChange policyRowsSpec)) policyRowsCard

/-- THE SECOND FORM's CARD OF 'telemeterlaw12.PolicyBoth'. -/
def policyBothUptoCard : Claim7 := { stood := { row := policyBothUptoRow, standIns := [], harness := (true, "d26419e15da7787611b32d9d2416eaa499721131077aabd47a6ecf81f1076838"), looks := false }, kinds := [], alts := [], laidByText := true, laidKinds := [.data], laidTests := true, laidLooks := .later }
def PolicyBothUptoCardSaid : Prop := Claim7.holds Tryd.pinned (.plain (OpenSpec.upto policyBothSpec)) policyBothUptoCard

/-- THE SECOND FORM's CARD OF 'telemeterlaw12.PolicyFew'. -/
def policyFewUptoCard : Claim7 := { stood := { row := policyFewUptoRow, standIns := [], harness := (true, "d26419e15da7787611b32d9d2416eaa499721131077aabd47a6ecf81f1076838"), looks := false }, kinds := [], alts := [], laidByText := true, laidKinds := [.data], laidTests := true, laidLooks := .later }
def PolicyFewUptoCardSaid : Prop := Claim7.holds Tryd.pinned (.plain (OpenSpec.upto policyFewSpec)) policyFewUptoCard

/-- THE SECOND FORM's CARD OF 'telemeterlaw12.PolicyRights'. -/
def policyRightsUptoCard : Claim7 := { stood := { row := policyRightsUptoRow, standIns := [], harness := (true, "d26419e15da7787611b32d9d2416eaa499721131077aabd47a6ecf81f1076838"), looks := false }, kinds := [], alts := [], laidByText := true, laidKinds := [.data], laidTests := true, laidLooks := .later }
def PolicyRightsUptoCardSaid : Prop := Claim7.holds Tryd.pinned (.plain (OpenSpec.upto policyRightsSpec)) policyRightsUptoCard

/-- THE SECOND FORM's CARD OF 'telemeterlaw12.PolicyTells'. -/
def policyTellsUptoCard : Claim7 := { stood := { row := policyTellsUptoRow, standIns := [], harness := (true, "d26419e15da7787611b32d9d2416eaa499721131077aabd47a6ecf81f1076838"), looks := false }, kinds := [], alts := [], laidByText := true, laidKinds := [.data], laidTests := true, laidLooks := .later }
def PolicyTellsUptoCardSaid : Prop := Claim7.holds Tryd.pinned (.plain (OpenSpec.upto policyTellsSpec)) policyTellsUptoCard

/-- THE SECOND FORM's CARD OF 'telemeterlaw12.PolicyMore'. -/
def policyMoreUptoCard : Claim7 := { stood := { row := policyMoreUptoRow, standIns := [], harness := (true, "d26419e15da7787611b32d9d2416eaa499721131077aabd47a6ecf81f1076838"), looks := false }, kinds := [], alts := [], laidByText := true, laidKinds := [.data], laidTests := true, laidLooks := .later }
def PolicyMoreUptoCardSaid : Prop := Claim7.holds Tryd.pinned (.plain (OpenSpec.upto policyMoreSpec)) policyMoreUptoCard

/-- THE SECOND FORM's CARD OF 'telemeterlaw12.PolicyRows'. -/
def policyRowsUptoCard : Claim7 := { stood := { row := policyRowsUptoRow, standIns := [], harness := (true, "d26419e15da7787611b32d9d2416eaa499721131077aabd47a6ecf81f1076838"), looks := false }, kinds := [], alts := [], laidByText := true, laidKinds := [.data], laidTests := true, laidLooks := .later }
def PolicyRowsUptoCardSaid : Prop := Claim7.holds Tryd.pinned (.plain (OpenSpec.upto policyRowsSpec)) policyRowsUptoCard
end Rows
end Go.Proofs.YtmjbdjcpjaeemaaDoor
