/-
  DERIVED. GIVEN WITH THE SEED: THE CARDS: each row of YtmacehpfhhlnpaaDoorRows.lean that lists a variable, with what it lists TIED to the program's text (the seventh form; the later family's looks); each row that meets fmt, with fmt's text TOLD by the authors' own Lean function (tested against real Go, not proved from fmt's source: count such statements apart). THE CARD IS WHAT COUNTS. Prove the row's statement (the work); the ties are given (YtmacehpfhhlnpaaDoorTie.lean); close each card by the builder's one call (the guide's Derived/Test/ToyasCard.lean, 'card_holds'). Laid BY PROGRAM, IN A SANDBOX (cutbox-door.mjs). By AI agents, Wed Nov 11 2026. No macro, syntax, notation, axiom, sorry.
-/
import Derived.Test.YtmacehpfhhlnpaaDoorRows
import GoSem.ClaimSeven
namespace Go.Proofs.YtmacehpfhhlnpaaDoor
namespace Rows

/-- THE TIED CARD OF 'telemeterlaw07.SketchZero'. -/
def sketchZeroCard : Claim7 := { stood := { row := sketchZeroRow, standIns := [], harness := (true, "1b2561abcc6eea718a0630c1bbdfa1d4297bb81aed7e437adf2429489a45fa35"), looks := false }, kinds := [], alts := [], laidByText := true, laidKinds := [.wider], laidTests := true, laidLooks := .later }
def SketchZeroCardSaid : Prop := Claim7.holds Tryd.pinned (.plain (OpenSpec.ofChange sketchZeroSpec)) sketchZeroCard

/-- THE TIED CARD OF 'telemeterlaw07.SketchCounts'. -/
def sketchCountsCard : Claim7 := { stood := { row := sketchCountsRow, standIns := [], harness := (true, "1b2561abcc6eea718a0630c1bbdfa1d4297bb81aed7e437adf2429489a45fa35"), looks := false }, kinds := [], alts := [], laidByText := true, laidKinds := [.wider], laidTests := true, laidLooks := .later }
def SketchCountsCardSaid : Prop := Claim7.holds Tryd.pinned (.plain (OpenSpec.ofChange sketchCountsSpec)) sketchCountsCard

/-- THE TIED CARD OF 'telemeterlaw07.SketchNever'. -/
def sketchNeverCard : Claim7 := { stood := { row := sketchNeverRow, standIns := [], harness := (true, "1b2561abcc6eea718a0630c1bbdfa1d4297bb81aed7e437adf2429489a45fa35"), looks := false }, kinds := [], alts := [], laidByText := true, laidKinds := [.wider], laidTests := true, laidLooks := .later }
def SketchNeverCardSaid : Prop := Claim7.holds Tryd.pinned (.plain (OpenSpec.ofChange sketchNeverSpec)) sketchNeverCard

/-- THE TIED CARD OF 'telemeterlaw07.SketchRows'. -/
def sketchRowsCard : Claim7 := { stood := { row := sketchRowsRow, standIns := [], harness := (true, "1b2561abcc6eea718a0630c1bbdfa1d4297bb81aed7e437adf2429489a45fa35"), looks := false }, kinds := [], alts := [], laidByText := true, laidKinds := [.wider], laidTests := true, laidLooks := .later }
def SketchRowsCardSaid : Prop := Claim7.holds Tryd.pinned (.plain (OpenSpec.ofChange sketchRowsSpec)) sketchRowsCard

/-- THE TIED CARD OF 'telemeterlaw07.SketchAlone'. -/
def sketchAloneCard : Claim7 := { stood := { row := sketchAloneRow, standIns := [], harness := (true, "1b2561abcc6eea718a0630c1bbdfa1d4297bb81aed7e437adf2429489a45fa35"), looks := false }, kinds := [], alts := [], laidByText := true, laidKinds := [.wider], laidTests := true, laidLooks := .later }
def SketchAloneCardSaid : Prop := Claim7.holds Tryd.pinned (.plain (OpenSpec.ofChange sketchAloneSpec)) sketchAloneCard

/-- THE TIED CARD OF 'telemeterlaw07.SketchCopies'. -/
def sketchCopiesCard : Claim7 := { stood := { row := sketchCopiesRow, standIns := [], harness := (true, "1b2561abcc6eea718a0630c1bbdfa1d4297bb81aed7e437adf2429489a45fa35"), looks := false }, kinds := [], alts := [], laidByText := true, laidKinds := [.wider], laidTests := true, laidLooks := .later }
def SketchCopiesCardSaid : Prop := Claim7.holds Tryd.pinned (.plain (OpenSpec.ofChange sketchCopiesSpec)) sketchCopiesCard

/-- THE SECOND FORM's CARD OF 'telemeterlaw07.SketchZero'. -/
def sketchZeroUptoCard : Claim7 := { stood := { row := sketchZeroUptoRow, standIns := [], harness := (true, "1b2561abcc6eea718a0630c1bbdfa1d4297bb81aed7e437adf2429489a45fa35"), looks := false }, kinds := [], alts := [], laidByText := true, laidKinds := [.wider], laidTests := true, laidLooks := .later }
def SketchZeroUptoCardSaid : Prop := Claim7.holds Tryd.pinned (.plain (OpenSpec.upto sketchZeroSpec)) sketchZeroUptoCard

/-- THE SECOND FORM's CARD OF 'telemeterlaw07.SketchCounts'. -/
def sketchCountsUptoCard : Claim7 := { stood := { row := sketchCountsUptoRow, standIns := [], harness := (true, "1b2561abcc6eea718a0630c1bbdfa1d4297bb81aed7e437adf2429489a45fa35"), looks := false }, kinds := [], alts := [], laidByText := true, laidKinds := [.wider], laidTests := true, laidLooks := .later }
def SketchCountsUptoCardSaid : Prop := Claim7.holds Tryd.pinned (.plain (OpenSpec.upto sketchCountsSpec)) sketchCountsUptoCard

/-- THE SECOND FORM's CARD OF 'telemeterlaw07.SketchNever'. -/
def sketchNeverUptoCard : Claim7 := { stood := { row := sketchNeverUptoRow, standIns := [], harness := (true, "1b2561abcc6eea718a0630c1bbdfa1d4297bb81aed7e437adf2429489a45fa35"), looks := false }, kinds := [], alts := [], laidByText := true, laidKinds := [.wider], laidTests := true, laidLooks := .later }
def SketchNeverUptoCardSaid : Prop := Claim7.holds Tryd.pinned (.plain (OpenSpec.upto sketchNeverSpec)) sketchNeverUptoCard

/-- THE SECOND FORM's CARD OF 'telemeterlaw07.SketchRows'. -/
def sketchRowsUptoCard : Claim7 := { stood := { row := sketchRowsUptoRow, standIns := [], harness := (true, "1b2561abcc6eea718a0630c1bbdfa1d4297bb81aed7e437adf2429489a45fa35"), looks := false }, kinds := [], alts := [], laidByText := true, laidKinds := [.wider], laidTests := true, laidLooks := .later }
def SketchRowsUptoCardSaid : Prop := Claim7.holds Tryd.pinned (.plain (OpenSpec.upto sketchRowsSpec)) sketchRowsUptoCard

/-- THE SECOND FORM's CARD OF 'telemeterlaw07.SketchAlone'. -/
def sketchAloneUptoCard : Claim7 := { stood := { row := sketchAloneUptoRow, standIns := [], harness := (true, "1b2561abcc6eea718a0630c1bbdfa1d4297bb81aed7e437adf2429489a45fa35"), looks := false }, kinds := [], alts := [], laidByText := true, laidKinds := [.wider], laidTests := true, laidLooks := .later }
def SketchAloneUptoCardSaid : Prop := Claim7.holds Tryd.pinned (.plain (OpenSpec.upto sketchAloneSpec)) sketchAloneUptoCard

/-- THE SECOND FORM's CARD OF 'telemeterlaw07.SketchCopies'. -/
def sketchCopiesUptoCard : Claim7 := { stood := { row := sketchCopiesUptoRow, standIns := [], harness := (true, "1b2561abcc6eea718a0630c1bbdfa1d4297bb81aed7e437adf2429489a45fa35"), looks := false }, kinds := [], alts := [], laidByText := true, laidKinds := [.wider], laidTests := true, laidLooks := .later }
def SketchCopiesUptoCardSaid : Prop := Claim7.holds Tryd.pinned (.plain (OpenSpec.upto sketchCopiesSpec)) sketchCopiesUptoCard
end Rows
end Go.Proofs.YtmacehpfhhlnpaaDoor
