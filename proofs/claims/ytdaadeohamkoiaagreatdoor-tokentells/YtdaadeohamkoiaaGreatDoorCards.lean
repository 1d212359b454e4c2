/-
  DERIVED. GIVEN WITH THE SEED: THE CARDS: each row of YtdaadeohamkoiaaGreatDoorRows.lean that lists a variable, with what it lists TIED to the program's text (the seventh form; the later family's looks); each row that meets fmt, with fmt's text TOLD by the authors' own Lean function (tested against real Go, not proved from fmt's source: count such statements apart). THE CARD IS WHAT COUNTS. Prove the row's statement (the work); the ties are given (YtdaadeohamkoiaaGreatDoorTie.lean); close each card by the builder's one call (the guide's Derived/Test/ToyasCard.lean, 'card_holds'). Laid BY PROGRAM, IN A SANDBOX (cutbox-door.mjs). By AI agents, Wed Nov 11 2026. No macro, syntax, notation, axiom, sorry.
-/
import Derived.Test.YtdaadeohamkoiaaGreatDoorRows
import GoSem.ClaimSeven
namespace Go.Proofs.YtdaadeohamkoiaaGreatDoor
namespace Rows

/-- THE TIED CARD OF 'exegetelaw05.TokenTells'. -/
def tokenTellsCard : Claim7 := { stood := { row := tokenTellsRow, standIns := [], harness := (true, "655103ff55cdd4a261404efaa4c921623f2c694facfedfc14bb24b834b94ba01"), looks := true }, kinds := [], alts := [], laidByText := true, laidKinds := [.data, .data, .data, .data, .pinned], laidTests := true, laidLooks := .later }
def TokenTellsCardSaid : Prop := Claim7.holds Tryz.pinned (.plain (OpenSpec.ofChange tokenTellsSpec)) tokenTellsCard

/-- THE TIED CARD OF 'exegetelaw07.PrintMay'. -/
def printMayCard : Claim7 := { stood := { row := printMayRow, standIns := [], harness := (true, "655103ff55cdd4a261404efaa4c921623f2c694facfedfc14bb24b834b94ba01"), looks := true }, kinds := [], alts := [], laidByText := true, laidKinds := [.data, .data, .data, .data, .data, .data, .pinned], laidTests := true, laidLooks := .later }
def PrintMayCardSaid : Prop := Claim7.holds Tryz.pinned (.plain (OpenSpec.ofChange printMaySpec)) printMayCard

/-- THE TIED CARD OF 'exegetelaw07.PrintParts'. -/
def printPartsCard : Claim7 := { stood := { row := printPartsRow, standIns := [], harness := (true, "655103ff55cdd4a261404efaa4c921623f2c694facfedfc14bb24b834b94ba01"), looks := true }, kinds := [], alts := [], laidByText := true, laidKinds := [.data, .data, .data, .data, .data, .data, .pinned], laidTests := true, laidLooks := .later }
def PrintPartsCardSaid : Prop := Claim7.holds Tryz.pinned (.plain (OpenSpec.ofChange printPartsSpec)) printPartsCard

/-- THE TIED CARD OF 'exegetelaw07.PrintMarks'. -/
def printMarksCard : Claim7 := { stood := { row := printMarksRow, standIns := [], harness := (true, "655103ff55cdd4a261404efaa4c921623f2c694facfedfc14bb24b834b94ba01"), looks := true }, kinds := [], alts := [], laidByText := true, laidKinds := [.data, .data, .data, .data, .data, .data, .pinned], laidTests := true, laidLooks := .later }
def PrintMarksCardSaid : Prop := Claim7.holds Tryz.pinned (.plain (OpenSpec.ofChange printMarksSpec)) printMarksCard

/-- THE SECOND FORM's CARD OF 'exegetelaw05.TokenTells'. -/
def tokenTellsUptoCard : Claim7 := { stood := { row := tokenTellsUptoRow, standIns := [], harness := (true, "655103ff55cdd4a261404efaa4c921623f2c694facfedfc14bb24b834b94ba01"), looks := true }, kinds := [], alts := [], laidByText := true, laidKinds := [.data, .data, .data, .data, .pinned], laidTests := true, laidLooks := .later }
def TokenTellsUptoCardSaid : Prop := Claim7.holds Tryz.pinned (.plain (OpenSpec.upto tokenTellsSpec)) tokenTellsUptoCard

/-- THE SECOND FORM's CARD OF 'exegetelaw07.PrintMay'. -/
def printMayUptoCard : Claim7 := { stood := { row := printMayUptoRow, standIns := [], harness := (true, "655103ff55cdd4a261404efaa4c921623f2c694facfedfc14bb24b834b94ba01"), looks := true }, kinds := [], alts := [], laidByText := true, laidKinds := [.data, .data, .data, .data, .data, .data, .pinned], laidTests := true, laidLooks := .later }
def PrintMayUptoCardSaid : Prop := Claim7.holds Tryz.pinned (.plain (OpenSpec.upto printMaySpec)) printMayUptoCard

/-- THE SECOND FORM's CARD OF 'exegetelaw07.PrintParts'. -/
def printPartsUptoCard : Claim7 := { stood := { row := printPartsUptoRow, standIns := [], harness := (true, "655103ff55cdd4a261404efaa4c921623f2c694facfedfc14bb24b834b94ba01"), looks := true }, kinds := [], alts := [], laidByText := true, laidKinds := [.data, .data, .data, .data, .data, .data, .pinned], laidTests := true, laidLooks := .later }
def PrintPartsUptoCardSaid : Prop := Claim7.holds Tryz.pinned (.plain (OpenSpec.upto printPartsSpec)) printPartsUptoCard

/-- THE SECOND FORM's CARD OF 'exegetelaw07.PrintMarks'. -/
def printMarksUptoCard : Claim7 := { stood := { row := printMarksUptoRow, standIns := [], harness := (true, "655103ff55cdd4a261404efaa4c921623f2c694facfedfc14bb24b834b94ba01"), looks := true }, kinds := [], alts := [], laidByText := true, laidKinds := [.data, .data, .data, .data, .data, .data, .pinned], laidTests := true, laidLooks := .later }
def PrintMarksUptoCardSaid : Prop := Claim7.holds Tryz.pinned (.plain (OpenSpec.upto printMarksSpec)) printMarksUptoCard
end Rows
end Go.Proofs.YtdaadeohamkoiaaGreatDoor
