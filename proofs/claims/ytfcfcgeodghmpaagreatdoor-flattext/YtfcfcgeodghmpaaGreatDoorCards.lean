/-
  DERIVED. GIVEN WITH THE SEED: THE CARDS: each row of YtfcfcgeodghmpaaGreatDoorRows.lean that lists a variable, with what it lists TIED to the program's text (the seventh form; the later family's looks); each row that meets fmt, with fmt's text TOLD by the authors' own Lean function (tested against real Go, not proved from fmt's source: count such statements apart). THE CARD IS WHAT COUNTS. Prove the row's statement (the work); the ties are given (YtfcfcgeodghmpaaGreatDoorTie.lean); close each card by the builder's one call (the guide's Derived/Test/ToyasCard.lean, 'card_holds'). Laid BY PROGRAM, IN A SANDBOX (cutbox-door.mjs). By AI agents, Wed Nov 11 2026. No macro, syntax, notation, axiom, sorry.
-/
import Derived.Test.YtfcfcgeodghmpaaGreatDoorRows
import GoSem.ClaimSeven
namespace Go.Proofs.YtfcfcgeodghmpaaGreatDoor
namespace Rows

/-- THE TIED CARD OF 'exegetelaw07.PrintMay'. -/
def printMayCard : Claim7 := { stood := { row := printMayRow, standIns := [], harness := (true, "0e315bdb81a1f55bc385a52cf5d52e37ee2887382ffc6a5483792e3bdfd465d0"), looks := true }, kinds := [], alts := [], laidByText := true, laidKinds := [.data, .data, .data, .data, .data, .data, .pinned], laidTests := true, laidLooks := .later }
def PrintMayCardSaid : Prop := Claim7.holds Tryz.pinned (.plain (OpenSpec.ofChange printMaySpec)) printMayCard

/-- THE TIED CARD OF 'exegetelaw07.PrintParts'. -/
def printPartsCard : Claim7 := { stood := { row := printPartsRow, standIns := [], harness := (true, "0e315bdb81a1f55bc385a52cf5d52e37ee2887382ffc6a5483792e3bdfd465d0"), looks := true }, kinds := [], alts := [], laidByText := true, laidKinds := [.data, .data, .data, .data, .data, .data, .pinned], laidTests := true, laidLooks := .later }
def PrintPartsCardSaid : Prop := Claim7.holds Tryz.pinned (.plain (OpenSpec.ofChange printPartsSpec)) printPartsCard

/-- THE TIED CARD OF 'exegetelaw07.PrintMarks'. -/
def printMarksCard : Claim7 := { stood := { row := printMarksRow, standIns := [], harness := (true, "0e315bdb81a1f55bc385a52cf5d52e37ee2887382ffc6a5483792e3bdfd465d0"), looks := true }, kinds := [], alts := [], laidByText := true, laidKinds := [.data, .data, .data, .data, .data, .data, .pinned], laidTests := true, laidLooks := .later }
def PrintMarksCardSaid : Prop := Claim7.holds Tryz.pinned (.plain (OpenSpec.ofChange printMarksSpec)) printMarksCard

/-- THE TIED CARD OF 'exegetelaw08.FlatMay'. -/
def flatMayCard : Claim7 := { stood := { row := flatMayRow, standIns := [], harness := (true, "0e315bdb81a1f55bc385a52cf5d52e37ee2887382ffc6a5483792e3bdfd465d0"), looks := true }, kinds := [], alts := [], laidByText := true, laidKinds := [.data, .pinned], laidTests := true, laidLooks := .later }
def FlatMayCardSaid : Prop := Claim7.holds Tryz.pinned (.plain (OpenSpec.ofChange flatMaySpec)) flatMayCard

/-- THE TIED CARD OF 'exegetelaw08.FlatAlone'. -/
def flatAloneCard : Claim7 := { stood := { row := flatAloneRow, standIns := [], harness := (true, "0e315bdb81a1f55bc385a52cf5d52e37ee2887382ffc6a5483792e3bdfd465d0"), looks := true }, kinds := [], alts := [], laidByText := true, laidKinds := [.data, .pinned], laidTests := true, laidLooks := .later }
def FlatAloneCardSaid : Prop := Claim7.holds Tryz.pinned (.plain (OpenSpec.ofChange flatAloneSpec)) flatAloneCard

/-- THE TIED CARD OF 'exegetelaw08.FlatNames'. -/
def flatNamesCard : Claim7 := { stood := { row := flatNamesRow, standIns := [], harness := (true, "0e315bdb81a1f55bc385a52cf5d52e37ee2887382ffc6a5483792e3bdfd465d0"), looks := true }, kinds := [], alts := [], laidByText := true, laidKinds := [.data, .pinned], laidTests := true, laidLooks := .later }
def FlatNamesCardSaid : Prop := Claim7.holds Tryz.pinned (.plain (OpenSpec.ofChange flatNamesSpec)) flatNamesCard

/-- THE TIED CARD OF 'exegetelaw08.FlatText'. -/
def flatTextCard : Claim7 := { stood := { row := flatTextRow, standIns := [], harness := (true, "0e315bdb81a1f55bc385a52cf5d52e37ee2887382ffc6a5483792e3bdfd465d0"), looks := true }, kinds := [], alts := [], laidByText := true, laidKinds := [.data, .pinned], laidTests := true, laidLooks := .later }
def FlatTextCardSaid : Prop := Claim7.holds Tryz.pinned (.plain (OpenSpec.ofChange flatTextSpec)) flatTextCard

/-- THE TIED CARD OF 'exegetelaw08.FlatMany'. -/
def flatManyCard : Claim7 := { stood := { row := flatManyRow, standIns := [], harness := (true, "0e315bdb81a1f55bc385a52cf5d52e37ee2887382ffc6a5483792e3bdfd465d0"), looks := true }, kinds := [], alts := [], laidByText := true, laidKinds := [.data, .pinned], laidTests := true, laidLooks := .later }
def FlatManyCardSaid : Prop := Claim7.holds Tryz.pinned (.plain (OpenSpec.ofChange flatManySpec)) flatManyCard

/-- THE SECOND FORM's CARD OF 'exegetelaw07.PrintMay'. -/
def printMayUptoCard : Claim7 := { stood := { row := printMayUptoRow, standIns := [], harness := (true, "0e315bdb81a1f55bc385a52cf5d52e37ee2887382ffc6a5483792e3bdfd465d0"), looks := true }, kinds := [], alts := [], laidByText := true, laidKinds := [.data, .data, .data, .data, .data, .data, .pinned], laidTests := true, laidLooks := .later }
def PrintMayUptoCardSaid : Prop := Claim7.holds Tryz.pinned (.plain (OpenSpec.upto printMaySpec)) printMayUptoCard

/-- THE SECOND FORM's CARD OF 'exegetelaw07.PrintParts'. -/
def printPartsUptoCard : Claim7 := { stood := { row := printPartsUptoRow, standIns := [], harness := (true, "0e315bdb81a1f55bc385a52cf5d52e37ee2887382ffc6a5483792e3bdfd465d0"), looks := true }, kinds := [], alts := [], laidByText := true, laidKinds := [.data, .data, .data, .data, .data, .data, .pinned], laidTests := true, laidLooks := .later }
def PrintPartsUptoCardSaid : Prop := Claim7.holds Tryz.pinned (.plain (OpenSpec.upto printPartsSpec)) printPartsUptoCard

/-- THE SECOND FORM's CARD OF 'exegetelaw07.PrintMarks'. -/
def printMarksUptoCard : Claim7 := { stood := { row := printMarksUptoRow, standIns := [], harness := (true, "0e315bdb81a1f55bc385a52cf5d52e37ee2887382ffc6a5483792e3bdfd465d0"), looks := true }, kinds := [], alts := [], laidByText := true, laidKinds := [.data, .data, .data, .data, .data, .data, .pinned], laidTests := true, laidLooks := .later }
def PrintMarksUptoCardSaid : Prop := Claim7.holds Tryz.pinned (.plain (OpenSpec.upto printMarksSpec)) printMarksUptoCard

/-- THE SECOND FORM's CARD OF 'exegetelaw08.FlatMay'. -/
def flatMayUptoCard : Claim7 := { stood := { row := flatMayUptoRow, standIns := [], harness := (true, "0e315bdb81a1f55bc385a52cf5d52e37ee2887382ffc6a5483792e3bdfd465d0"), looks := true }, kinds := [], alts := [], laidByText := true, laidKinds := [.data, .pinned], laidTests := true, laidLooks := .later }
def FlatMayUptoCardSaid : Prop := Claim7.holds Tryz.pinned (.plain (OpenSpec.upto flatMaySpec)) flatMayUptoCard

/-- THE SECOND FORM's CARD OF 'exegetelaw08.FlatAlone'. -/
def flatAloneUptoCard : Claim7 := { stood := { row := flatAloneUptoRow, standIns := [], harness := (true, "0e315bdb81a1f55bc385a52cf5d52e37ee2887382ffc6a5483792e3bdfd465d0"), looks := true }, kinds := [], alts := [], laidByText := true, laidKinds := [.data, .pinned], laidTests := true, laidLooks := .later }
def FlatAloneUptoCardSaid : Prop := Claim7.holds Tryz.pinned (.plain (OpenSpec.upto flatAloneSpec)) flatAloneUptoCard

/-- THE SECOND FORM's CARD OF 'exegetelaw08.FlatNames'. -/
def flatNamesUptoCard : Claim7 := { stood := { row := flatNamesUptoRow, standIns := [], harness := (true, "0e315bdb81a1f55bc385a52cf5d52e37ee2887382ffc6a5483792e3bdfd465d0"), looks := true }, kinds := [], alts := [], laidByText := true, laidKinds := [.data, .pinned], laidTests := true, laidLooks := .later }
def FlatNamesUptoCardSaid : Prop := Claim7.holds Tryz.pinned (.plain (OpenSpec.upto flatNamesSpec)) flatNamesUptoCard

/-- THE SECOND FORM's CARD OF 'exegetelaw08.FlatText'. -/
def flatTextUptoCard : Claim7 := { stood := { row := flatTextUptoRow, standIns := [], harness := (true, "0e315bdb81a1f55bc385a52cf5d52e37ee2887382ffc6a5483792e3bdfd465d0"), looks := true }, kinds := [], alts := [], laidByText := true, laidKinds := [.data, .pinned], laidTests := true, laidLooks := .later }
def FlatTextUptoCardSaid : Prop := Claim7.holds Tryz.pinned (.plain (OpenSpec.upto flatTextSpec)) flatTextUptoCard

/-- THE SECOND FORM's CARD OF 'exegetelaw08.FlatMany'. -/
def flatManyUptoCard : Claim7 := { stood := { row := flatManyUptoRow, standIns := [], harness := (true, "0e315bdb81a1f55bc385a52cf5d52e37ee2887382ffc6a5483792e3bdfd465d0"), looks := true }, kinds := [], alts := [], laidByText := true, laidKinds := [.data, .pinned], laidTests := true, laidLooks := .later }
def FlatManyUptoCardSaid : Prop := Claim7.holds Tryz.pinned (.plain (OpenSpec.upto flatManySpec)) flatManyUptoCard
end Rows
end Go.Proofs.YtfcfcgeodghmpaaGreatDoor
