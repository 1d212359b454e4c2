/-
  DERIVED. GIVEN WITH THE SEED: THE CARDS: each row of YtamefbpdnblbdaaGreatDoorRows.lean that lists a variable, with what it lists TIED to the program's text (the seventh form; the later family's looks); each row that meets fmt, with fmt's text TOLD by the authors' own Lean function (tested against real Go, not proved from fmt's source: count such statements apart). THE CARD IS WHAT COUNTS. Prove the row's statement (the work); the ties are given (YtamefbpdnblbdaaGreatDoorTie.lean); close each card by the builder's one call (the guide's Derived/Test/ToyasCard.lean, 'card_holds'). Laid BY PROGRAM, IN A SANDBOX (cutbox-door.mjs). By AI agents, Wed Nov 11 2026. No macro, syntax, notation, axiom, sorry.
-/
import Derived.Test.YtamefbpdnblbdaaGreatDoorRows
import GoSem.ClaimSeven
namespace Go.Proofs.YtamefbpdnblbdaaGreatDoor
namespace Rows

/-- THE TIED CARD OF 'exegetelaw08.FlatMay'. -/
def flatMayCard : Claim7 := { stood := { row := flatMayRow, standIns := [], harness := (true, "bbd62fc06f3d3fd91a27840b99bc0175984a898aa986655c2a256a9fdf1d20b5"), looks := true }, kinds := [], alts := [], laidByText := true, laidKinds := [.data, .pinned], laidTests := true, laidLooks := .later }
def FlatMayCardSaid : Prop := Claim7.holds Tryz.pinned (.plain (OpenSpec.ofChange flatMaySpec)) flatMayCard

/-- THE TIED CARD OF 'exegetelaw09.NullTells'. -/
def nullTellsCard : Claim7 := { stood := { row := nullTellsRow, standIns := [], harness := (true, "bbd62fc06f3d3fd91a27840b99bc0175984a898aa986655c2a256a9fdf1d20b5"), looks := true }, kinds := [], alts := [], laidByText := true, laidKinds := [.data, .pinned], laidTests := true, laidLooks := .later }
def NullTellsCardSaid : Prop := Claim7.holds Tryz.pinned (.plain (OpenSpec.ofChange nullTellsSpec)) nullTellsCard

/-- THE TIED CARD OF 'exegetelaw09.NullLeast'. -/
def nullLeastCard : Claim7 := { stood := { row := nullLeastRow, standIns := [], harness := (true, "bbd62fc06f3d3fd91a27840b99bc0175984a898aa986655c2a256a9fdf1d20b5"), looks := true }, kinds := [], alts := [], laidByText := true, laidKinds := [.data, .pinned], laidTests := true, laidLooks := .later }
def NullLeastCardSaid : Prop := Claim7.holds Tryz.pinned (.plain (OpenSpec.ofChange nullLeastSpec)) nullLeastCard

/-- THE TIED CARD OF 'exegetelaw09.NullMore'. -/
def nullMoreCard : Claim7 := { stood := { row := nullMoreRow, standIns := [], harness := (true, "bbd62fc06f3d3fd91a27840b99bc0175984a898aa986655c2a256a9fdf1d20b5"), looks := true }, kinds := [], alts := [], laidByText := true, laidKinds := [.data, .pinned], laidTests := true, laidLooks := .later }
def NullMoreCardSaid : Prop := Claim7.holds Tryz.pinned (.plain (OpenSpec.ofChange nullMoreSpec)) nullMoreCard

/-- THE TIED CARD OF 'exegetelaw09.NullLefts'. -/
def nullLeftsCard : Claim7 := { stood := { row := nullLeftsRow, standIns := [], harness := (true, "bbd62fc06f3d3fd91a27840b99bc0175984a898aa986655c2a256a9fdf1d20b5"), looks := true }, kinds := [], alts := [], laidByText := true, laidKinds := [.data, .pinned], laidTests := true, laidLooks := .later }
def NullLeftsCardSaid : Prop := Claim7.holds Tryz.pinned (.plain (OpenSpec.ofChange nullLeftsSpec)) nullLeftsCard

/-- THE TIED CARD OF 'exegetelaw09.NullJoin'. -/
def nullJoinCard : Claim7 := { stood := { row := nullJoinRow, standIns := [], harness := (true, "bbd62fc06f3d3fd91a27840b99bc0175984a898aa986655c2a256a9fdf1d20b5"), looks := true }, kinds := [], alts := [], laidByText := true, laidKinds := [.data, .pinned], laidTests := true, laidLooks := .later }
def NullJoinCardSaid : Prop := Claim7.holds Tryz.pinned (.plain (OpenSpec.ofChange nullJoinSpec)) nullJoinCard

/-- THE SECOND FORM's CARD OF 'exegetelaw08.FlatMay'. -/
def flatMayUptoCard : Claim7 := { stood := { row := flatMayUptoRow, standIns := [], harness := (true, "bbd62fc06f3d3fd91a27840b99bc0175984a898aa986655c2a256a9fdf1d20b5"), looks := true }, kinds := [], alts := [], laidByText := true, laidKinds := [.data, .pinned], laidTests := true, laidLooks := .later }
def FlatMayUptoCardSaid : Prop := Claim7.holds Tryz.pinned (.plain (OpenSpec.upto flatMaySpec)) flatMayUptoCard

/-- THE SECOND FORM's CARD OF 'exegetelaw09.NullTells'. -/
def nullTellsUptoCard : Claim7 := { stood := { row := nullTellsUptoRow, standIns := [], harness := (true, "bbd62fc06f3d3fd91a27840b99bc0175984a898aa986655c2a256a9fdf1d20b5"), looks := true }, kinds := [], alts := [], laidByText := true, laidKinds := [.data, .pinned], laidTests := true, laidLooks := .later }
def NullTellsUptoCardSaid : Prop := Claim7.holds Tryz.pinned (.plain (OpenSpec.upto nullTellsSpec)) nullTellsUptoCard

/-- THE SECOND FORM's CARD OF 'exegetelaw09.NullLeast'. -/
def nullLeastUptoCard : Claim7 := { stood := { row := nullLeastUptoRow, standIns := [], harness := (true, "bbd62fc06f3d3fd91a27840b99bc0175984a898aa986655c2a256a9fdf1d20b5"), looks := true }, kinds := [], alts := [], laidByText := true, laidKinds := [.data, .pinned], laidTests := true, laidLooks := .later }
def NullLeastUptoCardSaid : Prop := Claim7.holds Tryz.pinned (.plain (OpenSpec.upto nullLeastSpec)) nullLeastUptoCard

/-- THE SECOND FORM's CARD OF 'exegetelaw09.NullMore'. -/
def nullMoreUptoCard : Claim7 := { stood := { row := nullMoreUptoRow, standIns := [], harness := (true, "bbd62fc06f3d3fd91a27840b99bc0175984a898aa986655c2a256a9fdf1d20b5"), looks := true }, kinds := [], alts := [], laidByText := true, laidKinds := [.data, .pinned], laidTests := true, laidLooks := .later }
def NullMoreUptoCardSaid : Prop := Claim7.holds Tryz.pinned (.plain (OpenSpec.upto nullMoreSpec)) nullMoreUptoCard

/-- THE SECOND FORM's CARD OF 'exegetelaw09.NullLefts'. -/
def nullLeftsUptoCard : Claim7 := { stood := { row := nullLeftsUptoRow, standIns := [], harness := (true, "bbd62fc06f3d3fd91a27840b99bc0175984a898aa986655c2a256a9fdf1d20b5"), looks := true }, kinds := [], alts := [], laidByText := true, laidKinds := [.data, .pinned], laidTests := true, laidLooks := .later }
def NullLeftsUptoCardSaid : Prop := Claim7.holds Tryz.pinned (.plain (OpenSpec.upto nullLeftsSpec)) nullLeftsUptoCard

/-- THE SECOND FORM's CARD OF 'exegetelaw09.NullJoin'. -/
def nullJoinUptoCard : Claim7 := { stood := { row := nullJoinUptoRow, standIns := [], harness := (true, "bbd62fc06f3d3fd91a27840b99bc0175984a898aa986655c2a256a9fdf1d20b5"), looks := true }, kinds := [], alts := [], laidByText := true, laidKinds := [.data, .pinned], laidTests := true, laidLooks := .later }
def NullJoinUptoCardSaid : Prop := Claim7.holds Tryz.pinned (.plain (OpenSpec.upto nullJoinSpec)) nullJoinUptoCard
end Rows
end Go.Proofs.YtamefbpdnblbdaaGreatDoor
