/-
  DERIVED. GIVEN WITH THE SEED: THE CARDS: each row of YtejipaapbfjooaaDoorRows.lean that lists a variable, with what it lists TIED to the program's text (the seventh form; the later family's looks); each row that meets fmt, with fmt's text TOLD by the authors' own Lean function (tested against real Go, not proved from fmt's source: count such statements apart). THE CARD IS WHAT COUNTS. Prove the row's statement (the work); the ties are given (YtejipaapbfjooaaDoorTie.lean); close each card by the builder's one call (the guide's Derived/Test/ToyasCard.lean, 'card_holds'). Laid BY PROGRAM, IN A SANDBOX (cutbox-door.mjs). By AI agents, Wed Nov 11 2026. No macro, syntax, notation, axiom, sorry.
-/
import Derived.Test.YtejipaapbfjooaaDoorRows
import GoSem.ClaimSeven
namespace Go.Proofs.YtejipaapbfjooaaDoor
namespace Rows

/-- THE TIED CARD OF 'exegetelaw03.SeqsTell'. -/
def seqsTellCard : Claim7 := { stood := { row := seqsTellRow, standIns := [], harness := (true, "0e90b7f4c19e22cc4875e29dec67f4391a5126cc51e25cca9403f78382b9f22b"), looks := false }, kinds := [], alts := [], laidByText := true, laidKinds := [.data], laidTests := true, laidLooks := .later }
def SeqsTellCardSaid : Prop := Claim7.holds Tryd.pinned (.plain (OpenSpec.ofChange seqsTellSpec)) seqsTellCard

/-- THE TIED CARD OF 'exegetelaw03.SeqsMatch'. -/
def seqsMatchCard : Claim7 := { stood := { row := seqsMatchRow, standIns := [], harness := (true, "0e90b7f4c19e22cc4875e29dec67f4391a5126cc51e25cca9403f78382b9f22b"), looks := false }, kinds := [], alts := [], laidByText := true, laidKinds := [.data], laidTests := true, laidLooks := .later }
def SeqsMatchCardSaid : Prop := Claim7.holds Tryd.pinned (.plain (OpenSpec.ofChange seqsMatchSpec)) seqsMatchCard

/-- THE TIED CARD OF 'exegetelaw03.SeqsEach'. -/
def seqsEachCard : Claim7 := { stood := { row := seqsEachRow, standIns := [], harness := (true, "0e90b7f4c19e22cc4875e29dec67f4391a5126cc51e25cca9403f78382b9f22b"), looks := false }, kinds := [], alts := [], laidByText := true, laidKinds := [.data], laidTests := true, laidLooks := .later }
def SeqsEachCardSaid : Prop := Claim7.holds Tryd.pinned (.plain (OpenSpec.ofChange seqsEachSpec)) seqsEachCard

/-- THE TIED CARD OF 'exegetelaw03.SeqsPart'. -/
def seqsPartCard : Claim7 := { stood := { row := seqsPartRow, standIns := [], harness := (true, "0e90b7f4c19e22cc4875e29dec67f4391a5126cc51e25cca9403f78382b9f22b"), looks := false }, kinds := [], alts := [], laidByText := true, laidKinds := [.data], laidTests := true, laidLooks := .later }
def SeqsPartCardSaid : Prop := Claim7.holds Tryd.pinned (.plain (OpenSpec.ofChange seqsPartSpec)) seqsPartCard

/-- THE TIED CARD OF 'exegetelaw03.SeqsJoin'. -/
def seqsJoinCard : Claim7 := { stood := { row := seqsJoinRow, standIns := [], harness := (true, "0e90b7f4c19e22cc4875e29dec67f4391a5126cc51e25cca9403f78382b9f22b"), looks := false }, kinds := [], alts := [], laidByText := true, laidKinds := [.data], laidTests := true, laidLooks := .later }
def SeqsJoinCardSaid : Prop := Claim7.holds Tryd.pinned (.plain (OpenSpec.ofChange seqsJoinSpec)) seqsJoinCard

/-- THE TIED CARD OF 'exegetelaw03.SeqsBytes'. -/
def seqsBytesCard : Claim7 := { stood := { row := seqsBytesRow, standIns := [], harness := (true, "0e90b7f4c19e22cc4875e29dec67f4391a5126cc51e25cca9403f78382b9f22b"), looks := false }, kinds := [], alts := [], laidByText := true, laidKinds := [.data], laidTests := true, laidLooks := .later }
def SeqsBytesCardSaid : Prop := Claim7.holds Tryd.pinned (.plain (OpenSpec.ofChange seqsBytesSpec)) seqsBytesCard

/-- THE TIED CARD OF 'exegetelaw03.SeqsAll'. -/
def seqsAllCard : Claim7 := { stood := { row := seqsAllRow, standIns := [], harness := (true, "0e90b7f4c19e22cc4875e29dec67f4391a5126cc51e25cca9403f78382b9f22b"), looks := false }, kinds := [], alts := [], laidByText := true, laidKinds := [.data], laidTests := true, laidLooks := .later }
def SeqsAllCardSaid : Prop := Claim7.holds Tryd.pinned (.plain (OpenSpec.ofChange seqsAllSpec)) seqsAllCard

/-- THE SECOND FORM's CARD OF 'exegetelaw03.SeqsTell'. -/
def seqsTellUptoCard : Claim7 := { stood := { row := seqsTellUptoRow, standIns := [], harness := (true, "0e90b7f4c19e22cc4875e29dec67f4391a5126cc51e25cca9403f78382b9f22b"), looks := false }, kinds := [], alts := [], laidByText := true, laidKinds := [.data], laidTests := true, laidLooks := .later }
def SeqsTellUptoCardSaid : Prop := Claim7.holds Tryd.pinned (.plain (OpenSpec.upto seqsTellSpec)) seqsTellUptoCard

/-- THE SECOND FORM's CARD OF 'exegetelaw03.SeqsMatch'. -/
def seqsMatchUptoCard : Claim7 := { stood := { row := seqsMatchUptoRow, standIns := [], harness := (true, "0e90b7f4c19e22cc4875e29dec67f4391a5126cc51e25cca9403f78382b9f22b"), looks := false }, kinds := [], alts := [], laidByText := true, laidKinds := [.data], laidTests := true, laidLooks := .later }
def SeqsMatchUptoCardSaid : Prop := Claim7.holds Tryd.pinned (.plain (OpenSpec.upto seqsMatchSpec)) seqsMatchUptoCard

/-- THE SECOND FORM's CARD OF 'exegetelaw03.SeqsEach'. -/
def seqsEachUptoCard : Claim7 := { stood := { row := seqsEachUptoRow, standIns := [], harness := (true, "0e90b7f4c19e22cc4875e29dec67f4391a5126cc51e25cca9403f78382b9f22b"), looks := false }, kinds := [], alts := [], laidByText := true, laidKinds := [.data], laidTests := true, laidLooks := .later }
def SeqsEachUptoCardSaid : Prop := Claim7.holds Tryd.pinned (.plain (OpenSpec.upto seqsEachSpec)) seqsEachUptoCard

/-- THE SECOND FORM's CARD OF 'exegetelaw03.SeqsPart'. -/
def seqsPartUptoCard : Claim7 := { stood := { row := seqsPartUptoRow, standIns := [], harness := (true, "0e90b7f4c19e22cc4875e29dec67f4391a5126cc51e25cca9403f78382b9f22b"), looks := false }, kinds := [], alts := [], laidByText := true, laidKinds := [.data], laidTests := true, laidLooks := .later }
def SeqsPartUptoCardSaid : Prop := Claim7.holds Tryd.pinned (.plain (OpenSpec.upto seqsPartSpec)) seqsPartUptoCard

/-- THE SECOND FORM's CARD OF 'exegetelaw03.SeqsJoin'. -/
def seqsJoinUptoCard : Claim7 := { stood := { row := seqsJoinUptoRow, standIns := [], harness := (true, "0e90b7f4c19e22cc4875e29dec67f4391a5126cc51e25cca9403f78382b9f22b"), looks := false }, kinds := [], alts := [], laidByText := true, laidKinds := [.data], laidTests := true, laidLooks := .later }
def SeqsJoinUptoCardSaid : Prop := Claim7.holds Tryd.pinned (.plain (OpenSpec.upto seqsJoinSpec)) seqsJoinUptoCard

/-- THE SECOND FORM's CARD OF 'exegetelaw03.SeqsBytes'. -/
def seqsBytesUptoCard : Claim7 := { stood := { row := seqsBytesUptoRow, standIns := [], harness := (true, "0e90b7f4c19e22cc4875e29dec67f4391a5126cc51e25cca9403f78382b9f22b"), looks := false }, kinds := [], alts := [], laidByText := true, laidKinds := [.data], laidTests := true, laidLooks := .later }
def SeqsBytesUptoCardSaid : Prop := Claim7.holds Tryd.pinned (.plain (OpenSpec.upto seqsBytesSpec)) seqsBytesUptoCard

/-- THE SECOND FORM's CARD OF 'exegetelaw03.SeqsAll'. -/
def seqsAllUptoCard : Claim7 := { stood := { row := seqsAllUptoRow, standIns := [], harness := (true, "0e90b7f4c19e22cc4875e29dec67f4391a5126cc51e25cca9403f78382b9f22b"), looks := false }, kinds := [], alts := [], laidByText := true, laidKinds := [.data], laidTests := true, laidLooks := .later }
def SeqsAllUptoCardSaid : Prop := Claim7.holds Tryd.pinned (.plain (OpenSpec.upto seqsAllSpec)) seqsAllUptoCard
end Rows
end Go.Proofs.YtejipaapbfjooaaDoor
