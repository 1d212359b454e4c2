/-
  DERIVED. GIVEN WITH THE SEED: THE CARDS: each row of YtcblkmlcbedomaaGreatDoorRows.lean that lists a variable, with what it lists TIED to the program's text (the seventh form; the later family's looks); each row that meets fmt, with fmt's text TOLD by the authors' own Lean function (tested against real Go, not proved from fmt's source: count such statements apart). THE CARD IS WHAT COUNTS. Prove the row's statement (the work); the ties are given (YtcblkmlcbedomaaGreatDoorTie.lean); close each card by the builder's one call (the guide's Derived/Test/ToyasCard.lean, 'card_holds'). Laid BY PROGRAM, IN A SANDBOX (cutbox-door.mjs). By AI agents, Wed Nov 11 2026. No macro, syntax, notation, axiom, sorry.
-/
import Derived.Test.YtcblkmlcbedomaaGreatDoorRows
import GoSem.ClaimSeven
namespace Go.Proofs.YtcblkmlcbedomaaGreatDoor
namespace Rows

/-- THE TIED CARD OF 'exegetelaw10.RankTells'. -/
def rankTellsCard : Claim7 := { stood := { row := rankTellsRow, standIns := [], harness := (true, "4810764afebd47b6e1d6ac1a4cee2dcb186e9c7bceabe8b9693a0a3eba8c9da8"), looks := true }, kinds := [], alts := [], laidByText := true, laidKinds := [.data, .pinned], laidTests := true, laidLooks := .later }
def RankTellsCardSaid : Prop := Claim7.holds Tryz.pinned (.plain (OpenSpec.ofChange rankTellsSpec)) rankTellsCard

/-- THE TIED CARD OF 'exegetelaw10.RankOrder'. -/
def rankOrderCard : Claim7 := { stood := { row := rankOrderRow, standIns := [], harness := (true, "4810764afebd47b6e1d6ac1a4cee2dcb186e9c7bceabe8b9693a0a3eba8c9da8"), looks := true }, kinds := [], alts := [], laidByText := true, laidKinds := [.data, .pinned], laidTests := true, laidLooks := .later }
def RankOrderCardSaid : Prop := Claim7.holds Tryz.pinned (.plain (OpenSpec.ofChange rankOrderSpec)) rankOrderCard

/-- THE TIED CARD OF 'exegetelaw10.RankFirst'. -/
def rankFirstCard : Claim7 := { stood := { row := rankFirstRow, standIns := [], harness := (true, "4810764afebd47b6e1d6ac1a4cee2dcb186e9c7bceabe8b9693a0a3eba8c9da8"), looks := true }, kinds := [], alts := [], laidByText := true, laidKinds := [.data, .pinned], laidTests := true, laidLooks := .later }
def RankFirstCardSaid : Prop := Claim7.holds Tryz.pinned (.plain (OpenSpec.ofChange rankFirstSpec)) rankFirstCard

/-- THE TIED CARD OF 'exegetelaw10.RankSelf'. -/
def rankSelfCard : Claim7 := { stood := { row := rankSelfRow, standIns := [], harness := (true, "4810764afebd47b6e1d6ac1a4cee2dcb186e9c7bceabe8b9693a0a3eba8c9da8"), looks := true }, kinds := [], alts := [], laidByText := true, laidKinds := [.data, .pinned], laidTests := true, laidLooks := .later }
def RankSelfCardSaid : Prop := Claim7.holds Tryz.pinned (.plain (OpenSpec.ofChange rankSelfSpec)) rankSelfCard

/-- THE TIED CARD OF 'exegetelaw10.RankLess'. -/
def rankLessCard : Claim7 := { stood := { row := rankLessRow, standIns := [], harness := (true, "4810764afebd47b6e1d6ac1a4cee2dcb186e9c7bceabe8b9693a0a3eba8c9da8"), looks := true }, kinds := [], alts := [], laidByText := true, laidKinds := [.data, .pinned], laidTests := true, laidLooks := .later }
def RankLessCardSaid : Prop := Claim7.holds Tryz.pinned (.plain (OpenSpec.ofChange rankLessSpec)) rankLessCard

/-- THE TIED CARD OF 'exegetelaw10.RankFirsts'. -/
def rankFirstsCard : Claim7 := { stood := { row := rankFirstsRow, standIns := [], harness := (true, "4810764afebd47b6e1d6ac1a4cee2dcb186e9c7bceabe8b9693a0a3eba8c9da8"), looks := true }, kinds := [], alts := [], laidByText := true, laidKinds := [.data, .pinned], laidTests := true, laidLooks := .later }
def RankFirstsCardSaid : Prop := Claim7.holds Tryz.pinned (.plain (OpenSpec.ofChange rankFirstsSpec)) rankFirstsCard

/-- THE TIED CARD OF 'exegetelaw11.ReachTells'. -/
def reachTellsCard : Claim7 := { stood := { row := reachTellsRow, standIns := [], harness := (true, "4810764afebd47b6e1d6ac1a4cee2dcb186e9c7bceabe8b9693a0a3eba8c9da8"), looks := true }, kinds := [], alts := [], laidByText := true, laidKinds := [.data, .pinned], laidTests := true, laidLooks := .later }
def ReachTellsCardSaid : Prop := Claim7.holds Tryz.pinned (.plain (OpenSpec.ofChange reachTellsSpec)) reachTellsCard

/-- THE TIED CARD OF 'exegetelaw11.ReachWithin'. -/
def reachWithinCard : Claim7 := { stood := { row := reachWithinRow, standIns := [], harness := (true, "4810764afebd47b6e1d6ac1a4cee2dcb186e9c7bceabe8b9693a0a3eba8c9da8"), looks := true }, kinds := [], alts := [], laidByText := true, laidKinds := [.data, .pinned], laidTests := true, laidLooks := .later }
def ReachWithinCardSaid : Prop := Claim7.holds Tryz.pinned (.plain (OpenSpec.ofChange reachWithinSpec)) reachWithinCard

/-- THE TIED CARD OF 'exegetelaw11.ReachMakes'. -/
def reachMakesCard : Claim7 := { stood := { row := reachMakesRow, standIns := [], harness := (true, "4810764afebd47b6e1d6ac1a4cee2dcb186e9c7bceabe8b9693a0a3eba8c9da8"), looks := true }, kinds := [], alts := [], laidByText := true, laidKinds := [.data, .pinned], laidTests := true, laidLooks := .later }
def ReachMakesCardSaid : Prop := Claim7.holds Tryz.pinned (.plain (OpenSpec.ofChange reachMakesSpec)) reachMakesCard

/-- THE TIED CARD OF 'exegetelaw11.ReachLost'. -/
def reachLostCard : Claim7 := { stood := { row := reachLostRow, standIns := [], harness := (true, "4810764afebd47b6e1d6ac1a4cee2dcb186e9c7bceabe8b9693a0a3eba8c9da8"), looks := true }, kinds := [], alts := [], laidByText := true, laidKinds := [.data, .pinned], laidTests := true, laidLooks := .later }
def ReachLostCardSaid : Prop := Claim7.holds Tryz.pinned (.plain (OpenSpec.ofChange reachLostSpec)) reachLostCard

/-- THE TIED CARD OF 'exegetelaw11.ReachSelf'. -/
def reachSelfCard : Claim7 := { stood := { row := reachSelfRow, standIns := [], harness := (true, "4810764afebd47b6e1d6ac1a4cee2dcb186e9c7bceabe8b9693a0a3eba8c9da8"), looks := true }, kinds := [], alts := [], laidByText := true, laidKinds := [.data, .pinned], laidTests := true, laidLooks := .later }
def ReachSelfCardSaid : Prop := Claim7.holds Tryz.pinned (.plain (OpenSpec.ofChange reachSelfSpec)) reachSelfCard

/-- THE SECOND FORM's CARD OF 'exegetelaw10.RankTells'. -/
def rankTellsUptoCard : Claim7 := { stood := { row := rankTellsUptoRow, standIns := [], harness := (true, "4810764afebd47b6e1d6ac1a4cee2dcb186e9c7bceabe8b9693a0a3eba8c9da8"), looks := true }, kinds := [], alts := [], laidByText := true, laidKinds := [.data, .pinned], laidTests := true, laidLooks := .later }
def RankTellsUptoCardSaid : Prop := Claim7.holds Tryz.pinned (.plain (OpenSpec.upto rankTellsSpec)) rankTellsUptoCard

/-- THE SECOND FORM's CARD OF 'exegetelaw10.RankOrder'. -/
def rankOrderUptoCard : Claim7 := { stood := { row := rankOrderUptoRow, standIns := [], harness := (true, "4810764afebd47b6e1d6ac1a4cee2dcb186e9c7bceabe8b9693a0a3eba8c9da8"), looks := true }, kinds := [], alts := [], laidByText := true, laidKinds := [.data, .pinned], laidTests := true, laidLooks := .later }
def RankOrderUptoCardSaid : Prop := Claim7.holds Tryz.pinned (.plain (OpenSpec.upto rankOrderSpec)) rankOrderUptoCard

/-- THE SECOND FORM's CARD OF 'exegetelaw10.RankFirst'. -/
def rankFirstUptoCard : Claim7 := { stood := { row := rankFirstUptoRow, standIns := [], harness := (true, "4810764afebd47b6e1d6ac1a4cee2dcb186e9c7bceabe8b9693a0a3eba8c9da8"), looks := true }, kinds := [], alts := [], laidByText := true, laidKinds := [.data, .pinned], laidTests := true, laidLooks := .later }
def RankFirstUptoCardSaid : Prop := Claim7.holds Tryz.pinned (.plain (OpenSpec.upto rankFirstSpec)) rankFirstUptoCard

/-- THE SECOND FORM's CARD OF 'exegetelaw10.RankSelf'. -/
def rankSelfUptoCard : Claim7 := { stood := { row := rankSelfUptoRow, standIns := [], harness := (true, "4810764afebd47b6e1d6ac1a4cee2dcb186e9c7bceabe8b9693a0a3eba8c9da8"), looks := true }, kinds := [], alts := [], laidByText := true, laidKinds := [.data, .pinned], laidTests := true, laidLooks := .later }
def RankSelfUptoCardSaid : Prop := Claim7.holds Tryz.pinned (.plain (OpenSpec.upto rankSelfSpec)) rankSelfUptoCard

/-- THE SECOND FORM's CARD OF 'exegetelaw10.RankLess'. -/
def rankLessUptoCard : Claim7 := { stood := { row := rankLessUptoRow, standIns := [], harness := (true, "4810764afebd47b6e1d6ac1a4cee2dcb186e9c7bceabe8b9693a0a3eba8c9da8"), looks := true }, kinds := [], alts := [], laidByText := true, laidKinds := [.data, .pinned], laidTests := true, laidLooks := .later }
def RankLessUptoCardSaid : Prop := Claim7.holds Tryz.pinned (.plain (OpenSpec.upto rankLessSpec)) rankLessUptoCard

/-- THE SECOND FORM's CARD OF 'exegetelaw10.RankFirsts'. -/
def rankFirstsUptoCard : Claim7 := { stood := { row := rankFirstsUptoRow, standIns := [], harness := (true, "4810764afebd47b6e1d6ac1a4cee2dcb186e9c7bceabe8b9693a0a3eba8c9da8"), looks := true }, kinds := [], alts := [], laidByText := true, laidKinds := [.data, .pinned], laidTests := true, laidLooks := .later }
def RankFirstsUptoCardSaid : Prop := Claim7.holds Tryz.pinned (.plain (OpenSpec.upto rankFirstsSpec)) rankFirstsUptoCard

/-- THE SECOND FORM's CARD OF 'exegetelaw11.ReachTells'. -/
def reachTellsUptoCard : Claim7 := { stood := { row := reachTellsUptoRow, standIns := [], harness := (true, "4810764afebd47b6e1d6ac1a4cee2dcb186e9c7bceabe8b9693a0a3eba8c9da8"), looks := true }, kinds := [], alts := [], laidByText := true, laidKinds := [.data, .pinned], laidTests := true, laidLooks := .later }
def ReachTellsUptoCardSaid : Prop := Claim7.holds Tryz.pinned (.plain (OpenSpec.upto reachTellsSpec)) reachTellsUptoCard

/-- THE SECOND FORM's CARD OF 'exegetelaw11.ReachWithin'. -/
def reachWithinUptoCard : Claim7 := { stood := { row := reachWithinUptoRow, standIns := [], harness := (true, "4810764afebd47b6e1d6ac1a4cee2dcb186e9c7bceabe8b9693a0a3eba8c9da8"), looks := true }, kinds := [], alts := [], laidByText := true, laidKinds := [.data, .pinned], laidTests := true, laidLooks := .later }
def ReachWithinUptoCardSaid : Prop := Claim7.holds Tryz.pinned (.plain (OpenSpec.upto reachWithinSpec)) reachWithinUptoCard

/-- THE SECOND FORM's CARD OF 'exegetelaw11.ReachMakes'. -/
def reachMakesUptoCard : Claim7 := { stood := { row := reachMakesUptoRow, standIns := [], harness := (true, "4810764afebd47b6e1d6ac1a4cee2dcb186e9c7bceabe8b9693a0a3eba8c9da8"), looks := true }, kinds := [], alts := [], laidByText := true, laidKinds := [.data, .pinned], laidTests := true, laidLooks := .later }
def ReachMakesUptoCardSaid : Prop := Claim7.holds Tryz.pinned (.plain (OpenSpec.upto reachMakesSpec)) reachMakesUptoCard

/-- THE SECOND FORM's CARD OF 'exegetelaw11.ReachLost'. -/
def reachLostUptoCard : Claim7 := { stood := { row := reachLostUptoRow, standIns := [], harness := (true, "4810764afebd47b6e1d6ac1a4cee2dcb186e9c7bceabe8b9693a0a3eba8c9da8"), looks := true }, kinds := [], alts := [], laidByText := true, laidKinds := [.data, .pinned], laidTests := true, laidLooks := .later }
def ReachLostUptoCardSaid : Prop := Claim7.holds Tryz.pinned (.plain (OpenSpec.upto reachLostSpec)) reachLostUptoCard

/-- THE SECOND FORM's CARD OF 'exegetelaw11.ReachSelf'. -/
def reachSelfUptoCard : Claim7 := { stood := { row := reachSelfUptoRow, standIns := [], harness := (true, "4810764afebd47b6e1d6ac1a4cee2dcb186e9c7bceabe8b9693a0a3eba8c9da8"), looks := true }, kinds := [], alts := [], laidByText := true, laidKinds := [.data, .pinned], laidTests := true, laidLooks := .later }
def ReachSelfUptoCardSaid : Prop := Claim7.holds Tryz.pinned (.plain (OpenSpec.upto reachSelfSpec)) reachSelfUptoCard
end Rows
end Go.Proofs.YtcblkmlcbedomaaGreatDoor
