/-
 ReachTells (P11.1, P11.2) at this commit: for every nonterminals of at most 62, and 1000 symbols, and any number, those are within it, and those have a text, that the document says; the least ones that are lost, and vain, are its. Conditions: the card's own, the listed variables of the library read as the tie lays them.
-/
import Derived.Test.YtcblkmlcbedomaaGreatDoorRows
import Derived.Test.YtcblkmlcbedomaaGreatDoorTie
import Derived.Test.YtcblkmlcbedomaaGreatDoorCards
import Derived.WalkKit
import Derived.ProofKit
import Derived.LaidMore
import Derived.OpenShut
import Derived.ShutString
import Derived.ChangeOld
import Derived.Below
import Derived.Stop.Joined
import Derived.SevenTiedAt
import Derived.ChangeMaps5
set_option linter.unusedVariables false
set_option linter.unusedSimpArgs false
set_option maxRecDepth 20000
set_option maxHeartbeats 16000000
namespace Go.Proofs.YtcblkmlcbedomaaGreatDoor.reachTells
open Go.ChangeShapes Go.WideShapes Go.ChangeAt Go.RowKit
theorem ov_c:joinedFacts Tryz.pinned.checked.prog 9 Tryz.f9 Rows.reachTellsSpec Rows.reachTellsRow=true:=by kernel_rfl
end Go.Proofs.YtcblkmlcbedomaaGreatDoor.reachTells
