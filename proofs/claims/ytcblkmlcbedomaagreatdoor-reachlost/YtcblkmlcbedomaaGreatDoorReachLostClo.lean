/-
 ReachLost (P11.2) at this commit: for every nonterminals of at most 62, and 1000 symbols, that may be, the first one is never lost, who is told to be lost is not within the first one, and none ahead of it is lost; others are let be. Conditions: the card's own, the listed variables of the library read as the tie lays them.
-/
import Derived.Test.YtcblkmlcbedomaaGreatDoorRows
import Derived.Test.YtcblkmlcbedomaaGreatDoorTie
import Derived.Test.YtcblkmlcbedomaaGreatDoorCards
import Derived.WalkKit
import Derived.ProofKit
import Derived.LaidMore
import Derived.OpenShut
import Derived.ShutString
import Derived.ChangeOld
import Derived.Below
import Derived.Stop.Joined
import Derived.SevenTiedAt
import Derived.ChangeMaps5
set_option linter.unusedVariables false
set_option linter.unusedSimpArgs false
set_option maxRecDepth 20000
set_option maxHeartbeats 16000000
namespace Go.Proofs.YtcblkmlcbedomaaGreatDoor.reachLost
open Go.ChangeShapes Go.WideShapes Go.ChangeAt Go.RowKit
theorem ov_c:joinedFacts Tryz.pinned.checked.prog 12 Tryz.f12 Rows.reachLostSpec Rows.reachLostRow=true:=by kernel_rfl
end Go.Proofs.YtcblkmlcbedomaaGreatDoor.reachLost
