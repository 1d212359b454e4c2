/- Parts of the proof that stand ahead of it (T 15). -/
import Derived.Deep.AppendLies
import Derived.RangeFuncNested
import Derived.Shelf.RegionOpen
import Derived.LoopNIn
import Derived.LoopIn
import Derived.Maps.OwnIn
import Derived.Test.YtcblkmlcbedomaaGreatDoorTM5
import Derived.Test.YtcblkmlcbedomaaGreatDoorTM9
set_option linter.unusedVariables false
set_option linter.unusedSimpArgs false
set_option maxRecDepth 20000
set_option maxHeartbeats 16000000
namespace Go.Proofs.YtcblkmlcbedomaaGreatDoor.Nl
open Go.RowKit Go.Shelf
abbrev onlyEnd (R:World→Prop):Exit→Act→World→Prop:=Exit.then (fun _ W=>R W) (fun _ _ _=>False)
end Go.Proofs.YtcblkmlcbedomaaGreatDoor.Nl
