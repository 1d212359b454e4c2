/- Parts of the proof that stand ahead of it (ReachTells 5). -/
import Derived.Test.YtcblkmlcbedomaaGreatDoorRows
import Derived.ProofKit
import Derived.LaidMore
import Derived.Stop.Joined
import Derived.Test.YtcblkmlcbedomaaGreatDoorTM8
import Derived.Test.YtcblkmlcbedomaaGreatDoorTM7
import Derived.Test.YtcblkmlcbedomaaGreatDoorRM3
import Derived.Test.YtcblkmlcbedomaaGreatDoorReachTellsM1
set_option linter.unusedVariables false
set_option linter.unusedSimpArgs false
set_option maxRecDepth 20000
set_option maxHeartbeats 16000000
namespace Go.Proofs.YtcblkmlcbedomaaGreatDoor
open Go.ChangeShapes Go.WideShapes Go.RowKit
abbrev laidF:List (String×DataW Unit):=[("unicode/utf8.acceptRanges",Rows.laid_unicode_utf8_acceptRanges),("unicode/utf8.first",Rows.laid_unicode_utf8_first)]
set_option maxRecDepth 100000 in
theorem doorF_met (os:Os) (args:Array Value):laidMetH Tryz.prog laidF (World.forCall ({World.doorLaid Tryz.prog 400 os with heap:=(World.doorLaid Tryz.prog 400 os).heap.setIfInBounds 0 (.cells (Pinned.utf8FirstZ.map fun(n:Nat)=>Value.int .u8 (n:Int)).toArray 276)}) (fun _ _=>0) ⟨#[],args,[]⟩).memory:=
 laidMetH_of_parts3 (fuel:=8) (laidMet_of_run' 8 (by kernel_rfl) (by kernel_rfl)) (by kernel_rfl) (by kernel_rfl)
end Go.Proofs.YtcblkmlcbedomaaGreatDoor
