/- Parts of the proof that stand ahead of it (R 6). -/
import Derived.Maps.OwnIn
import Derived.Test.YtcblkmlcbedomaaGreatDoorRM3
import Derived.Test.YtcblkmlcbedomaaGreatDoorTM9
set_option linter.unusedVariables false
set_option linter.unusedSimpArgs false
set_option maxRecDepth 20000
set_option maxHeartbeats 16000000
namespace Go.Proofs.YtcblkmlcbedomaaGreatDoor.Nl
open Go.RowKit Go.Maps
def zi (x:Int):Lit:= .int .i64 x
theorem wf_fits {x:Int} (h:yQ x):(Lit.int .i64 x).wf=true:=by
 unfold yQ at h
 simp[Lit.wf,IntKind.min,IntKind.max,IntKind.bits,IntKind.signed]
 omega
theorem setK:Keyed Tryz.prog 3:=int_keyed Tryz.underlying3
end Go.Proofs.YtcblkmlcbedomaaGreatDoor.Nl
