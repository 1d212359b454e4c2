/- Parts of the proof that stand ahead of it (T 9). -/
import Derived.Deep.RegionHeld3
import Derived.Test.YtcblkmlcbedomaaGreatDoorTM7
set_option linter.unusedVariables false
set_option linter.unusedSimpArgs false
set_option maxRecDepth 20000
set_option maxHeartbeats 16000000
namespace Go.Proofs.YtcblkmlcbedomaaGreatDoor
open Go.RowKit
theorem kQ (n:Int) (h: -9223372036854775808≤n∧n≤9223372036854775807):IntKind.i64.wrap n=n:=by rw[IntKind.wrap_i64];omega
end Go.Proofs.YtcblkmlcbedomaaGreatDoor
