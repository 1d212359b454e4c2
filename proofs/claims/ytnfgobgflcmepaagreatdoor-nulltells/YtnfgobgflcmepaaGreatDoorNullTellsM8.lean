/- Parts of the proof of NullTells that stand ahead of it (8: RgSame). -/
import Derived.Laws.StructEq
import Derived.Deep.QuietTactic
import Derived.BigQuiet
import Derived.Test.YtnfgobgflcmepaaGreatDoorNullTellsM5
set_option linter.unusedVariables false
set_option linter.unusedSimpArgs false
set_option maxRecDepth 20000
set_option maxHeartbeats 16000000
namespace Go.Proofs.YtnfgobgflcmepaaGreatDoor
open Go.RowKit
theorem vi {w : World} {k : Nat} {B : Nat} : Below B w (w.drewN k) := ⟨rfl, rfl, rfl, Nat.le_refl _, fun _ _ => rfl⟩
end Go.Proofs.YtnfgobgflcmepaaGreatDoor
