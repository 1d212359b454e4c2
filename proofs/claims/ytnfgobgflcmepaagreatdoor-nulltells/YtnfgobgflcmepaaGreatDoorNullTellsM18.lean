/- Parts of the proof of NullTells that stand ahead of it (18: FlLaid). -/
import Derived.Test.YtnfgobgflcmepaaGreatDoorRows
import Derived.ProofKit
import Derived.LaidMore
import Derived.OpenShut
import Derived.ChangeSame
import Derived.Stop.Joined
import GoSem.PinnedTables
import Derived.Laws.BitsLemmas
import Derived.Laws.Bits64
import Derived.Test.YtnfgobgflcmepaaGreatDoorNullTellsM9
import Derived.Test.YtnfgobgflcmepaaGreatDoorNullTellsM7
set_option linter.unusedVariables false
set_option linter.unusedSimpArgs false
set_option maxRecDepth 20000
set_option maxHeartbeats 16000000
namespace Go.Proofs.YtnfgobgflcmepaaGreatDoor
open Go.ChangeShapes Go.WideShapes Go.RowKit
abbrev laidF : List (String × DataW Unit) := [("unicode/utf8.acceptRanges", Rows.laid_unicode_utf8_acceptRanges), ("unicode/utf8.first", Rows.laid_unicode_utf8_first)]
set_option maxRecDepth 100000 in
theorem doorF_met (os : Os) (args : Array Value) : laidMetH Tryz.prog laidF (World.forCall ({ World.doorLaid Tryz.prog 400 os with heap := (World.doorLaid Tryz.prog 400 os).heap.setIfInBounds 0 (.cells (Pinned.utf8FirstZ.map fun (n : Nat) => Value.int .u8 (n : Int)).toArray 269) }) (fun _ _ => 0) ⟨#[], args, []⟩).memory :=
 laidMetH_of_parts3 (fuel := 8) (laidMet_of_run' 8 (by kernel_rfl) (by kernel_rfl)) (by kernel_rfl) (by kernel_rfl)
end Go.Proofs.YtnfgobgflcmepaaGreatDoor
