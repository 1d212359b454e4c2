/- Parts of the proof of NullJoin that stand ahead of it (16: FlLaid). -/
import Derived.Test.YtamefbpdnblbdaaGreatDoorRows
import Derived.ProofKit
import Derived.LaidMore
import Derived.OpenShut
import Derived.ChangeSame
import Derived.Stop.Joined
import GoSem.PinnedTables
import Derived.Laws.BitsLemmas
import Derived.Laws.Bits64
import Derived.Test.YtamefbpdnblbdaaGreatDoorNullJoinM7
import Derived.Test.YtamefbpdnblbdaaGreatDoorNullJoinM6
namespace Go.Proofs.YtamefbpdnblbdaaGreatDoor
open Go.ChangeShapes Go.WideShapes Go.RowKit
set_option linter.unusedVariables false

abbrev laidF : List (String × DataW Unit) := [("unicode/utf8.acceptRanges", Rows.laid_unicode_utf8_acceptRanges), ("unicode/utf8.first", Rows.laid_unicode_utf8_first)]
set_option maxRecDepth 100000 in
theorem doorF_met (os : Os) (args : Array Value) : laidMetH Tryz.prog laidF (World.forCall ({ World.doorLaid Tryz.prog 400 os with heap := (World.doorLaid Tryz.prog 400 os).heap.setIfInBounds 0 (.cells (Pinned.utf8FirstZ.map fun (n : Nat) => Value.int .u8 (n : Int)).toArray 234) }) (fun _ _ => 0) ⟨#[], args, []⟩).memory :=
  laidMetH_of_parts3 (fuel := 8) (laidMet_of_run' 8 (by kernel_rfl) (by kernel_rfl)) (by kernel_rfl) (by kernel_rfl)
end Go.Proofs.YtamefbpdnblbdaaGreatDoor

