/- Parts of the proof that stand ahead of it (T 23). -/
import Derived.Shelf.SlIterI.Sorted
import Derived.Shelf.SortM.Plain
import Derived.Shelf.SortM.SortNone
import Derived.Test.YtcblkmlcbedomaaGreatDoorTM15
import Derived.Test.YtcblkmlcbedomaaGreatDoorTM2
set_option linter.unusedVariables false
set_option linter.unusedSimpArgs false
set_option maxRecDepth 20000
set_option maxHeartbeats 16000000
namespace Go.Proofs.YtcblkmlcbedomaaGreatDoor.Nl
open Go.RowKit Go.Shelf Go.Maps Go.Sort
def InV (w:World) (base:Nat) (v:Value) (l:List Int):Prop:=w.ownsRow base 3 1 v l.length (l.map (Value.int .i64))
abbrev ve (k:Nat):Value:= .func (.func 85) #[] #[.pointer (some ⟨k,0,none⟩)]
end Go.Proofs.YtcblkmlcbedomaaGreatDoor.Nl
