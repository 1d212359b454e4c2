/- Parts of the proof of NullTells that stand ahead of it (10: UtfUnitsLaw). -/
import Derived.Deep.RegionWith
import Derived.Deep.RegionHeld3
import Derived.Test.YtnfgobgflcmepaaGreatDoorNullTellsM7
set_option linter.unusedVariables false
set_option linter.unusedSimpArgs false
set_option maxRecDepth 20000
set_option maxHeartbeats 16000000
namespace Go.Proofs.YtnfgobgflcmepaaGreatDoor
open Go.RowKit
theorem Below.next {w w1 w2 : World} (h : Below w.heap.size w w1) (k : Below w1.heap.size w1 w2) : Below w.heap.size w w2 := h.trans (k.mono h.size)
theorem kJ (n : Int) (h : -9223372036854775808 ≤ n ∧ n ≤ 9223372036854775807) : IntKind.i64.wrap n = n := by rw [IntKind.wrap_i64]; omega
theorem Bs.none {w : World} {a : Option Addr} {cap : Nat} (hc : cap ≤ maxLen) : Bs w a 0 cap [] := ⟨rfl, Nat.zero_le _, hc, fun z hz => by simp at hz, fun i hi => by omega⟩
end Go.Proofs.YtnfgobgflcmepaaGreatDoor
