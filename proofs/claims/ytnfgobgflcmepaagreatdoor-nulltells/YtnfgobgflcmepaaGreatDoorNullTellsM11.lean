/- Parts of the proof of NullTells that stand ahead of it (11: UtfRef). -/
import Derived.Deep.QuietTactic
import Derived.BigQuiet
import Derived.Test.YtnfgobgflcmepaaGreatDoorNullTellsM7
import Derived.Test.YtnfgobgflcmepaaGreatDoorNullTellsM10
set_option linter.unusedVariables false
set_option linter.unusedSimpArgs false
set_option maxRecDepth 20000
set_option maxHeartbeats 16000000
namespace Go.Proofs.YtnfgobgflcmepaaGreatDoor
open Go.RowKit
def candI (low : Int) (l : List Int) : Nat → Int
 | 0 => l.getD 0 0 - low
 | i + 1 => 64 * candI low l i + l.getD (i + 1) 0 - 128
def lowOf (n : Nat) : Int := [0, 0, 192, 224, 240].getD n 0
def cand (l : List Int) (n : Nat) : Int := candI (lowOf n) l (n - 1)
def Hit (l : List Int) (n : Nat) : Prop := U.zQ (cand l n) = true ∧ U.ka (cand l n) = l.take n
theorem Hit.next {l : List Int} {n : Nat} (h : Hit l n) (hn : n ≤ l.length) : U.yw l = (cand l n, n) := by
 have := U.next_put h.1 (l.drop n)
 rw [h.2, List.take_append_drop, List.length_take, Nat.min_eq_left hn] at this
 exact this
end Go.Proofs.YtnfgobgflcmepaaGreatDoor
