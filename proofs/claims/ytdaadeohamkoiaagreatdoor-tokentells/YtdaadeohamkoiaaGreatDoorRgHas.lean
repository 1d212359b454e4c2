/- Contracts of ranges.Has, and of what it calls. -/
import Derived.Test.YtdaadeohamkoiaaGreatDoorRgBase
namespace Go.Proofs.YtdaadeohamkoiaaGreatDoor
open Go.RowKit
set_option linter.unusedVariables false

def inB (lo hi n : Int) : Bool := decide (lo ≤ n) && decide (n ≤ hi)
theorem inB_yes {lo hi n : Int} (h1 : lo ≤ n) (h2 : n ≤ hi) : inB lo hi n = true := by simp [inB, h1, h2]
theorem inB_no {lo hi n : Int} (h : ¬ (lo ≤ n ∧ n ≤ hi)) : inB lo hi n = false := by
  unfold inB; rw [Bool.eq_false_iff]; simp only [ne_eq, Bool.and_eq_true, decide_eq_true_eq]; exact h

/-- the block in which a range lies that a call has been handed -/
abbrev boxRg (lo hi : Int) : Obj := .cells #[.int .i64 lo, .int .i64 hi] 54

end Go.Proofs.YtdaadeohamkoiaaGreatDoor
