/- The contract of the document's answer to May. -/
import Derived.Test.YtejipaapbfjooaaDoorRgSets
import Derived.Test.YtejipaapbfjooaaDoorRgSame
namespace Go.Proofs.YtejipaapbfjooaaDoor
open Go.RowKit
set_option linter.unusedVariables false

theorem may_step {l : List (Int × Int)} {k : Nat} {lo hi : Int} (ht : l.take (k + 1) = l.take k ++ [(lo, hi)]) : G.mayB (l.take (k + 1)) = true ↔ G.mayB (l.take k) = true ∧ G.endOf 0 (l.take k) ≤ lo ∧ lo ≤ hi ∧ hi ≤ 1114111 := by
  rw [ht, G.may_snoc]
theorem may_not {l : List (Int × Int)} {k : Nat} (h : ¬ G.mayB (l.take k) = true) : G.mayB l = false := by
  cases e : G.mayB l with
  | false => rfl
  | true => exact absurd (may_take e k) h

theorem end_nonneg {l : List (Int × Int)} (h : G.mayB l = true) : 0 ≤ G.endOf 0 l := by
  rcases List.eq_nil_or_concat l with e | ⟨o, r, e⟩
  · rw [e]; exact Int.le_refl _
  · rw [List.concat_eq_append] at e
    have := G.may_mem h (r := r) (by rw [e]; simp)
    rw [e, G.endOf_append]; omega

end Go.Proofs.YtejipaapbfjooaaDoor
