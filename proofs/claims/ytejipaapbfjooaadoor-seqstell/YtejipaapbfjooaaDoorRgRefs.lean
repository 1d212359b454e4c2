/- Contracts of the document's answers: Norm, Size, Both, Either, Less, Not. -/
import Derived.Test.YtejipaapbfjooaaDoorRgRefOf
import Derived.Test.YtejipaapbfjooaaDoorRgRefMay
namespace Go.Proofs.YtejipaapbfjooaaDoor
open Go.RowKit
set_option linter.unusedVariables false

theorem fits_m1 : fits (-1) := by unfold fits; omega

theorem isP_0 (high : Int) (x y : Bool) (n : Int) : isP 0 high x y n = (x || y) := rfl
theorem isP_1 (high : Int) (x y : Bool) (n : Int) : isP 1 high x y n = (x && y) := rfl
theorem isP_2 (high : Int) (x y : Bool) (n : Int) : isP 2 high x y n = (x && !y) := rfl
theorem isP_3 (high : Int) (x y : Bool) (n : Int) : isP 3 high x y n = (!x && decide (n ≤ high)) := rfl

set_option maxRecDepth 20000 in
set_option maxHeartbeats 400000 in
theorem refNorm_any (a : Option Addr) (la ca : Nat) (A : List (Int × Int)) (w : World) (ha : Rs w a la ca A) :
    Calls Tryd.prog 29 #[.slice a la ca] w (An w (nrm A)) := by
  have C1 := hideR (refOf_any a la ca A none 0 0 [] 0 (-1) w ha (Rs.nil w) fits_m1)
  clear ha
  go_enter Tryd.func29, Tryd.ntmps29
  go_wp2_with fail
  refine (unhideR C1).mono ?_
  rintro e w1 ⟨a1, l1, k1, A1, rfl, r1, i1, b1⟩
  have i1' := hideR i1
  clear i1 C1
  go_wp2_with fail
  go_ret
  refine ⟨a1, l1, k1, A1, rfl, r1, (unhideR i1').congr fun n => ?_, b1⟩
  unfold ofP nrm
  rw [isP_0, G.hasB_nil, Bool.or_false]

end Go.Proofs.YtejipaapbfjooaaDoor
