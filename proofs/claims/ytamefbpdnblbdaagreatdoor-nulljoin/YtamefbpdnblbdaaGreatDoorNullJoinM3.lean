/- Parts of the proof of NullJoin that stand ahead of it (3: UtfPut). -/
import Derived.Test.YtamefbpdnblbdaaGreatDoorChecked
import Derived.WalkKit
import Derived.WalkSpells
import Derived.WalkLawsBesides
import Derived.Test.YtamefbpdnblbdaaGreatDoorNullJoinM1
namespace Go.Proofs.YtamefbpdnblbdaaGreatDoor
open Go.RowKit

set_option maxHeartbeats 400000 in
theorem may_any (r : Int) (w : World) :
    Calls Tryz.prog 175 #[.int .i64 r] w fun e w' => e = .returned (.bool (U.mayB r)) ∧ w' = w := by
  have key : ∀ b : Bool, U.mayB r = b → Calls Tryz.prog 175 #[.int .i64 r] w fun e w' => e = .returned (.bool b) ∧ w' = w := by
    intro b hb
    by_cases h1 : 0 ≤ r
    · by_cases h2 : r ≤ 1114111
      · by_cases h3 : r < 55296
        · have : b = true := by rw [← hb, U.may_iff]; omega
          subst this; clear hb
          go_enter Tryz.func175, Tryz.ntmps175
          go_wp2
          go_ret
          exact ⟨rfl, rfl⟩
        · by_cases h4 : 57343 < r
          · have : b = true := by rw [← hb, U.may_iff]; omega
            subst this; clear hb
            go_enter Tryz.func175, Tryz.ntmps175
            go_wp2
            go_ret
            exact ⟨rfl, rfl⟩
          · have : b = false := by rw [← hb]; cases h : U.mayB r; rfl; rw [U.may_iff] at h; omega
            subst this; clear hb
            go_enter Tryz.func175, Tryz.ntmps175
            go_wp2
            go_ret
            exact ⟨rfl, rfl⟩
      · have : b = false := by rw [← hb]; cases h : U.mayB r; rfl; rw [U.may_iff] at h; omega
        subst this; clear hb
        go_enter Tryz.func175, Tryz.ntmps175
        go_wp2
        go_ret
        exact ⟨rfl, rfl⟩
    · have : b = false := by rw [← hb]; cases h : U.mayB r; rfl; rw [U.may_iff] at h; omega
      subst this; clear hb
      go_enter Tryz.func175, Tryz.ntmps175
      go_wp2
      go_ret
      exact ⟨rfl, rfl⟩
  exact key _ rfl

def putObj (r : Int) : Obj := .cells ((U.putL r).map (Value.int .u8)).toArray 5
end Go.Proofs.YtamefbpdnblbdaaGreatDoor

