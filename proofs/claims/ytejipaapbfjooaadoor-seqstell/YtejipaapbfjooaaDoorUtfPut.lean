/- Contracts of utf.May, utf.follower, utf.Put: what each call returns and leaves. -/
import Derived.Test.YtejipaapbfjooaaDoorChecked
import Derived.Test.YtejipaapbfjooaaDoorUtfMath
import Derived.WalkKit
import Derived.WalkSpells
import Derived.WalkLawsBesides
namespace Go.Proofs.YtejipaapbfjooaaDoor
open Go.RowKit

set_option maxHeartbeats 400000 in
theorem may_any (r : Int) (w : World) :
    Calls Tryd.prog 39 #[.int .i64 r] w fun e w' => e = .returned (.bool (U.mayB r)) ∧ w' = w := by
  have key : ∀ b : Bool, U.mayB r = b → Calls Tryd.prog 39 #[.int .i64 r] w fun e w' => e = .returned (.bool b) ∧ w' = w := by
    intro b hb
    by_cases h1 : 0 ≤ r
    · by_cases h2 : r ≤ 1114111
      · by_cases h3 : r < 55296
        · have : b = true := by rw [← hb, U.may_iff]; omega
          subst this; clear hb
          go_enter Tryd.func39, Tryd.ntmps39
          go_wp2
          go_ret
          exact ⟨rfl, rfl⟩
        · by_cases h4 : 57343 < r
          · have : b = true := by rw [← hb, U.may_iff]; omega
            subst this; clear hb
            go_enter Tryd.func39, Tryd.ntmps39
            go_wp2
            go_ret
            exact ⟨rfl, rfl⟩
          · have : b = false := by rw [← hb]; cases h : U.mayB r; rfl; rw [U.may_iff] at h; omega
            subst this; clear hb
            go_enter Tryd.func39, Tryd.ntmps39
            go_wp2
            go_ret
            exact ⟨rfl, rfl⟩
      · have : b = false := by rw [← hb]; cases h : U.mayB r; rfl; rw [U.may_iff] at h; omega
        subst this; clear hb
        go_enter Tryd.func39, Tryd.ntmps39
        go_wp2
        go_ret
        exact ⟨rfl, rfl⟩
    · have : b = false := by rw [← hb]; cases h : U.mayB r; rfl; rw [U.may_iff] at h; omega
      subst this; clear hb
      go_enter Tryd.func39, Tryd.ntmps39
      go_wp2
      go_ret
      exact ⟨rfl, rfl⟩
  exact key _ rfl

set_option maxHeartbeats 400000 in
theorem follower_any (r : Int) (w : World) (h0 : 0 ≤ r) (h1 : r ≤ 1114111) :
    Calls Tryd.prog 40 #[.int .i64 r] w fun e w' => e = .returned (.int .u8 (128 + r % 64)) ∧ w' = w := by
  go_enter Tryd.func40, Tryd.ntmps40
  go_wp2
  go_ret
  exact ⟨rfl, rfl⟩

set_option maxHeartbeats 400000 in
theorem put_no (r : Int) (w : World) (h : U.mayB r = false) :
    Calls Tryd.prog 21 #[.int .i64 r] w fun e w' => e = .returned (.tuple #[.slice none 0 0, .bool false]) ∧ w' = w := by
  go_enter Tryd.func21, Tryd.ntmps21
  go_wp2_with (go_at_call 39; refine (may_any _ _).mono ?_; rintro e w' ⟨rfl, rfl⟩)
  go_ret2
  exact ⟨rfl, rfl⟩

def putObj (r : Int) : Obj := .cells ((U.putL r).map (Value.int .u8)).toArray 5
def putVal (r : Int) (k : Nat) : Value := .slice (some ⟨k, 0, none⟩) (U.putL r).length (U.putL r).length

set_option maxHeartbeats 400000 in
theorem put_yes (r : Int) (w : World) (h : U.mayB r = true) :
    Calls Tryd.prog 21 #[.int .i64 r] w fun e w' => e = .returned (.tuple #[putVal r w.heap.size, .bool true]) ∧ w' = w.alloc (putObj r) := by
  have h' := (U.may_iff r).1 h
  obtain ⟨b0, b1, _⟩ := h'
  by_cases h1 : r < 128
  · have e1 : putVal r w.heap.size = .slice (some ⟨w.heap.size, 0, none⟩) 1 1 := by simp [putVal, U.putL, h1]
    have e2 : putObj r = .cells #[.int .u8 r] 5 := by simp [putObj, U.putL, h1]
    rw [e1, e2]; clear e1 e2
    go_enter Tryd.func21, Tryd.ntmps21
    go_wp2_with (go_at_call 39; refine (may_any _ _).mono ?_; rintro e w' ⟨rfl, rfl⟩)
    go_ret2
    exact ⟨rfl, rfl⟩
  by_cases h2 : r < 2048
  · have e1 : putVal r w.heap.size = .slice (some ⟨w.heap.size, 0, none⟩) 2 2 := by simp [putVal, U.putL, h1, h2]
    have e2 : putObj r = .cells #[.int .u8 (192 + r / 64), .int .u8 (128 + r % 64)] 5 := by simp [putObj, U.putL, h1, h2]
    rw [e1, e2]; clear e1 e2
    go_enter Tryd.func21, Tryd.ntmps21
    go_wp2_with (first | (go_at_call 39; refine (may_any _ _).mono ?_; rintro e w' ⟨rfl, rfl⟩) | (go_at_call 40; refine (follower_any _ _ (by omega) (by omega)).mono ?_; rintro e w' ⟨rfl, rfl⟩))
    go_ret2
    exact ⟨rfl, rfl⟩
  by_cases h3 : r < 65536
  · have e1 : putVal r w.heap.size = .slice (some ⟨w.heap.size, 0, none⟩) 3 3 := by simp [putVal, U.putL, h1, h2, h3]
    have e2 : putObj r = .cells #[.int .u8 (224 + r / 4096), .int .u8 (128 + r / 64 % 64), .int .u8 (128 + r % 64)] 5 := by simp [putObj, U.putL, h1, h2, h3]
    rw [e1, e2]; clear e1 e2
    go_enter Tryd.func21, Tryd.ntmps21
    go_wp2_with (first | (go_at_call 39; refine (may_any _ _).mono ?_; rintro e w' ⟨rfl, rfl⟩) | (go_at_call 40; refine (follower_any _ _ (by omega) (by omega)).mono ?_; rintro e w' ⟨rfl, rfl⟩))
    go_ret2
    exact ⟨rfl, rfl⟩
  · have e1 : putVal r w.heap.size = .slice (some ⟨w.heap.size, 0, none⟩) 4 4 := by simp [putVal, U.putL, h1, h2, h3]
    have e2 : putObj r = .cells #[.int .u8 (240 + r / 262144), .int .u8 (128 + r / 4096 % 64), .int .u8 (128 + r / 64 % 64), .int .u8 (128 + r % 64)] 5 := by simp [putObj, U.putL, h1, h2, h3]
    rw [e1, e2]; clear e1 e2
    go_enter Tryd.func21, Tryd.ntmps21
    go_wp2_with (first | (go_at_call 39; refine (may_any _ _).mono ?_; rintro e w' ⟨rfl, rfl⟩) | (go_at_call 40; refine (follower_any _ _ (by omega) (by omega)).mono ?_; rintro e w' ⟨rfl, rfl⟩))
    go_ret2
    exact ⟨rfl, rfl⟩

end Go.Proofs.YtejipaapbfjooaaDoor
