/- Contracts of the small functions of package lines, and of the document's own answers of layer 4. -/
import Derived.Test.YtjjfeeclpidblaaLnBase
import Derived.Test.YtjjfeeclpidblaaLnFeedsMath
namespace Go.Proofs.Ytjjfeeclpidblaa.Ln
open Go.RowKit
set_option linter.unusedVariables false
set_option linter.unusedSimpArgs false

/-- is it a place? -/
def plB (len : Nat) (i : Int) : Bool := decide (0 ≤ i) && decide (i ≤ len)
theorem pl_yes {len : Nat} {i : Int} (h0 : 0 ≤ i) (h1 : i ≤ len) : plB len i = true := by simp [plB, h0, h1]
theorem pl_no {len : Nat} {i : Int} (h : i < 0 ∨ (len : Int) < i) : plB len i = false := by
  unfold plB; rw [Bool.eq_false_iff]; simp only [ne_eq, Bool.and_eq_true, decide_eq_true_eq]; omega

set_option maxHeartbeats 400000 in
theorem isPlace_any (a : Option Addr) (len cap : Nat) (i : Int) (w : World) :
    Calls Try.prog 24 #[.slice a len cap, .int .i64 i] w fun e w' => e = .returned (.bool (plB len i)) ∧ w' = w := by
  by_cases h0 : 0 ≤ i
  · by_cases h1 : i ≤ len
    · rw [pl_yes h0 h1]
      go_enter Try.func24, Try.ntmps24
      go_wp2
      go_ret
      exact ⟨rfl, rfl⟩
    · rw [pl_no (by omega)]
      have h1' : (len : Int) < i := by omega
      go_enter Try.func24, Try.ntmps24
      go_wp2
      go_ret
      exact ⟨rfl, rfl⟩
  · rw [pl_no (by omega)]
    have h0' : i < 0 := by omega
    go_enter Try.func24, Try.ntmps24
    go_wp2
    go_ret
    exact ⟨rfl, rfl⟩

set_option maxHeartbeats 400000 in
theorem refPlace_any (a : Option Addr) (len cap : Nat) (i : Int) (w : World) :
    Calls Try.prog 25 #[.slice a len cap, .int .i64 i] w fun e w' => e = .returned (.bool (plB len i)) ∧ w' = w := by
  by_cases h0 : 0 ≤ i
  · by_cases h1 : i ≤ len
    · rw [pl_yes h0 h1]
      go_enter Try.func25, Try.ntmps25
      go_wp2
      go_ret
      exact ⟨rfl, rfl⟩
    · rw [pl_no (by omega)]
      have h1' : (len : Int) < i := by omega
      go_enter Try.func25, Try.ntmps25
      go_wp2
      go_ret
      exact ⟨rfl, rfl⟩
  · rw [pl_no (by omega)]
    have h0' : i < 0 := by omega
    go_enter Try.func25, Try.ntmps25
    go_wp2
    go_ret
    exact ⟨rfl, rfl⟩

/-- is it a blank? -/
def blB (z : Int) : Bool := decide (z = 32) || decide (z = 9) || decide (z = 13)
theorem bl_yes {z : Int} (h : z = 32 ∨ z = 9 ∨ z = 13) : blB z = true := by rcases h with rfl | rfl | rfl <;> rfl
theorem bl_no {z : Int} (h : ¬ (z = 32 ∨ z = 9 ∨ z = 13)) : blB z = false := by
  unfold blB; rw [Bool.eq_false_iff]; simp only [ne_eq, Bool.or_eq_true, decide_eq_true_eq]; omega

set_option maxHeartbeats 400000 in
theorem isBlank_any (z : Int) (hz : 0 ≤ z) (hz2 : z ≤ 255) (w : World) :
    Calls Try.prog 26 #[.int .u8 z] w fun e w' => e = .returned (.bool (blB z)) ∧ w' = w := by
  by_cases h1 : z = 32
  · subst h1
    go_enter Try.func26, Try.ntmps26
    go_wp2
    go_ret
    exact ⟨rfl, rfl⟩
  · by_cases h2 : z = 9
    · subst h2
      go_enter Try.func26, Try.ntmps26
      go_wp2
      go_ret
      exact ⟨rfl, rfl⟩
    · by_cases h3 : z = 13
      · subst h3
        go_enter Try.func26, Try.ntmps26
        go_wp2
        go_ret
        exact ⟨rfl, rfl⟩
      · rw [bl_no (by omega)]
        have e1 : (z == 32) = false := by rw [beq_eq_false_iff_ne]; exact h1
        have e2 : (z == 9) = false := by rw [beq_eq_false_iff_ne]; exact h2
        have e3 : (z == 13) = false := by rw [beq_eq_false_iff_ne]; exact h3
        go_enter Try.func26, Try.ntmps26
        go_wp2
        go_ret
        exact ⟨rfl, rfl⟩

set_option maxHeartbeats 400000 in
theorem nextCol_any (c tab : Nat) (r : Int) (hc : c ≤ 1000000) (h1 : 1 ≤ tab) (h2 : tab ≤ 16) (w : World) :
    Calls Try.prog 27 #[.int .i64 c, .int .i64 r, .int .i64 tab] w fun e w' => e = .returned (.int .i64 (next1 tab c r)) ∧ w' = w := by
  by_cases h : r = 9
  · subst h
    obtain ⟨m, hm⟩ : ∃ m, c % tab = m := ⟨_, rfl⟩
    have et : Int.tmod (c : Int) (tab : Int) = (m : Int) := by
      rw [Int.tmod_eq_emod_of_nonneg (by omega), ← hm]; rfl
    have hm1 : m < tab := by rw [← hm]; exact Nat.mod_lt _ (by omega)
    have hm2 : m ≤ c := by rw [← hm]; exact Nat.mod_le _ _
    have e : (next1 tab c 9 : Int) = (c : Int) - m + tab := by
      unfold next1
      rw [if_pos rfl]
      have d := Nat.div_add_mod c tab
      rw [hm] at d
      rw [Nat.add_mul, Nat.one_mul, Nat.mul_comm]
      omega
    rw [e]
    clear e hm
    go_enter Try.func27, Try.ntmps27
    go_wp2
    go_ret
    exact ⟨rfl, rfl⟩
  · have e : (next1 tab c r : Int) = (c : Int) + 1 := by unfold next1; rw [if_neg h]; omega
    rw [e]
    have e1 : (r == 9) = false := by rw [beq_eq_false_iff_ne]; exact h
    go_enter Try.func27, Try.ntmps27
    go_wp2
    go_ret
    exact ⟨rfl, rfl⟩

end Go.Proofs.Ytjjfeeclpidblaa.Ln
