/- Contracts of the document's own answers of layer 5: letters, digits, names, HEXes, marks. -/
import Derived.Test.YtdaadeohamkoiaaGreatDoorTkAll
import Derived.Test.YtdaadeohamkoiaaGreatDoorUtfRef
import Derived.Test.YtdaadeohamkoiaaGreatDoorTkSt
import Derived.Deep.QuietTactic
import Derived.BigQuiet
namespace Go.Proofs.YtdaadeohamkoiaaGreatDoor.T
open Go.RowKit
set_option linter.unusedVariables false
set_option linter.unusedSimpArgs false

set_option maxHeartbeats 400000 in
theorem letter_any (z : Int) (h0 : 0 ≤ z) (h1 : z ≤ 255) (w : World) :
    Calls Tryz.prog 51 #[.int .u8 z] w fun e w' => e = .returned (.bool (isLet z)) ∧ w' = w := by
  by_cases c1 : 97 ≤ z
  · by_cases c2 : z ≤ 122
    · have e : isLet z = true := by simp [isLet, c1, c2]
      rw [e]
      go_enter Tryz.func51, Tryz.ntmps51
      go_wp2
      go_ret
      exact ⟨rfl, rfl⟩
    · have e : isLet z = false := by simp [isLet, c2]
      have c2' : 122 < z := by omega
      rw [e]
      go_enter Tryz.func51, Tryz.ntmps51
      go_wp2
      go_ret
      exact ⟨rfl, rfl⟩
  · have e : isLet z = false := by simp [isLet, c1]
    have c1' : z < 97 := by omega
    rw [e]
    go_enter Tryz.func51, Tryz.ntmps51
    go_wp2
    go_ret
    exact ⟨rfl, rfl⟩
set_option maxHeartbeats 400000 in
theorem digit_any (z : Int) (h0 : 0 ≤ z) (h1 : z ≤ 255) (w : World) :
    Calls Tryz.prog 88 #[.int .u8 z] w fun e w' => e = .returned (.bool (isDig z)) ∧ w' = w := by
  by_cases c1 : 48 ≤ z
  · by_cases c2 : z ≤ 57
    · have e : isDig z = true := by simp [isDig, c1, c2]
      rw [e]
      go_enter Tryz.func88, Tryz.ntmps88
      go_wp2
      go_ret
      exact ⟨rfl, rfl⟩
    · have e : isDig z = false := by simp [isDig, c2]
      have c2' : 57 < z := by omega
      rw [e]
      go_enter Tryz.func88, Tryz.ntmps88
      go_wp2
      go_ret
      exact ⟨rfl, rfl⟩
  · have e : isDig z = false := by simp [isDig, c1]
    have c1' : z < 48 := by omega
    rw [e]
    go_enter Tryz.func88, Tryz.ntmps88
    go_wp2
    go_ret
    exact ⟨rfl, rfl⟩
theorem dig_is {z : Int} : isDig z = true ↔ 48 ≤ z ∧ z ≤ 57 := by simp [isDig]
set_option maxHeartbeats 400000 in
theorem value_any (z : Int) (h0 : 0 ≤ z) (h1 : z ≤ 255) (w : World) :
    Calls Tryz.prog 138 #[.int .u8 z] w fun e w' => e = .returned (.int .i64 (valI z)) ∧ w' = w := by
  have C := hideR (digit_any z h0 h1 w)
  by_cases c1 : isDig z = true
  · have e : valI z = z - 48 := by unfold valI; rw [if_pos c1]
    have c2 := dig_is.1 c1
    rw [c1] at C
    rw [e]
    obtain ⟨c3, c4⟩ := c2
    clear c1 e
    go_enter Tryz.func138, Tryz.ntmps138
    go_wp2_with fail
    refine (unhideR C).mono ?_
    rintro e w1 ⟨rfl, hw1⟩
    obtain rfl : w = w1 := hw1.symm
    go_wp2_with fail
    go_ret
    exact ⟨rfl, rfl⟩
  · have c2 : ¬ (48 ≤ z ∧ z ≤ 57) := fun h => c1 (dig_is.2 h)
    have c1' : isDig z = false := by simpa using c1
    rw [c1'] at C
    by_cases c3 : 97 ≤ z
    · by_cases c4 : z ≤ 102
      · have e : valI z = z - 97 + 10 := by unfold valI; rw [if_neg c1, if_pos ⟨c3, c4⟩]; omega
        rw [e]
        clear c1 c1' c2 e
        go_enter Tryz.func138, Tryz.ntmps138
        go_wp2_with fail
        refine (unhideR C).mono ?_
        rintro e w1 ⟨rfl, hw1⟩
        obtain rfl : w = w1 := hw1.symm
        go_wp2_with fail
        go_ret
        exact ⟨rfl, rfl⟩
      · have e : valI z = -1 := by unfold valI; rw [if_neg c1, if_neg (by omega)]
        have c4' : 102 < z := by omega
        rw [e]
        clear c1 c1' c2 e
        go_enter Tryz.func138, Tryz.ntmps138
        go_wp2_with fail
        refine (unhideR C).mono ?_
        rintro e w1 ⟨rfl, hw1⟩
        obtain rfl : w = w1 := hw1.symm
        go_wp2_with fail
        go_ret
        exact ⟨rfl, rfl⟩
    · have e : valI z = -1 := by unfold valI; rw [if_neg c1, if_neg (by omega)]
      have c3' : z < 97 := by omega
      rw [e]
      clear c1 c1' c2 e
      go_enter Tryz.func138, Tryz.ntmps138
      go_wp2_with fail
      refine (unhideR C).mono ?_
      rintro e w1 ⟨rfl, hw1⟩
      obtain rfl : w = w1 := hw1.symm
      go_wp2_with fail
      go_ret
      exact ⟨rfl, rfl⟩

set_option maxRecDepth 20000 in
set_option maxHeartbeats 1000000 in
theorem word_any (s : ByteArray) (l : List Int) (h : St s l) (hs : l.length ≤ 1000000) (a : Nat) (ha : a ≤ l.length) (w : World) :
    Calls Tryz.prog 52 #[.string s, .int .i64 a] w fun e w' => e = .returned (.int .i64 (wordN (l.drop a))) ∧ w' = w := by
  have hsz := h.size
  have CL := hideR letter_any
  have CD := hideR digit_any
  by_cases h0 : a < l.length
  · have x0 := h.ix h0
    have z0 := h.byte a
    by_cases hle : isLet (l.getD a 0) = true
    · have hw : wordN (l.drop a) = tailN (l.drop (a + 1)) + 1 := by
        unfold wordN
        rw [drop_getD, Nat.add_zero, if_pos hle, List.drop_drop]
      have HW := hideR hw
      have C0 := hideR (unhideR CL _ z0.1 z0.2)
      rw [hle] at C0
      have HS := hideR h
      clear h hw hle
      generalize l.getD a 0 = y at *
      go_enter Tryz.func52, Tryz.ntmps52
      go_wp2_with fail
      refine (unhideR C0 _).mono ?_
      rintro e w1 ⟨rfl, hw1⟩
      obtain rfl : w = w1 := hw1.symm
      clear C0 hw1
      go_wp2_with fail
      clear x0
      go_loopw [6] (fun u wr => ∃ k : Nat, 1 ≤ k ∧ a + k ≤ l.length ∧ u = .int .i64 k ∧ Hid (wordN (l.drop a) = tailN (l.drop (a + k)) + k) ∧ wr = w) (fun u _ => l.length - (intOf u).toNat)
      case atStart => exact ⟨1, by omega, by omega, rfl, unhideR HW, by trivial⟩
      case round =>
        obtain ⟨k, hk1, hk2, rfl, hg, hww⟩ := hrel
        obtain rfl : wr = w := hww
        by_cases hlt : a + k < l.length
        · have x1 := (unhideR HS).ix hlt
          have z1 := (unhideR HS).byte (a + k)
          have ta := tail_at hlt
          rw [show ((a + k : Nat) : Int) = (a : Int) + (k : Int) by omega] at x1
          have C1 := hideR (unhideR CL _ z1.1 z1.2)
          have C2 := hideR (unhideR CD _ z1.1 z1.2)
          have HWk : ∀ b : Bool, isW (l.getD (a + k) 0) = b → (isLet (l.getD (a + k) 0) || isDig (l.getD (a + k) 0) || decide (l.getD (a + k) 0 = 95)) = b := fun b hb => by rw [← hb]; rfl
          cases hW : isW (l.getD (a + k) 0) with
          | true =>
            rw [hW] at ta
            simp only [if_true] at ta
            have hg2 : Hid (wordN (l.drop a) = tailN (l.drop (a + (k + 1))) + (k + 1)) := by
              show _ = _
              rw [hg.out, ta, show a + (k + 1) = a + k + 1 by omega]
              omega
            have hb := HWk true hW
            clear HW HS CL CD ta hg HWk hW
            generalize l.getD (a + k) 0 = z at *
            go_wp2_with fail
            refine (unhideR C1 _).mono ?_
            rintro e w1 ⟨rfl, hw1⟩
            obtain rfl : wr = w1 := hw1.symm
            clear C1 hw1
            go_wp2_with fail
            refine (unhideR C2 _).mono ?_
            rintro e w1 ⟨rfl, hw1⟩
            obtain rfl : wr = w1 := hw1.symm
            clear C2 hw1
            cases hL : isLet z with
            | true =>
              go_wp2_with fail
              go_roundw
              case rel => exact ⟨k + 1, by omega, by omega, by go_num, hg2, by trivial⟩
              case measure => simp [intOf]; omega
            | false =>
              cases hD : isDig z with
              | true =>
                go_wp2_with fail
                go_roundw
                case rel => exact ⟨k + 1, by omega, by omega, by go_num, hg2, by trivial⟩
                case measure => simp [intOf]; omega
              | false =>
                rw [hL, hD] at hb
                have hz : z = 95 := by simpa using hb
                subst hz
                go_wp2_with fail
                go_roundw
                case rel => exact ⟨k + 1, by omega, by omega, by go_num, hg2, by trivial⟩
                case measure => simp [intOf]; omega
          | false =>
            rw [hW] at ta
            simp only [Bool.false_eq_true, if_false] at ta
            have hg2 : Hid (wordN (l.drop a) = k) := by
              show _ = _
              rw [hg.out, ta]
              omega
            have hb := HWk false hW
            simp only [Bool.or_eq_false_iff, decide_eq_false_iff_not] at hb
            obtain ⟨⟨hL, hD⟩, hz⟩ := hb
            rw [hL] at C1
            rw [hD] at C2
            clear HW HS CL CD ta hg HWk hW hL hD
            generalize l.getD (a + k) 0 = z at *
            have ez : (z == 95) = false := by rw [beq_eq_false_iff_ne]; exact hz
            have ez2 : (z != 95) = true := by rw [bne, ez]; rfl
            go_wp2_with fail
            refine (unhideR C1 _).mono ?_
            rintro e w1 ⟨rfl, hw1⟩
            obtain rfl : wr = w1 := hw1.symm
            clear C1 hw1
            go_wp2_with fail
            refine (unhideR C2 _).mono ?_
            rintro e w1 ⟨rfl, hw1⟩
            obtain rfl : wr = w1 := hw1.symm
            clear C2 hw1
            go_wp2_with fail
            go_ret
            exact ⟨by rw [hg2.out]; rfl, rfl⟩
        · have hg2 : Hid (wordN (l.drop a) = k) := by
            show _ = _
            rw [hg.out, List.drop_of_length_le (show l.length ≤ a + k by omega)]
            simp [tailN]
          clear HW HS CL CD hg
          go_wp2_with fail
          go_ret
          exact ⟨by rw [hg2.out]; rfl, rfl⟩
    · have hle' : isLet (l.getD a 0) = false := by simpa using hle
      have hw : wordN (l.drop a) = 0 := by
        unfold wordN
        rw [drop_getD, Nat.add_zero, hle', if_neg (by simp)]
      rw [hw]
      have C0 := hideR (unhideR CL _ z0.1 z0.2)
      rw [hle'] at C0
      clear CL CD h hw hle hle'
      generalize l.getD a 0 = y at *
      go_enter Tryz.func52, Tryz.ntmps52
      go_wp2_with fail
      refine (unhideR C0 _).mono ?_
      rintro e w1 ⟨rfl, hw1⟩
      obtain rfl : w = w1 := hw1.symm
      go_wp2_with fail
      go_ret
      exact ⟨rfl, rfl⟩
  · obtain rfl : a = l.length := by omega
    have hw : wordN (l.drop l.length) = 0 := by
      rw [List.drop_of_length_le (Nat.le_refl _)]; rfl
    rw [hw]
    clear CL CD
    go_enter Tryz.func52, Tryz.ntmps52
    go_wp2_with fail
    go_ret
    exact ⟨rfl, rfl⟩

end Go.Proofs.YtdaadeohamkoiaaGreatDoor.T
