/- Contracts of the document's own answers of layer 4: exegeteref04.Begin, Line, First, Col, Ends, Ints. -/
import Derived.Test.YtjjfeeclpidblaaLnCol
import Derived.Test.YtjjfeeclpidblaaLnEnds
import Derived.Test.YtjjfeeclpidblaaUtfRef
import Derived.Deep.QuietTactic
import Derived.BigQuiet
namespace Go.Proofs.Ytjjfeeclpidblaa.Ln
open Go.RowKit
set_option linter.unusedVariables false
set_option linter.unusedSimpArgs false

theorem place_in {len : Nat} {i : Int} (hp : plB len i = true) : ∃ n : Nat, i = (n : Int) ∧ n ≤ len := by
  unfold plB at hp
  simp only [Bool.and_eq_true, decide_eq_true_eq] at hp
  obtain ⟨n, rfl⟩ := Int.eq_ofNat_of_zero_le hp.1
  exact ⟨n, rfl, by omega⟩
theorem begin_here {l : List Int} {p : Nat} (h : l.getD p 0 = 10) : beginN l (p + 1) = p + 1 := by simp only [beginN]; rw [if_pos h]
theorem begin_back {l : List Int} {p : Nat} (h : l.getD p 0 ≠ 10) : beginN l (p + 1) = beginN l p := by simp only [beginN]; rw [if_neg h]

set_option maxRecDepth 20000 in
set_option maxHeartbeats 1000000 in
theorem refBegin_any (a : Option Addr) (len cap : Nat) (l : List Int) (w : World) (h : Bs w a len cap l) (i : Int) :
    Calls Try.prog 15 #[.slice a len cap, .int .i64 i] w fun e w' => e = .returned (.int .i64 (beginI l i)) ∧ Below w.heap.size w w' := by
  have hl := h.hlen
  have hmax := h.hmax
  have hcap := h.hcap
  unfold maxLen at hmax
  have C1 := hideR (fun W => refPlace_any a len cap i W)
  by_cases hp : plB len i = true
  · obtain ⟨n, rfl, hn⟩ := place_in hp
    have fin : beginI l (n : Int) = (beginN l n : Int) := by unfold beginI; rw [hl, if_pos hp]; rfl
    rw [fin]
    rw [hp] at C1
    clear fin hp
    have HB := hideR h
    clear h
    go_enter Try.func15, Try.ntmps15
    go_wp2_with fail
    refine (unhideR C1 _).mono ?_
    rintro e w1 ⟨rfl, hw1⟩
    obtain rfl : w = w1 := hw1.symm
    clear C1 hw1
    go_wp2_with fail
    go_loopw [1] (fun j wr => ∃ k : Nat, k ≤ n ∧ j = .int .i64 k ∧ Hid (beginN l k = beginN l n) ∧ wr = w) (fun j _ => (intOf j).toNat)
    case atStart => exact ⟨n, Nat.le_refl _, rfl, rfl, rfl⟩
    case round =>
      obtain ⟨k, hk, rfl, hf, hw⟩ := hrel
      obtain rfl : wr = w := hw
      by_cases h0 : k = 0
      · subst h0
        have hf2 : Hid (beginN l n = 0) := by
          show _ = _
          rw [← hf.out]; rfl
        clear HB hf
        go_wp2_with fail
        go_ret
        exact ⟨by rw [hf2.out]; rfl, Below.refl _ _⟩
      · obtain ⟨p, rfl⟩ : ∃ p, k = p + 1 := ⟨k - 1, by omega⟩
        obtain ⟨b, off, rfl, hb⟩ := (unhideR HB).open (by omega)
        obtain ⟨z, hz, z0, z1, cz⟩ := bat hb p (by omega)
        by_cases h10 : z = 10
        · subst h10
          have hf2 : Hid (beginN l n = p + 1) := by
            show _ = _
            rw [← hf.out, begin_here hz]
          clear HB hf hb hz h0
          go_wp2_with fail
          go_ret
          exact ⟨by rw [hf2.out]; go_num, Below.refl _ _⟩
        · have hf2 : Hid (beginN l p = beginN l n) := by
            show _ = _
            rw [← hf.out, begin_back (by rw [hz]; exact h10)]
          have e1 : (z == 10) = false := by rw [beq_eq_false_iff_ne]; exact h10
          have e2 : (z != 10) = true := by rw [bne, e1]; rfl
          clear HB hf hb hz h0
          go_wp2_with fail
          go_roundw
          case rel => exact ⟨p, by omega, by go_num, hf2, by trivial⟩
          case measure => simp [intOf]
  · have hp' : plB len i = false := by simpa using hp
    have fin : beginI l i = -1 := by unfold beginI; rw [hl, if_neg hp]
    rw [fin]
    rw [hp'] at C1
    clear hp hp' fin h
    go_enter Try.func15, Try.ntmps15
    go_wp2_with fail
    refine (unhideR C1 _).mono ?_
    rintro e w1 ⟨rfl, hw1⟩
    obtain rfl : w = w1 := hw1.symm
    go_wp2_with fail
    go_ret
    exact ⟨rfl, Below.refl _ _⟩

set_option maxRecDepth 20000 in
set_option maxHeartbeats 1000000 in
theorem refLine_any (a : Option Addr) (len cap : Nat) (l : List Int) (w : World) (h : Bs w a len cap l) (i : Int) :
    Calls Try.prog 17 #[.slice a len cap, .int .i64 i] w fun e w' => e = .returned (.int .i64 (lineI l i)) ∧ Below w.heap.size w w' := by
  have hl := h.hlen
  have hmax := h.hmax
  have hcap := h.hcap
  unfold maxLen at hmax
  have C1 := hideR (fun W => refPlace_any a len cap i W)
  by_cases hp : plB len i = true
  · obtain ⟨n, rfl, hn⟩ := place_in hp
    have fin : lineI l (n : Int) = (lineN l n : Int) := by unfold lineI; rw [hl, if_pos hp]; rfl
    rw [fin]
    rw [hp] at C1
    clear fin hp
    have HB := hideR h
    clear h
    go_enter Try.func17, Try.ntmps17
    go_wp2_with fail
    refine (unhideR C1 _).mono ?_
    rintro e w1 ⟨rfl, hw1⟩
    obtain rfl : w = w1 := hw1.symm
    clear C1 hw1
    go_wp2_with fail
    go_loopw [6, 7] (fun u j wr => ∃ c k : Nat, k ≤ n ∧ c ≤ k ∧ u = .int .i64 c ∧ j = .int .i64 k ∧ Hid (c = lineN l k) ∧ wr = w) (fun _ j _ => n - (intOf j).toNat)
    case atStart => exact ⟨0, 0, Nat.zero_le _, Nat.le_refl _, rfl, rfl, (line_zero l).symm, rfl⟩
    case round =>
      obtain ⟨c, k, hk, hc, rfl, rfl, hf, hw⟩ := hrel
      obtain rfl : wr = w := hw
      by_cases hlt : k < n
      · obtain ⟨b, off, rfl, hb⟩ := (unhideR HB).open (by omega)
        obtain ⟨z, hz, z0, z1, cz⟩ := bat hb k (by omega)
        have st := line_step l k (by omega)
        by_cases h10 : z = 10
        · subst h10
          rw [hz, if_pos rfl] at st
          have hf2 : Hid (c + 1 = lineN l (k + 1)) := by
            show _ = _
            rw [st, ← hf.out]
          clear HB hf hb hz st
          go_wp2_with fail
          go_roundw
          case rel => exact ⟨c + 1, k + 1, by omega, by omega, by go_num, by go_num, hf2, by trivial⟩
          case measure => simp [intOf]; omega
        · rw [hz, if_neg h10] at st
          have hf2 : Hid (c = lineN l (k + 1)) := by
            show _ = _
            rw [st, ← hf.out]; rfl
          have e1 : (z == 10) = false := by rw [beq_eq_false_iff_ne]; exact h10
          clear HB hf hb hz st
          go_wp2_with fail
          go_roundw
          case rel => exact ⟨c, k + 1, by omega, by omega, rfl, by go_num, hf2, by trivial⟩
          case measure => simp [intOf]; omega
      · have e : k = n := by omega
        subst e
        have hf2 : Hid (lineN l k = c) := hf.out.symm
        clear HB hf
        go_wp2_with fail
        go_ret
        exact ⟨by rw [hf2.out]; rfl, Below.refl _ _⟩
  · have hp' : plB len i = false := by simpa using hp
    have fin : lineI l i = -1 := by unfold lineI; rw [hl, if_neg hp]
    rw [fin]
    rw [hp'] at C1
    clear hp hp' fin h
    go_enter Try.func17, Try.ntmps17
    go_wp2_with fail
    refine (unhideR C1 _).mono ?_
    rintro e w1 ⟨rfl, hw1⟩
    obtain rfl : w = w1 := hw1.symm
    go_wp2_with fail
    go_ret
    exact ⟨rfl, Below.refl _ _⟩

set_option maxRecDepth 20000 in
set_option maxHeartbeats 1000000 in
theorem refFirst_any (a : Option Addr) (len cap : Nat) (l : List Int) (w : World) (h : Bs w a len cap l) (i : Int) :
    Calls Try.prog 19 #[.slice a len cap, .int .i64 i] w fun e w' => e = .returned (.int .i64 (firstI l i)) ∧ Below w.heap.size w w' := by
  have hl := h.hlen
  have hmax := h.hmax
  have hcap := h.hcap
  unfold maxLen at hmax
  have C1 := hideR (fun W => refPlace_any a len cap i W)
  by_cases hp : plB len i = true
  · obtain ⟨n, rfl, hn⟩ := place_in hp
    have fin : firstI l (n : Int) = (firstN l n : Int) := by unfold firstI; rw [hl, if_pos hp]; rfl
    rw [fin]
    rw [hp] at C1
    clear fin hp
    have HB := hideR h
    clear h
    go_enter Try.func19, Try.ntmps19
    go_wp2_with fail
    refine (unhideR C1 _).mono ?_
    rintro e w1 ⟨rfl, hw1⟩
    obtain rfl : w = w1 := hw1.symm
    clear C1 hw1
    go_wp2_with fail
    go_loopw [1] (fun j wr => ∃ k : Nat, k ≤ len ∧ j = .int .i64 k ∧ Hid (firstN l k = firstN l n) ∧ wr = w) (fun j _ => len - (intOf j).toNat)
    case atStart => exact ⟨n, hn, rfl, rfl, rfl⟩
    case round =>
      obtain ⟨k, hk, rfl, hf, hw⟩ := hrel
      obtain rfl : wr = w := hw
      by_cases hlt : k < len
      · obtain ⟨b, off, rfl, hb⟩ := (unhideR HB).open (by omega)
        obtain ⟨z, hz, z0, z1, cz⟩ := bat hb k hlt
        by_cases b1 : z = 32
        · subst b1
          have hf2 : Hid (firstN l (k + 1) = firstN l n) := (first_yes (k := k) (by omega) (by rw [hz]; exact .inl rfl)).symm.trans hf.out
          clear hb hz hf HB
          go_wp2_with fail
          go_roundw
          case rel => exact ⟨k + 1, by omega, by go_num, hf2, by trivial⟩
          case measure => simp [intOf]; omega
        · have e1 : (z == 32) = false := by rw [beq_eq_false_iff_ne]; exact b1
          by_cases b2 : z = 9
          · subst b2
            have hf2 : Hid (firstN l (k + 1) = firstN l n) := (first_yes (k := k) (by omega) (by rw [hz]; exact .inr (.inl rfl))).symm.trans hf.out
            clear hb hz hf HB
            go_wp2_with fail
            go_roundw
            case rel => exact ⟨k + 1, by omega, by go_num, hf2, by trivial⟩
            case measure => simp [intOf]; omega
          · have e2 : (z == 9) = false := by rw [beq_eq_false_iff_ne]; exact b2
            by_cases b3 : z = 13
            · subst b3
              have hf2 : Hid (firstN l (k + 1) = firstN l n) := (first_yes (k := k) (by omega) (by rw [hz]; exact .inr (.inr rfl))).symm.trans hf.out
              clear hb hz hf HB
              go_wp2_with fail
              go_roundw
              case rel => exact ⟨k + 1, by omega, by go_num, hf2, by trivial⟩
              case measure => simp [intOf]; omega
            · have e3 : (z == 13) = false := by rw [beq_eq_false_iff_ne]; exact b3
              have hf2 : Hid (firstN l n = k) := by
                show _ = _
                rw [← hf.out, first_no (by omega) (by rw [hz]; omega)]
              clear hb hz hf HB
              go_wp2_with fail
              go_ret
              exact ⟨by rw [hf2.out]; rfl, Below.refl _ _⟩
      · have hf2 : Hid (firstN l n = k) := by
          show _ = _
          rw [← hf.out, first_end (by omega)]
        clear HB hf
        go_wp2_with fail
        go_ret
        exact ⟨by rw [hf2.out]; rfl, Below.refl _ _⟩
  · have hp' : plB len i = false := by simpa using hp
    have fin : firstI l i = -1 := by unfold firstI; rw [hl, if_neg hp]
    rw [fin]
    rw [hp'] at C1
    clear hp hp' fin h
    go_enter Try.func19, Try.ntmps19
    go_wp2_with fail
    refine (unhideR C1 _).mono ?_
    rintro e w1 ⟨rfl, hw1⟩
    obtain rfl : w = w1 := hw1.symm
    go_wp2_with fail
    go_ret
    exact ⟨rfl, Below.refl _ _⟩

end Go.Proofs.Ytjjfeeclpidblaa.Ln
