/- Parts of the proof of FlatMay that stand ahead of it (6: RgSame). -/
import Derived.Laws.StructEq
import Derived.Deep.QuietTactic
import Derived.BigQuiet
import Derived.Test.YtamefbpdnblbdaaGreatDoorFlatMayM4
namespace Go.Proofs.YtamefbpdnblbdaaGreatDoor
open Go.RowKit
set_option linter.unusedVariables false

theorem neqRg (a b c d : Int) (w : World) : (binOp .neq 142 (.agg #[.int .i64 a, .int .i64 b]) (.agg #[.int .i64 c, .int .i64 d])).run Tryz.prog w = .ok (.bool (!(a == c && b == d))) w := by
  have u3 := Tryz.underlying3
  have a3 := Tryz.isAgg3
  have z3 := Tryz.sizeOf3
  have hS : Tryz.prog.underlying 142 = some (.struct (Tryz.prog.fieldsOf 142)) := by kernel_rfl
  have hp : Tryz.prog.stoodInHeld 142 = false := by kernel_rfl
  rw [run_neq_struct, show (10000 : Nat) = 9999 + 1 from rfl, run_equalIn_agg w 9999 142 _ _ hS hp]
  simp only [Program.fieldsOf, Tryz.underlying142]
  go_simp
  by_cases h1 : a = c <;> by_cases h2 : b = d <;> simp [h1, h2]

def sameB (A B : List (Int × Int)) : Bool := decide (A = B)
theorem same_yes {A B : List (Int × Int)} (h : A = B) : sameB A B = true := decide_eq_true h
theorem same_no {A B : List (Int × Int)} (h : A ≠ B) : sameB A B = false := decide_eq_false h

theorem draws_below {w : World} {k : Nat} {B : Nat} : Below B w (w.drewN k) := ⟨rfl, rfl, rfl, Nat.le_refl _, fun _ _ => rfl⟩

theorem take_differ {A B : List (Int × Int)} {k : Nat} {p q : Int × Int} (ha : A.take (k + 1) = A.take k ++ [p]) (hb : B.take (k + 1) = B.take k ++ [q]) (h : p ≠ q) : A ≠ B := by
  intro e
  subst e
  rw [ha] at hb
  simp at hb
  exact h hb

set_option maxHeartbeats 1000000 in
theorem equal_any (a : Option Addr) (la ca : Nat) (A : List (Int × Int)) (b : Option Addr) (lb cb : Nat) (B : List (Int × Int)) (w : World) (ha : Rs w a la ca A) (hb : Rs w b lb cb B) :
    Calls Tryz.prog 113 #[.slice a la ca, .slice b lb cb] w fun e w' => e = .returned (.bool (sameB A B)) ∧ Below w.heap.size w w' := by
  have la' := ha.hlen
  have lb' := hb.hlen
  have ma := ha.hmax
  have mb := hb.hmax
  have ka := ha.hcap
  have kb := hb.hcap
  unfold maxLen at ma mb
  by_cases hl : la = lb
  · subst hl
    have g0 : ((la : Int) != (la : Int)) = false := by simp
    go_enter Tryz.func113, Tryz.ntmps113
    go_wp2
    go_loopw [13] (fun i wr => ∃ (k : Nat), k ≤ la ∧ i = .int .i64 k ∧ Hid (A.take k = B.take k) ∧ Hid (∃ d, wr = w.drewN d)) (fun i _ => la - (intOf i).toNat)
    case atStart => exact ⟨0, Nat.zero_le _, rfl, by show _ = _; simp, ⟨0, rfl⟩⟩
    case round =>
      obtain ⟨k, hk, rfl, ht, hw⟩ := hrel
      obtain ⟨d0, hw⟩ := hw
      have bw : Below w.heap.size w wr := by rw [hw]; exact draws_below
      have hw' := hideR hw
      clear hw
      by_cases hlt : k < la
      · obtain ⟨g, off, rfl, hr⟩ := (ha.later bw (Nat.le_refl _)).open (by omega)
        obtain ⟨g', off', rfl, hr'⟩ := (hb.later bw (Nat.le_refl _)).open (by omega)
        obtain ⟨lo, hi, -, htA, -, -, c0, c1⟩ := hr.at k hlt
        obtain ⟨lo', hi', -, htB, -, -, e0, e1⟩ := hr'.at k hlt
        have k0 : ∀ d, (wr.drewN d).cell? ⟨g, off + k * 2, none⟩ = some (.int .i64 lo) := fun d => by simpa using c0
        have k1 : ∀ d, (wr.drewN d).cell? ⟨g, off + k * 2 + 1, none⟩ = some (.int .i64 hi) := fun d => by simpa using c1
        have l0 : ∀ d, (wr.drewN d).cell? ⟨g', off' + k * 2, none⟩ = some (.int .i64 lo') := fun d => by simpa using e0
        have l1 : ∀ d, (wr.drewN d).cell? ⟨g', off' + k * 2 + 1, none⟩ = some (.int .i64 hi') := fun d => by simpa using e1
        have hA := hideR htA
        have hB := hideR htB
        clear htA htB hr hr' c0 c1 e0 e1
        by_cases hq : lo = lo' ∧ hi = hi'
        · obtain ⟨q1, q2⟩ := hq
          subst q1; subst q2
          have st : Hid (A.take (k + 1) = B.take (k + 1)) := by show _ = _; rw [unhideR hA, unhideR hB, ht.out]
          have hn : ∀ d, (binOp .neq 142 (.agg #[.int .i64 lo, .int .i64 hi]) (.agg #[.int .i64 lo, .int .i64 hi])).run Tryz.prog (wr.drewN d) = .ok (.bool false) (wr.drewN d) := fun d => by rw [neqRg]; simp
          go_wp2
          go_quiet (fail)
          go_wp2
          go_roundw
          case rel => exact ⟨k + 1, by omega, by go_num, st, ⟨d0 + nq, by rw [unhideR hw', World.drewN_drewN]⟩⟩
          case measure => simp [intOf]; omega
        · have fin := hideR (same_no (take_differ (unhideR hA) (unhideR hB) (fun e => hq (by simpa using e))))
          by_cases q1 : lo = lo'
          · subst q1
            have q2 : (hi == hi') = false := by rw [beq_eq_false_iff_ne]; intro e; exact hq ⟨rfl, e⟩
            clear hq
            go_wp2
            go_quiet (fail)
            go_wp2
            go_ret
            exact ⟨ret_bool (unhideR fin).symm, bw.trans draws_below⟩
          · have q2 : (lo == lo') = false := by rw [beq_eq_false_iff_ne]; exact q1
            clear hq q1
            go_wp2
            go_quiet (fail)
            go_wp2
            go_ret
            exact ⟨ret_bool (unhideR fin).symm, bw.trans draws_below⟩
      · have fin : Hid (sameB A B = true) := by
          refine same_yes ?_
          have := ht.out
          rw [List.take_of_length_le (by omega), List.take_of_length_le (by omega)] at this
          exact this
        go_wp2
        go_ret
        exact ⟨ret_bool (unhideR fin).symm, bw⟩
  · have g0 : ((la : Int) != (lb : Int)) = true := by rw [bne_iff_ne]; omega
    rw [same_no (fun e => hl (by rw [← la', ← lb', e]))]
    go_enter Tryz.func113, Tryz.ntmps113
    go_wp2
    go_ret
    exact ⟨rfl, Below.refl _ _⟩

set_option maxHeartbeats 400000 in
theorem rgSame_any (a : Option Addr) (la ca : Nat) (A : List (Int × Int)) (b : Option Addr) (lb cb : Nat) (B : List (Int × Int)) (w : World) (ha : Rs w a la ca A) (hb : Rs w b lb cb B) :
    Calls Tryz.prog 73 #[.slice a la ca, .slice b lb cb] w fun e w' => e = .returned (.bool (sameB A B)) ∧ Below w.heap.size w w' := by
  have hc := equal_any a la ca A b lb cb B w ha hb
  generalize sameB A B = r at *
  clear ha hb
  go_enter Tryz.func73, Tryz.ntmps73
  go_wp2_with (go_at_call 113; refine hc.mono ?_; rintro e w' ⟨rfl, hb⟩)
  go_ret
  exact ⟨rfl, hb⟩

end Go.Proofs.YtamefbpdnblbdaaGreatDoor

