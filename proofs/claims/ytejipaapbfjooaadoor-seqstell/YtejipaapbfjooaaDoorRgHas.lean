/- Contracts of ranges.Has, and of what it calls. -/
import Derived.Test.YtejipaapbfjooaaDoorRgBase
namespace Go.Proofs.YtejipaapbfjooaaDoor
open Go.RowKit
set_option linter.unusedVariables false

def inB (lo hi n : Int) : Bool := decide (lo ≤ n) && decide (n ≤ hi)
theorem inB_yes {lo hi n : Int} (h1 : lo ≤ n) (h2 : n ≤ hi) : inB lo hi n = true := by simp [inB, h1, h2]
theorem inB_no {lo hi n : Int} (h : ¬ (lo ≤ n ∧ n ≤ hi)) : inB lo hi n = false := by
  unfold inB; rw [Bool.eq_false_iff]; simp only [ne_eq, Bool.and_eq_true, decide_eq_true_eq]; exact h

/-- the block in which a range lies that a call has been handed -/
abbrev boxRg (lo hi : Int) : Obj := .cells #[.int .i64 lo, .int .i64 hi] 41

set_option maxHeartbeats 400000 in
theorem isOf_any (n lo hi : Int) (w : World) :
    Calls Tryd.prog 38 #[.int .i64 n, .agg #[.int .i64 lo, .int .i64 hi]] w fun e w' => e = .returned (.bool (inB lo hi n)) ∧ w' = w.alloc (boxRg lo hi) := by
  by_cases h1 : lo ≤ n
  · by_cases h2 : n ≤ hi
    · rw [inB_yes h1 h2]
      go_enter Tryd.func38, Tryd.ntmps38
      go_wp2
      go_ret
      exact ⟨rfl, rfl⟩
    · rw [inB_no (by omega)]
      have h2' : hi < n := by omega
      go_enter Tryd.func38, Tryd.ntmps38
      go_wp2
      go_ret
      exact ⟨rfl, rfl⟩
  · rw [inB_no (by omega)]
    have h1' : n < lo := by omega
    go_enter Tryd.func38, Tryd.ntmps38
    go_wp2
    go_ret
    exact ⟨rfl, rfl⟩

set_option maxHeartbeats 1000000 in
theorem index_any (a : Option Addr) (len cap : Nat) (l : List (Int × Int)) (n : Int) (w : World) (h : Rs w a len cap l) :
    Calls Tryd.prog 57 #[.slice a len cap, .func (.func 38) #[.int .i64 n] #[]] w fun e w' => (∃ r : Int, e = .returned (.int .i64 r) ∧ decide (0 ≤ r) = G.hasB l n) ∧ Below w.heap.size w w' := by
  have hl := h.hlen
  have hmax := h.hmax
  have hcap := h.hcap
  unfold maxLen at hmax
  go_enter Tryd.func57, Tryd.ntmps57
  go_wp2
  go_loopw [8] (fun i wr => ∃ (k : Nat), k ≤ len ∧ i = .int .i64 k ∧ Hid (G.hasB (l.drop k) n = G.hasB l n) ∧ Below w.heap.size w wr) (fun i _ => len - (intOf i).toNat)
  case atStart => exact ⟨0, Nat.zero_le _, rfl, by show G.hasB l n = G.hasB l n; rfl, Below.refl _ _⟩
  case round =>
    obtain ⟨k, hk, rfl, hn, hb⟩ := hrel
    by_cases hlt : k < len
    · obtain ⟨b, off, rfl, hr⟩ := (h.later hb (Nat.le_refl _)).open (by omega)
      obtain ⟨lo, hi, hd, -, f1, f2, c0, c1⟩ := hr.at k hlt
      have hd' : Hid (l.drop k = (lo, hi) :: l.drop (k + 1)) := hd
      clear hd hr f1 f2
      cases hin : inB lo hi n with
      | true =>
        have fin : Hid (G.hasB l n = true) := by
          show G.hasB l n = true
          rw [← hn.out, hd'.out, G.hasB_cons]
          unfold inB at hin
          rw [hin]; rfl
        have hin' : Hid (inB lo hi n = true) := hin
        clear hin
        go_wp2_with (go_at_call 38; refine (isOf_any _ _ _ _).mono ?_; rw [hin'.out]; rintro e w' ⟨rfl, rfl⟩)
        go_ret
        refine ⟨⟨k, rfl, ?_⟩, hb.trans ((Below.new1 _).mono hb.size)⟩
        rw [fin.out]; simp
      | false =>
        have fin : Hid (G.hasB (l.drop (k + 1)) n = G.hasB l n) := by
          show _ = _
          rw [← hn.out, hd'.out, G.hasB_cons]
          unfold inB at hin
          rw [hin]; rfl
        have hin' : Hid (inB lo hi n = false) := hin
        clear hin
        go_wp2_with (go_at_call 38; refine (isOf_any _ _ _ _).mono ?_; rw [hin'.out]; rintro e w' ⟨rfl, rfl⟩)
        go_roundw
        case rel => exact ⟨k + 1, by omega, by go_num, fin, hb.trans ((Below.new1 _).mono hb.size)⟩
        case measure => simp [intOf]; omega
    · have fin : Hid (G.hasB l n = false) := by
        show _ = _
        rw [← hn.out, List.drop_of_length_le (by omega)]; rfl
      go_wp2
      go_ret
      refine ⟨⟨-1, rfl, ?_⟩, hb⟩
      rw [fin.out]; rfl

set_option maxHeartbeats 400000 in
theorem contains_any (a : Option Addr) (len cap : Nat) (l : List (Int × Int)) (n : Int) (w : World) (h : Rs w a len cap l) :
    Calls Tryd.prog 37 #[.slice a len cap, .func (.func 38) #[.int .i64 n] #[]] w fun e w' => e = .returned (.bool (G.hasB l n)) ∧ Below w.heap.size w w' := by
  have hc := index_any a len cap l n w h
  generalize G.hasB l n = r at *
  clear h
  go_enter Tryd.func37, Tryd.ntmps37
  go_wp2_with (go_at_call 57; refine hc.mono ?_; rintro e w' ⟨⟨x, rfl, hx⟩, hb⟩)
  go_ret
  exact ⟨rfl, hb⟩

set_option maxHeartbeats 400000 in
theorem has_any (a : Option Addr) (len cap : Nat) (l : List (Int × Int)) (n : Int) (w : World) (h : Rs w a len cap l) :
    Calls Tryd.prog 20 #[.slice a len cap, .int .i64 n] w fun e w' => e = .returned (.bool (G.hasB l n)) ∧ Below w.heap.size w w' := by
  have hc := contains_any a len cap l n w h
  have hmf : ∀ (fn : Fn) (first cap : Array Value) (w : World), (Instr.makeFunc fn first cap).run Tryd.prog w = .ok (.func fn first cap) w := fun _ _ _ _ => rfl
  generalize G.hasB l n = r at *
  clear h
  go_enter Tryd.func20, Tryd.ntmps20
  go_wp2_with (go_at_call 37; refine hc.mono ?_; rintro e w' ⟨rfl, hb⟩)
  go_ret
  exact ⟨rfl, hb⟩

end Go.Proofs.YtejipaapbfjooaaDoor
