/- The walk of the statement UtfBack. -/
import Derived.Test.YtdaadeohamkoiaaGreatDoorUtfJoin
import Derived.Test.YtdaadeohamkoiaaGreatDoorUtfOrder
import Derived.Test.YtdaadeohamkoiaaGreatDoorUtfUnitsLaw
import Derived.Deep.QuietTactic
import Derived.BigQuiet
namespace Go.Proofs.YtdaadeohamkoiaaGreatDoor
open Go.RowKit
set_option linter.unusedVariables false

theorem nx_cases {l : List Int} (hb : U.isBytes l) (at' : Int) :
    ((at' < 0 ∨ (l.length : Int) ≤ at') ∧ nx l at' = (-1, 0)) ∨ ((0 ≤ at' ∧ at' < l.length) ∧ nx l at' = (-1, 1)) ∨
    ∃ (n : Nat) (r : Int), at' = n ∧ n < l.length ∧ U.mayB r = true ∧ nx l at' = (r, (U.putL r).length) ∧ (l.drop n).take (U.putL r).length = U.putL r ∧ (U.putL r).length ≤ l.length - n := by
  unfold nx
  by_cases h : at' < 0 ∨ (l.length : Int) ≤ at'
  · rw [if_pos h]; exact .inl ⟨h, rfl⟩
  · rw [if_neg h]
    have hne : l.drop at'.toNat ≠ [] := by intro e; have := congrArg List.length e; rw [List.length_drop, List.length_nil] at this; omega
    rcases U.next_cases (U.isBytes_drop hb at'.toNat) with ⟨e, _⟩ | ⟨_, e⟩ | ⟨r, a, e, t, d⟩
    · exact absurd e hne
    · exact .inr (.inl ⟨by omega, e⟩)
    · rw [List.length_drop] at d
      exact .inr (.inr ⟨at'.toNat, r, by omega, by omega, a, e, t, d⟩)

theorem nx_put {r : Int} (h : U.mayB r = true) (s : List Int) : nx (U.putL r ++ s) 0 = (r, (U.putL r).length) := by
  have := (U.putL_len r).1
  unfold nx
  rw [if_neg (by rw [List.length_append]; omega)]
  exact U.next_put h s

/-- what is put, with whatever stands behind, read again out of a row of the call's own -/
theorem next_own {w : World} {base : Nat} {v : Value} {n : Nat} {r : Int} {s : List Int} (hr : U.mayB r = true) (hs : U.isBytes s) (ho : w.ownsRow base 5 1 v n ((U.putL r ++ s).map (Value.int .u8))) :
    ∃ a' cap', v = .slice a' n cap' ∧ Calls Tryz.prog 127 #[.slice a' n cap', .int .i64 0] w fun e w'' => e = .returned (.tuple #[.int .i64 r, .int .i64 (U.putL r).length]) ∧ Below w.heap.size w w'' := by
  have hb : U.isBytes (U.putL r ++ s) := fun z hz => by
    rcases List.mem_append.1 hz with h | h
    · exact U.putL_bytes hr z h
    · exact hs z h
  obtain ⟨a', cap', rfl, h⟩ := Bs.ofOwn hb ho
  have := next_any _ _ _ _ _ h 0
  rw [nx_put hr] at this
  exact ⟨a', cap', rfl, this⟩

theorem Bs.news {w : World} {ad : Addr} {len cap : Nat} {l : List Int} (h : Bs w (some ad) len cap l) : ∀ j u, (l.map (Value.int .u8))[j]? = some u → w.cell? (ad.add j) = some u := by
  intro j u hj
  have hlt : j < l.length := by
    have := (List.getElem?_eq_some_iff.1 hj).1
    simpa using this
  obtain ⟨b, off, e, hc⟩ := h.hcell j (by rw [← h.hlen]; exact hlt)
  injection e with e
  subst e
  rw [Addr.add_lit, hc]
  simp [hlt] at hj
  rw [← hj]
  simp [List.getD, hlt]

end Go.Proofs.YtdaadeohamkoiaaGreatDoor
