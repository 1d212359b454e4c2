/- A slice of slices of ranges that came in, as the row's reading tells it. -/
import Derived.Test.YtejipaapbfjooaaDoorSqOpen
import Derived.Deep.Slices
namespace Go.Proofs.YtejipaapbfjooaaDoor
open Go.RowKit Go.Deep
set_option linter.unusedVariables false

theorem Rs.ofTrod1 {H : Type} {enc : TypeId × Value → H} {W : World} {base : Nat} {spare : Nat → Bool} {held : Bool} {fuel : Nat} {v : Value} {x : DataW H × List MemPlace}
    (h : DataW.trod enc Tryd.prog W base spare held fuel 22 [v] = some x) : ∃ s, ∃ a c, v = .slice a s.length c ∧ Rs W a s.length c s := by
  have hv : ∃ a len cap, v = .slice a len cap := by
    rcases DataW.trod_slice Tryd.underlying22 h with ⟨hc, -⟩ | ⟨a, len, cap, elems, rest, n, _, hc, -⟩
    · simp at hc; exact ⟨_, _, _, hc⟩
    · simp at hc; exact ⟨_, _, _, hc⟩
  obtain ⟨a, len, cap, rfl⟩ := hv
  obtain ⟨L, hL⟩ := Rs.ofTrod h
  have hl := hL.hlen
  subst hl
  exact ⟨L, a, cap, rfl, hL⟩

theorem Sq.ofTrod {H : Type} {enc : TypeId × Value → H} {W : World} {base : Nat} {spare : Nat → Bool} {held : Bool} {fuel : Nat} {a : Option Addr} {len cap : Nat} {x : DataW H × List MemPlace}
    (h : DataW.trod enc Tryd.prog W base spare held fuel 23 [.slice a len cap] = some x) : ∃ S, Sq W a len cap S := by
  rcases open_slice1 Tryd.underlying23 (by kernel_rfl) h with ⟨hc, -⟩ | ⟨ad, l, c, m, n, V, D, Pl, hc, -, hl, hm, hmm, -, hall⟩
  · simp at hc
    obtain ⟨rfl, rfl, rfl⟩ := hc
    exact ⟨[], rfl, Nat.le_refl _, Nat.zero_le _, fun i hi => by omega⟩
  · simp at hc
    obtain ⟨rfl, rfl, rfl⟩ := hc
    have hlm : len ≤ m := by rw [hmm]; split <;> omega
    obtain ⟨F, hF⟩ := choose_lt (α := List (Int × Int)) (p := fun i s => ∃ a c, V i = .slice a s.length c ∧ Rs W a s.length c s) (n := len) (fun i hi => Rs.ofTrod1 (hall i (by omega)).2)
    refine ⟨(List.range len).map F, by simp, hl, hm, fun i hi => ?_⟩
    obtain ⟨x', c', hV, hR⟩ := hF i hi
    have c0 := (hall i (by omega)).1
    obtain ⟨b, off, spot⟩ := ad
    have hspot : spot = none := by simpa [Addr.add] using World.cell?_spot (hall 0 (by omega)).1
    subst hspot
    rw [Addr.add_lit] at c0
    have eL : ((List.range len).map F).getD i [] = F i := by simp [List.getD, hi]
    rw [eL]
    exact ⟨b, off, x', c', rfl, by rw [c0, hV], hR⟩

end Go.Proofs.YtejipaapbfjooaaDoor
