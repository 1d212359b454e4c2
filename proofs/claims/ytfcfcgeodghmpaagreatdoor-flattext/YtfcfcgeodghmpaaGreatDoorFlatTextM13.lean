/- Parts of the proof of FlatText that stand ahead of it (13: TkOpen). -/
import Derived.ProofKit
import Derived.OpenShut
import Derived.Test.YtfcfcgeodghmpaaGreatDoorFlatTextM8
namespace Go.Proofs.YtfcfcgeodghmpaaGreatDoor.T
open Go.ChangeShapes Go.WideShapes Go.RowKit
set_option linter.unusedVariables false

theorem bs_trod {H : Type} {enc : TypeId × Value → H} {W : World} {base : Nat} {held : Bool} {fuel : Nat} {a : Option Addr} {len cap : Nat} {x : DataW H × List MemPlace}
    (h : DataW.trod enc Tryz.prog W base (fun _ => true) held fuel 54 [.slice a len cap] = some x) : ∃ l, Bs W a len cap l ∧ (a = Option.none → cap = 0) := by
  rcases open_ints Tryz.underlying54 Tryz.underlying5 (by kernel_rfl) h with ⟨hcs, _⟩ | ⟨y, l, c, zs, hcs, _, hl, hm, hz, _, hcell, hwz⟩
  · simp at hcs
    obtain ⟨rfl, rfl, rfl⟩ := hcs
    exact ⟨_, Bs.ofRow (zs := []) (.inl ⟨rfl, rfl, rfl, rfl⟩), fun _ => rfl⟩
  · simp at hcs
    obtain ⟨rfl, rfl, rfl⟩ := hcs
    exact ⟨_, Bs.ofRow (zs := zs) (.inr ⟨_, rfl, hl, hm, by simpa using hz, hcell, hwz⟩), fun e => by cases e⟩
end Go.Proofs.YtfcfcgeodghmpaaGreatDoor.T

