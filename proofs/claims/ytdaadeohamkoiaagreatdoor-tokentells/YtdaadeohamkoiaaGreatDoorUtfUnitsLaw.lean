/- The walk of the statement UtfUnits. -/
import Derived.Test.YtdaadeohamkoiaaGreatDoorUtfAwake
import Derived.Deep.RegionWith
import Derived.Deep.RegionHeld3
namespace Go.Proofs.YtdaadeohamkoiaaGreatDoor
open Go.RowKit
set_option linter.unusedVariables false

theorem Below.next {w w1 w2 : World} (h : Below w.heap.size w w1) (k : Below w1.heap.size w1 w2) : Below w.heap.size w w2 := h.trans (k.mono h.size)

theorem Bs.front {w : World} {a : Option Addr} {len cap : Nat} {l : List Int} (h : Bs w a len cap l) (k : Nat) (hk : k ≤ len) : Bs w a k cap (l.take k) := by
  have hl := h.hlen
  have hc := h.hcap
  refine ⟨by rw [List.length_take]; omega, by omega, h.hmax, U.isBytes_take h.hbytes k, fun i hi => ?_⟩
  obtain ⟨b, off, e, hc⟩ := h.hcell i (by omega)
  exact ⟨b, off, e, by rw [hc]; simp [hi]⟩

theorem Bb.toBs {w : World} {b off len cap : Nat} {l : List Int} (h : Bb w b off len cap l) : Bs w (some ⟨b, off, none⟩) len cap l :=
  ⟨h.hlen, h.hcap, h.hmax, h.hbytes, fun i hi => ⟨b, off, rfl, h.hcell i hi⟩⟩

theorem wrapI (n : Int) (h : -9223372036854775808 ≤ n ∧ n ≤ 9223372036854775807) : IntKind.i64.wrap n = n := by rw [IntKind.wrap_i64]; omega

theorem Bs.none {w : World} {a : Option Addr} {cap : Nat} (hc : cap ≤ maxLen) : Bs w a 0 cap [] := ⟨rfl, Nat.zero_le _, hc, fun z hz => by simp at hz, fun i hi => by omega⟩

end Go.Proofs.YtdaadeohamkoiaaGreatDoor
