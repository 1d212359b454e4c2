/- Parts of the proof of FlatText that stand ahead of it (9: TkFmt). -/
import Derived.Laws.BitsLemmas
import Derived.Laws.Bits64
import Derived.Test.YtfcfcgeodghmpaaGreatDoorFlatTextM7
import Derived.Test.YtfcfcgeodghmpaaGreatDoorFlatTextM8
namespace Go.Proofs.YtfcfcgeodghmpaaGreatDoor.T
open Go.RowKit
set_option linter.unusedVariables false
set_option linter.unusedSimpArgs false

def Db (w : World) : Prop := w.cell? ⟨7, 15, none⟩ = some (.int .u8 4)
theorem Db.later {w w' : World} (h : Db w) (b : Below w.heap.size w w') : Db w' := by
  unfold Db at *
  rw [b.cell (block_lt' h)]
  exact h
/-! ### formatBits -/
def Tl (w : World) (g : Nat) (m : Nat) (acc : List Int) : Prop := ∃ cs : Array Value, w.heap[g]? = some (.cells cs 263) ∧ cs.size = 65 ∧ m + acc.length = 65 ∧ cs.toList.drop m = acc.map (Value.int .u8)
theorem Tl.cell {w : World} {g m : Nat} {acc : List Int} (h : Tl w g (m + 1) acc) : ∃ v, w.cell? ⟨g, m, none⟩ = some v := by
  obtain ⟨cs, h1, h2, h3, h4⟩ := h
  refine ⟨cs[m]'(by omega), ?_⟩
  simp [World.cell?, h1]
theorem Tl.put {w : World} {g m : Nat} {acc : List Int} (h : Tl w g (m + 1) acc) (x : Int) : Tl (w.setCell ⟨g, m, none⟩ (.int .u8 x)) g m (x :: acc) := by
  obtain ⟨cs, h1, h2, h3, h4⟩ := h
  refine ⟨cs.setIfInBounds m (.int .u8 x), heap_setCell_same w g m cs _ _ h1, by simp [h2], by rw [List.length_cons]; omega, ?_⟩
  have hm : m < (cs.toList.set m (Value.int .u8 x)).length := by simp; omega
  rw [Array.toList_setIfInBounds, List.drop_eq_getElem_cons hm, List.getElem_set_self, List.map_cons, List.drop_set, if_pos (by omega), h4]
theorem Tl.bs {w : World} {g m : Nat} {acc : List Int} (h : Tl w g m acc) (hb : U.isBytes acc) : Bs w (some ⟨g, m, none⟩) (65 - m) (65 - m) acc := by
  obtain ⟨cs, h1, h2, h3, h4⟩ := h
  refine ⟨by omega, Nat.le_refl _, by unfold maxLen; omega, hb, fun i hi => ⟨_, _, rfl, ?_⟩⟩
  have hi' : i < acc.length := by omega
  have e := congrArg (fun l => l[i]?) h4
  simp only [List.getElem?_drop, List.getElem?_map] at e
  rw [List.getElem?_eq_getElem hi'] at e
  simp only [Option.map_some, Array.getElem?_toList] at e
  simp only [World.cell?, h1, List.getD, List.getElem?_eq_getElem hi', Option.getD_some]
  exact e
theorem Tl.new (w : World) : Tl (w.alloc (.cells Tryz.zeroCells263 263)) w.heap.size 65 [] :=
  ⟨Tryz.zeroCells263, heap_alloc_new w _, by kernel_rfl, rfl, by kernel_rfl⟩
/-! ### FormatInt -/
end Go.Proofs.YtfcfcgeodghmpaaGreatDoor.T

