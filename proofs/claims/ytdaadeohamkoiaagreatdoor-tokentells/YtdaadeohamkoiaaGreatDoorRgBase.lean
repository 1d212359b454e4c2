/- Slices of ranges: what is told of one that lies in memory; the contract of ranges.May. -/
import Derived.Test.YtdaadeohamkoiaaGreatDoorChecked
import Derived.Test.YtdaadeohamkoiaaGreatDoorRgMath
import Derived.WalkKit
import Derived.WalkSpells
import Derived.WalkLawsBesides
import Derived.Laws.EntriesVeiled
namespace Go.Proofs.YtdaadeohamkoiaaGreatDoor
open Go.RowKit
set_option linter.unusedVariables false

/-- the number fits an int -/
def fits (n : Int) : Prop := -9223372036854775808 ≤ n ∧ n ≤ 9223372036854775807

/-- What is told of a slice of ranges: its elements l, each in its two cells. -/
structure Rs (w : World) (a : Option Addr) (len cap : Nat) (l : List (Int × Int)) : Prop where
  hlen : l.length = len
  hcap : len ≤ cap
  hmax : cap ≤ maxLen
  hfit : ∀ r ∈ l, fits r.1 ∧ fits r.2
  hcell : ∀ i, i < len → ∃ b off, a = some ⟨b, off, none⟩ ∧ w.cell? ⟨b, off + i * 2, none⟩ = some (.int .i64 (l.getD i (0, 0)).1) ∧ w.cell? ⟨b, off + i * 2 + 1, none⟩ = some (.int .i64 (l.getD i (0, 0)).2)

/-- The same where there is one at least: the address written out. -/
structure Rb (w : World) (b off len cap : Nat) (l : List (Int × Int)) : Prop where
  hlen : l.length = len
  hpos : 1 ≤ len
  hcap : len ≤ cap
  hmax : cap ≤ maxLen
  hfit : ∀ r ∈ l, fits r.1 ∧ fits r.2
  hcell : ∀ i, i < len → w.cell? ⟨b, off + i * 2, none⟩ = some (.int .i64 (l.getD i (0, 0)).1) ∧ w.cell? ⟨b, off + i * 2 + 1, none⟩ = some (.int .i64 (l.getD i (0, 0)).2)

theorem Rs.open {w : World} {a : Option Addr} {len cap : Nat} {l : List (Int × Int)} (h : Rs w a len cap l) (hp : 1 ≤ len) : ∃ b off, a = some ⟨b, off, none⟩ ∧ Rb w b off len cap l := by
  obtain ⟨b, off, ha, hc⟩ := h.hcell 0 (by omega)
  refine ⟨b, off, ha, h.hlen, hp, h.hcap, h.hmax, h.hfit, fun i hi => ?_⟩
  obtain ⟨b', off', ha', hc'⟩ := h.hcell i hi
  rw [ha] at ha'
  injection ha' with e
  injection e with e1 e2
  subst e1; subst e2
  exact hc'

theorem Rs.nil (w : World) : Rs w none 0 0 [] := ⟨rfl, Nat.le_refl _, Nat.zero_le _, fun r hr => (by cases hr), fun i hi => (by omega)⟩

/-- one element, with its cells -/
theorem Rb.at {w : World} {b off len cap : Nat} {l : List (Int × Int)} (h : Rb w b off len cap l) (k : Nat) (hk : k < len) :
    ∃ lo hi, l.drop k = (lo, hi) :: l.drop (k + 1) ∧ l.take (k + 1) = l.take k ++ [(lo, hi)] ∧ fits lo ∧ fits hi ∧ w.cell? ⟨b, off + k * 2, none⟩ = some (.int .i64 lo) ∧ w.cell? ⟨b, off + k * 2 + 1, none⟩ = some (.int .i64 hi) := by
  have hl := h.hlen
  have hc := h.hcell k hk
  have hk' : k < l.length := by omega
  have e : l.getD k (0, 0) = l[k] := by simp [List.getD, hk']
  rw [e] at hc
  have hf := h.hfit l[k] (List.getElem_mem hk')
  refine ⟨l[k].1, l[k].2, ?_, ?_, hf.1, hf.2, hc.1, hc.2⟩
  · exact List.drop_eq_getElem_cons hk'
  · exact List.take_succ_eq_append_getElem hk'

theorem block_lt' {w : World} {b o : Nat} {v : Value} (h : w.cell? ⟨b, o, none⟩ = some v) : b < w.heap.size := block_lt_of_cell h

theorem Rs.later {w w' : World} {a : Option Addr} {len cap : Nat} {l : List (Int × Int)} (h : Rs w a len cap l) {B : Nat} (hb : Below B w w') (hB : w.heap.size ≤ B) : Rs w' a len cap l := by
  refine ⟨h.hlen, h.hcap, h.hmax, h.hfit, fun i hi => ?_⟩
  obtain ⟨b, off, ha, hc, hd⟩ := h.hcell i hi
  have hlt : b < w.heap.size := block_lt' hc
  exact ⟨b, off, ha, by rw [hb.cell (p := ⟨b, off + i * 2, none⟩) (Nat.lt_of_lt_of_le hlt hB)]; exact hc, by rw [hb.cell (p := ⟨b, off + i * 2 + 1, none⟩) (Nat.lt_of_lt_of_le hlt hB)]; exact hd⟩

theorem ret_bool {a b : Bool} (h : a = b) : Ending.returned (.bool a) = .returned (.bool b) := by rw [h]
theorem ret_int {a b : Int} (h : a = b) : Ending.returned (.int .i64 a) = .returned (.int .i64 b) := by rw [h]

theorem hideR {p : Prop} (h : p) : Hid p := h
theorem unhideR {p : Prop} (h : Hid p) : p := h

theorem Below.new1 {w : World} (o : Obj) : Below w.heap.size w (w.alloc o) := (Below.refl _ _).alloc (Nat.le_refl _) o

/-- what the loop of May comes to, at one range -/
theorem mayFrom_at {least lo hi : Int} {t : List (Int × Int)} : G.mayFrom least ((lo, hi) :: t) = (decide (least ≤ lo) && decide (lo ≤ hi) && decide (hi ≤ 1114111) && G.mayFrom (hi + 2) t) := rfl

end Go.Proofs.YtdaadeohamkoiaaGreatDoor
