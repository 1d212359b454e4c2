/- Contracts of package token: the ways to read, by the byte that a token begins by. -/
import Derived.Test.YtlofickahemlfaaGreatDoorTkL
import Derived.Lib.OthersKept
import Derived.Carry
namespace Go.Proofs.YtlofickahemlfaaGreatDoor.T
open Go.RowKit
set_option linter.unusedVariables false
set_option linter.unusedSimpArgs false

/-- a map of functions by bytes -/
def Mp (w : World) (b : Nat) (f : Int → Option Nat) : Prop :=
  ∃ es clock, w.heap[b]? = some (.map es clock) ∧ ∀ c : Int, (f c = none ∧ Instr.findNow (.int .u8) (.int .u8 c) es.toList 0 = some none) ∨ ∃ g i, f c = some g ∧ Instr.findNow (.int .u8) (.int .u8 c) es.toList 0 = some (some (i, .func (.func g) #[] #[]))
theorem find_app (kind : TypeDesc) (k : Value) : ∀ (es : List MapEntry) (e : MapEntry) (n : Nat), Instr.findNow kind k (es ++ [e]) n = match Instr.findNow kind k es n with
    | some none => Instr.findNow kind k [e] (n + es.length)
    | r => r := by
  intro es
  induction es with
  | nil => intro e n; simp [Instr.findNow]
  | cons x t ih =>
    intro e n
    rw [List.cons_append]
    unfold Instr.findNow
    cases h : Instr.sameNow kind k x.key with
    | none => rfl
    | some b =>
      cases b with
      | true => rfl
      | false =>
        simp only
        rw [ih]
        cases h2 : Instr.findNow kind k t (n + 1) with
        | none => rfl
        | some r =>
          cases r with
          | none =>
            simp only [List.length_cons]
            rw [show n + 1 + t.length = n + (t.length + 1) by omega]
            unfold Instr.findNow
            rfl
          | some q => rfl
theorem Mp.new (w : World) : Mp (w.alloc (.map #[] 0)) w.heap.size (fun _ => none) := ⟨#[], 0, heap_alloc_new w _, fun c => .inl ⟨rfl, rfl⟩⟩
def upd (f : Int → Option Nat) (c : Int) (g : Nat) : Int → Option Nat := fun x => if x = c then some g else f x
theorem Mp.keep {w w' : World} {b : Nat} {f : Int → Option Nat} (h : Mp w b f) (e : w'.heap[b]? = w.heap[b]?) : Mp w' b f := by
  obtain ⟨es, clock, hb, hf⟩ := h
  exact ⟨es, clock, e.trans hb, hf⟩
theorem Mp.later {w w' : World} {b : Nat} {f : Int → Option Nat} (h : Mp w b f) (hb : Below w.heap.size w w') : Mp w' b f := by
  obtain ⟨es, clock, h1, hf⟩ := h
  exact ⟨es, clock, (hb.block b (Array.getElem?_eq_some_iff.1 h1).1).trans h1, hf⟩
theorem Mp.lt {w : World} {b : Nat} {f : Int → Option Nat} (h : Mp w b f) : b < w.heap.size := by
  obtain ⟨es, clock, h1, hf⟩ := h
  exact (Array.getElem?_eq_some_iff.1 h1).1
theorem ck_byte (e : Bool) (c : Int) (W : World) : (Instr.checkKey e 10000 5 (.int .u8 c)).run Tryz.prog W = .ok () W := by
  show (Instr.checkKey e (9999 + 1) 5 (.int .u8 c)).run Tryz.prog W = .ok () W
  rw [Instr.checkKey]
  simp [run_underlying Tryz.underlying5]
theorem Mp.put {w : World} {b : Nat} {f : Int → Option Nat} (h : Mp w b f) (c : Int) (g : Nat) (hc : f c = none) :
    ∃ w', (Instr.mapUpdate 45 (.map (some b)) (.int .u8 c) (.func (.func g) #[] #[])).run Tryz.prog w = .ok () w' ∧ Mp w' b (upd f c g) ∧ w'.heap.size = w.heap.size ∧ (∀ k, k ≠ b → w'.heap[k]? = w.heap[k]?) ∧ w'.os = w.os ∧ w'.tape = w.tape ∧ w'.output = w.output := by
  obtain ⟨es, clock, hb, hf⟩ := h
  have hlt := (Array.getElem?_eq_some_iff.1 hb).1
  have hnow : Instr.findNow (.int .u8) (.int .u8 c) es.toList 0 = some none := by
    rcases hf c with ⟨_, h⟩ | ⟨g', i, h, _⟩
    · exact h
    · rw [hc] at h; cases h
  refine ⟨{ w with heap := w.heap.setIfInBounds b (.map (es.push { key := .int .u8 c, val := .func (.func g) #[] #[], born := clock }) (clock + 1)) }, ?_, ?_, by simp, fun k hk => by simp [Array.getElem?_setIfInBounds, Ne.symm hk], rfl, rfl, rfl⟩
  · simp [Instr.mapUpdate, run_underlying Tryz.underlying45, getObj, setObj, hb, ck_byte, run_underlying Tryz.underlying5, Instr.findKey, hnow, Sem.run]
  · refine ⟨es.push { key := .int .u8 c, val := .func (.func g) #[] #[], born := clock }, clock + 1, by simp [Array.getElem?_setIfInBounds, hlt], fun x => ?_⟩
    rw [Array.toList_push, find_app]
    unfold upd
    by_cases e : x = c
    · subst e
      rw [hnow, if_pos rfl]
      exact .inr ⟨g, _, rfl, by simp [Instr.findNow, Instr.sameNow]; rfl⟩
    · rw [if_neg e]
      rcases hf x with ⟨h1, h2⟩ | ⟨g', i, h1, h2⟩
      · refine .inl ⟨h1, ?_⟩
        rw [h2]
        have : (x == c) = false := beq_eq_false_iff_ne.2 e
        simp [Instr.findNow, Instr.sameNow, this]
      · exact .inr ⟨g', i, h1, by rw [h2]⟩
theorem Mp.get {w : World} {b : Nat} {f : Int → Option Nat} (h : Mp w b f) (c : Int) :
    (Instr.lookup 45 (.map (some b)) (.int .u8 c) true).run Tryz.prog w = .ok (.tuple #[match f c with | none => .nilFunc | some g => .func (.func g) #[] #[], .bool (f c).isSome]) w := by
  obtain ⟨es, clock, hb, hf⟩ := h
  have hz : (zeroValue 58).run Tryz.prog w = .ok .nilFunc w := by kernel_rfl
  rcases hf c with ⟨h1, h2⟩ | ⟨g, i, h1, h2⟩
  · simp [Instr.lookup, run_underlying Tryz.underlying45, getObj, hb, ck_byte, run_underlying Tryz.underlying5, Instr.findKey, h2, h1, hz, Sem.run]
  · simp [Instr.lookup, run_underlying Tryz.underlying45, getObj, hb, ck_byte, run_underlying Tryz.underlying5, Instr.findKey, h2, h1, Sem.run]
end Go.Proofs.YtlofickahemlfaaGreatDoor.T
