/- Contracts of what is asked of a number: both, either, less. -/
import Derived.Test.YtdaadeohamkoiaaGreatDoorRgSet
namespace Go.Proofs.YtdaadeohamkoiaaGreatDoor
open Go.RowKit
set_option linter.unusedVariables false

/-- two sets in order, as they lie -/
structure Pr (w : World) (a : Option Addr) (la ca : Nat) (A : List (Int × Int)) (b : Option Addr) (lb cb : Nat) (B : List (Int × Int)) : Prop where
  ha : Rs w a la ca A
  hb : Rs w b lb cb B
  ma : G.mayB A = true
  mb : G.mayB B = true

theorem Pr.later {w w' : World} {a : Option Addr} {la ca : Nat} {A : List (Int × Int)} {b : Option Addr} {lb cb : Nat} {B : List (Int × Int)} (h : Pr w a la ca A b lb cb B) {k : Nat} (hb : Below k w w') (hk : w.heap.size ≤ k) : Pr w' a la ca A b lb cb B :=
  ⟨h.ha.later hb hk, h.hb.later hb hk, h.ma, h.mb⟩
theorem Pr.la {w : World} {a : Option Addr} {la ca : Nat} {A : List (Int × Int)} {b : Option Addr} {lb cb : Nat} {B : List (Int × Int)} (h : Pr w a la ca A b lb cb B) : la ≤ 1000000 := by
  have := h.ha.hlen; have := G.may_length h.ma; omega
theorem Pr.lb {w : World} {a : Option Addr} {la ca : Nat} {A : List (Int × Int)} {b : Option Addr} {lb cb : Nat} {B : List (Int × Int)} (h : Pr w a la ca A b lb cb B) : lb ≤ 1000000 := by
  have := h.hb.hlen; have := G.may_length h.mb; omega

/-- the block in which two sets lie that a call has been handed -/
abbrev boxPr (a : Option Addr) (la ca : Nat) (b : Option Addr) (lb cb : Nat) : Obj := .cells #[.slice a la ca, .slice b lb cb] 167

set_option maxHeartbeats 1000000 in
theorem less_any (a : Option Addr) (la ca : Nat) (A : List (Int × Int)) (b : Option Addr) (lb cb : Nat) (B : List (Int × Int)) (n : Int) (w : World) (h : Pr w a la ca A b lb cb B) :
    Calls Tryz.prog 133 #[.agg #[.slice a la ca, .slice b lb cb], .int .i64 n] w fun e w' => e = .returned (.bool ((fun x y => x && !y) (G.hasB A n) (G.hasB B n))) ∧ Below w.heap.size w w' := by
  have c1 := setHas_any a la ca A n _ (h.later (Below.new1 (boxPr a la ca b lb cb)) (Nat.le_refl _)).ha h.ma h.la
  have c2 := fun w1 (hb : Below w.heap.size w w1) => setHas_any b lb cb B n w1 (h.later hb (Nat.le_refl _)).hb h.mb h.lb
  generalize G.hasB A n = x at *
  generalize G.hasB B n = y at *
  clear h
  have C1 := hideR c1
  have C2 := hideR c2
  clear c1 c2
  cases x with
  | false =>
    go_enter Tryz.func133, Tryz.ntmps133
    go_wp2_with fail
    refine (unhideR C1).mono ?_
    rintro e w1 ⟨rfl, hb1⟩
    go_wp2_with fail
    go_ret
    refine ⟨ret_bool (by simp), ?_⟩
    simp only [World.size_alloc] at hb1
    exact (Below.new1 _).trans (hb1.mono (by omega))
  | true =>
    go_enter Tryz.func133, Tryz.ntmps133
    go_wp2_with fail
    refine (unhideR C1).mono ?_
    rintro e w1 ⟨rfl, hb1⟩
    have hb : Below w.heap.size w w1 := (Below.new1 _).trans (hb1.mono (by simp))
    obtain ⟨k1, k2⟩ : (w1.cell? ⟨w.heap.size, 0, none⟩ = some (.slice a la ca)) ∧ (w1.cell? ⟨w.heap.size, 1, none⟩ = some (.slice b lb cb)) :=
      ⟨by rw [hb1.cell (p := ⟨w.heap.size, 0, none⟩) (by simp)]; rw [World.cell?_alloc_at _ _ _ _ rfl]; rfl, by rw [hb1.cell (p := ⟨w.heap.size, 1, none⟩) (by simp)]; rw [World.cell?_alloc_at _ _ _ _ rfl]; rfl⟩
    go_wp2_with fail
    refine (unhideR C2 _ hb).mono ?_
    rintro e w2 ⟨rfl, hb2⟩
    go_wp2_with fail
    go_ret
    exact ⟨ret_bool (by simp), hb.trans (hb2.mono hb.size)⟩

end Go.Proofs.YtdaadeohamkoiaaGreatDoor
