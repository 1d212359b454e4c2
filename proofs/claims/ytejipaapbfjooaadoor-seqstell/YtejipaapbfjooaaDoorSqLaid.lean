/- What the listed variable gives the walks: the row of widths. -/
import Derived.Test.YtejipaapbfjooaaDoorRows
import Derived.Test.YtejipaapbfjooaaDoorSqOf
import Derived.Test.YtejipaapbfjooaaDoorRgOpen
import Derived.ProofKit
import Derived.LaidMore
import Derived.OpenShut
import Derived.ChangeSame
import Derived.Stop.Joined
namespace Go.Proofs.YtejipaapbfjooaaDoor
open Go.ChangeShapes Go.WideShapes Go.RowKit
set_option linter.unusedVariables false

abbrev laidL : List (String × DataW Unit) := [("exegete/seqs.widths", Rows.laid_exegete_seqs_widths)]
theorem gWid : Tryd.prog.globalNamed "exegete/seqs.widths" = some 0 := by kernel_rfl
theorem tWid : (Tryd.prog.globals[0]?).map (·.type) = some 49 := by kernel_rfl

theorem int_trod {H : Type} {enc : TypeId × Value → H} {w : World} {base : Nat} {sp : Nat → Bool} {held : Bool} {fuel : Nat} {a : Value} {x : DataW H × List MemPlace}
    (h : DataW.trod enc Tryd.prog w base sp held fuel 3 [a] = some x) : ∃ p : Int, a = .int .i64 p ∧ x.1 = .lit (.int .i64 p) := by
  obtain ⟨p, e, hx, _⟩ := DataW.trod_int Tryd.underlying3 h
  simp at e
  exact ⟨p, e, by rw [hx]⟩
theorem rg_trod {H : Type} {enc : TypeId × Value → H} {w : World} {base : Nat} {sp : Nat → Bool} {held : Bool} {fuel : Nat} {a b : Value} {x : DataW H × List MemPlace}
    (h : DataW.trod enc Tryd.prog w base sp held fuel 41 [a, b] = some x) : ∃ p q : Int, a = .int .i64 p ∧ b = .int .i64 q ∧ x.1 = .agg [.lit (.int .i64 p), .lit (.int .i64 q)] := by
  have c3 : Tryd.prog.cellsOf 3 = 1 := by kernel_rfl
  obtain ⟨y0, y1, n, hx, _, h0, h1⟩ := trod_struct2 Tryd.underlying41 h
  simp only [c3, List.drop_zero, List.take_succ_cons, List.take_zero, List.drop_succ_cons] at h0 h1
  obtain ⟨p, rfl, e0⟩ := int_trod h0
  obtain ⟨q, rfl, e1⟩ := int_trod h1
  exact ⟨p, q, rfl, rfl, by rw [hx]; simp only [e0, e1]⟩
theorem wid_trod {H : Type} {enc : TypeId × Value → H} {w : World} {base : Nat} {sp : Nat → Bool} {held : Bool} {fuel : Nat} {a b c : Value} {x : DataW H × List MemPlace}
    (h : DataW.trod enc Tryd.prog w base sp held fuel 48 [a, b, c] = some x) : ∃ p q r : Int, a = .int .i64 p ∧ b = .int .i64 q ∧ c = .int .i64 r ∧ x.1 = .agg [.agg [.lit (.int .i64 p), .lit (.int .i64 q)], .lit (.int .i64 r)] := by
  have c3 : Tryd.prog.cellsOf 3 = 1 := by kernel_rfl
  have c4 : Tryd.prog.cellsOf 41 = 2 := by kernel_rfl
  obtain ⟨y0, y1, n, hx, _, h0, h1⟩ := trod_struct2 Tryd.underlying48 h
  simp only [c3, c4, List.drop_zero, List.take_succ_cons, List.take_zero, List.drop_succ_cons] at h0 h1
  obtain ⟨p, q, rfl, rfl, e0⟩ := rg_trod h0
  obtain ⟨r, rfl, e1⟩ := int_trod h1
  exact ⟨p, q, r, rfl, rfl, rfl, by rw [hx]; simp only [e0, e1]⟩

set_option maxRecDepth 100000 in
theorem wd_of_laid {W : World} (h : laidMetH Tryd.prog laidL W) : Wd W := by
  rw [MakeChecks.laidMetH_plain _ _ _ (by kernel_rfl)] at h
  obtain ⟨ps, ⟨g, t, cs, fuel, p, q, hg, ht, hv, hd, _⟩, _⟩ := h
  obtain rfl := Option.some.inj (gWid.symm.trans hg)
  obtain rfl := Option.some.inj (tWid.symm.trans ht)
  have cw : Tryd.prog.cellsOf 48 = 3 := by kernel_rfl
  have ca : Tryd.prog.cellsOf 49 = 15 := by kernel_rfl
  obtain ⟨xs, m, rfl, hx, hlen, hn, hel⟩ := DataW.trod_array Tryd.underlying49 hd
  rw [ca] at hlen
  have e0 := hel 0 (by decide)
  have e1 := hel 1 (by decide)
  have e2 := hel 2 (by decide)
  have e3 := hel 3 (by decide)
  have e4 := hel 4 (by decide)
  rw [cw] at e0 e1 e2 e3 e4
  obtain ⟨l⟩ := cs
  simp only at hlen
  match l, hlen, xs, hn, e0, e1, e2, e3, e4, hx, hv with
  | [a0, a1, a2, a3, a4, a5, a6, a7, a8, a9, a10, a11, a12, a13, a14], _, [x0, x1, x2, x3, x4], _, e0, e1, e2, e3, e4, hx, hv =>
    simp only [Nat.zero_mul, Nat.one_mul, Nat.reduceMul, List.drop_zero, List.take_succ_cons, List.take_zero, List.drop_succ_cons, List.getElem?_cons_zero, List.getElem?_cons_succ] at e0 e1 e2 e3 e4
    obtain ⟨p0, q0, r0, rfl, rfl, rfl, f0⟩ := wid_trod e0
    obtain ⟨p1, q1, r1, rfl, rfl, rfl, f1⟩ := wid_trod e1
    obtain ⟨p2, q2, r2, rfl, rfl, rfl, f2⟩ := wid_trod e2
    obtain ⟨p3, q3, r3, rfl, rfl, rfl, f3⟩ := wid_trod e3
    obtain ⟨p4, q4, r4, rfl, rfl, rfl, f4⟩ := wid_trod e4
    simp only [List.map_cons, List.map_nil, f0, f1, f2, f3, f4, Rows.laid_exegete_seqs_widths, Prod.mk.injEq, DataW.agg.injEq, List.cons.injEq, DataW.lit.injEq, Lit.int.injEq, true_and, and_true] at hx
    obtain ⟨⟨⟨⟨rfl, rfl⟩, rfl⟩, ⟨⟨rfl, rfl⟩, rfl⟩, ⟨⟨rfl, rfl⟩, rfl⟩, ⟨⟨rfl, rfl⟩, rfl⟩, ⟨rfl, rfl⟩, rfl⟩, _⟩ := hx
    simp only [World.var?, gWid, Option.bind_some] at hv
    split at hv
    · next cs t fr he =>
      injection hv with hv
      subst hv
      exact ⟨t, fr, he⟩
    · cases hv

set_option maxRecDepth 100000 in
theorem door_met (os : Os) (args : Array Value) : laidMetH Tryd.prog laidL ((World.doorLaid Tryd.prog 400 os).forCall (fun _ _ => 0) ⟨#[], args, []⟩).memory :=
  laidMetH_of_parts3 (fuel := 8) (laidMet_of_run' 8 (by kernel_rfl) (by kernel_rfl)) (by kernel_rfl) (by kernel_rfl)
end Go.Proofs.YtejipaapbfjooaaDoor
