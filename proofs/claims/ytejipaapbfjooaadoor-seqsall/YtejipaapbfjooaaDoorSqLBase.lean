/- What the walks of layer 3's statements share. -/
import Derived.Test.YtejipaapbfjooaaDoorSqAwake
import Derived.Test.YtejipaapbfjooaaDoorRgLawBase
namespace Go.Proofs.YtejipaapbfjooaaDoor
open Go.RowKit
set_option linter.unusedVariables false
set_option linter.unusedSimpArgs false

theorem nx_rest (l : List Int) (at' : Int) : U.nextL (Q.rest l at') = nx l at' := by
  unfold nx Q.rest
  by_cases h : at' < 0 ∨ (l.length : Int) < at'
  · rw [if_pos h, if_pos (by omega)]; simp [U.nextL]
  · rw [if_neg h]
    by_cases h2 : at' < 0 ∨ (l.length : Int) ≤ at'
    · rw [if_pos h2, List.drop_of_length_le (by omega)]; simp [U.nextL]
    · rw [if_neg h2]
theorem nx_may {l : List Int} (hb : U.isBytes l) (at' : Int) (h : 0 ≤ (nx l at').1) : U.mayB (nx l at').1 = true := by
  rw [← nx_rest] at h ⊢
  rcases U.next_cases (Q.rest_bytes hb at') with ⟨_, e⟩ | ⟨_, e⟩ | ⟨r, hm, e, _⟩
  · rw [e] at h; simp at h
  · rw [e] at h; simp at h
  · rw [e]; exact hm

theorem nx_pos {l : List Int} (hb : U.isBytes l) (at' : Int) (h : 0 ≤ (nx l at').1) : 1 ≤ (nx l at').2 := by
  rw [← nx_rest] at h ⊢
  rcases U.next_cases (Q.rest_bytes hb at') with ⟨_, e⟩ | ⟨_, e⟩ | ⟨r, hm, e, _⟩
  · rw [e] at h; simp at h
  · rw [e] at h; simp at h
  · rw [e]; exact (U.putL_len r).1
theorem of_hit {N : List (Int × Int)} {p : Int → Bool} (hN : G.Is N p) {l : List Int} (hb : U.isBytes l) (at' : Int) :
    Q.matchL (Q.ofN N) (Q.rest l at') = if 0 ≤ (nx l at').1 ∧ p (nx l at').1 = true then (nx l at').2 else 0 := by
  rw [Q.match_of N (Q.rest_bytes hb at')]
  unfold Q.hitN
  rw [nx_rest, hN.2]
theorem nrm_has {L : List (Int × Int)} {r : Int} (h : U.mayB r = true) : nrm L r = G.hasB L r := by
  have := (U.may_iff r).1 h
  unfold nrm G.dom
  simp [this.1, this.2.1]
theorem hit_no {N : List (Int × Int)} {L : List (Int × Int)} (hN : G.Is N (nrm L)) {l : List Int} (hb : U.isBytes l) {at' r : Int} {n : Nat} (e : nx l at' = (r, n)) (h : r < 0) : Q.matchL (Q.ofN N) (Q.rest l at') = 0 := by
  rw [of_hit hN hb, e, if_neg (by simp only; omega)]
theorem hit_yes {N : List (Int × Int)} {L : List (Int × Int)} (hN : G.Is N (nrm L)) {l : List Int} (hb : U.isBytes l) {at' r : Int} {n : Nat} (e : nx l at' = (r, n)) (h : 0 ≤ r) (hh : G.hasB L r = true) : Q.matchL (Q.ofN N) (Q.rest l at') = n := by
  have hm := nx_may hb at' (by rw [e]; exact h)
  rw [e] at hm
  rw [of_hit hN hb, e, if_pos ⟨h, by simp only; rw [nrm_has hm]; exact hh⟩]
theorem hit_not {N : List (Int × Int)} {L : List (Int × Int)} (hN : G.Is N (nrm L)) {l : List Int} (hb : U.isBytes l) {at' r : Int} {n : Nat} (e : nx l at' = (r, n)) (h : 0 ≤ r) (hh : G.hasB L r = false) : Q.matchL (Q.ofN N) (Q.rest l at') = 0 := by
  have hm := nx_may hb at' (by rw [e]; exact h)
  rw [e] at hm
  rw [of_hit hN hb, e, if_neg (by simp only; rw [nrm_has hm, hh]; simp)]
theorem all_is : G.Is [(0, 1114111)] (nrm [(0, 1114111)]) := by
  refine ⟨by decide, fun n => ?_⟩
  unfold nrm G.dom
  rw [G.hasB_one]
  cases decide (0 ≤ n) <;> cases decide (n ≤ 1114111) <;> rfl
theorem all_has {l : List Int} (hb : U.isBytes l) {at' r : Int} {n : Nat} (e : nx l at' = (r, n)) (h : 0 ≤ r) : G.hasB [(0, 1114111)] r = true := by
  have hm := nx_may hb at' (by rw [e]; exact h)
  rw [e] at hm
  have := (U.may_iff r).1 hm
  rw [G.hasB_one]; simp [h, this.2.1]

/-- what Of answers, as it is used: a slice of slices that lies somewhere -/
theorem ofSq (a : Option Addr) (len cap : Nat) (L : List (Int × Int)) (w : World) (h : Rs w a len cap L) (hs : len ≤ 1000000) (hW : Wd w) :
    Calls Tryd.prog 13 #[.slice a len cap] w fun e w' => ∃ N x c, G.Is N (nrm L) ∧ e = .returned (.slice x (Q.ofN N).length c) ∧ Sq w' x (Q.ofN N).length c (Q.ofN N) ∧ Below w.heap.size w w' :=
  (of_any a len cap L w h hs hW).mono fun e w' ⟨N, v, hi, he, hq, hb⟩ => by
    obtain ⟨x, c, rfl, hS⟩ := hq.sq
    exact ⟨N, x, c, hi, he, hS, hb⟩

end Go.Proofs.YtejipaapbfjooaaDoor
