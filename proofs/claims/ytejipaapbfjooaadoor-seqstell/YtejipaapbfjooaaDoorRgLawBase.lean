/- What the walks of layer 2 share: plain facts about the answers. -/
import Derived.Test.YtejipaapbfjooaaDoorRgRefs
import Derived.Test.YtejipaapbfjooaaDoorRgAwake
namespace Go.Proofs.YtejipaapbfjooaaDoor
open Go.RowKit
set_option linter.unusedVariables false

theorem is_small {w : World} {a : Option Addr} {len cap : Nat} {l : List (Int × Int)} {p : Int → Bool} (h : Rs w a len cap l) (hi : G.Is l p) : len ≤ 1000000 := by
  have := h.hlen; have := G.may_length hi.1; omega

theorem fits_max : fits 1114111 := by unfold fits; omega

theorem nrm_is {l : List (Int × Int)} {p : Int → Bool} (h : G.Is l p) (n : Int) : nrm l n = p n := by
  unfold nrm
  rw [h.2]
  cases e : p n with
  | false => simp
  | true => have := h.dom e; unfold G.dom; simp; omega

theorem notP_max (l : List (Int × Int)) (n : Int) : notP l 1114111 n = (G.dom n && !nrm l n) := by
  unfold notP
  congr 1
  unfold nrm
  rw [G.hasB_one]
  unfold G.dom
  cases decide (0 ≤ n) <;> cases decide (n ≤ 1114111) <;> rfl

theorem tw1 (l : List (Int × Int)) (n : Int) : (G.dom n && !(G.dom n && !nrm l n)) = nrm l n := by
  unfold nrm; cases G.dom n <;> cases G.hasB l n <;> rfl
theorem tw2 (a b : List (Int × Int)) (n : Int) : (G.dom n && !(nrm a n || nrm b n)) = ((G.dom n && !nrm a n) && (G.dom n && !nrm b n)) := by
  cases G.dom n <;> cases nrm a n <;> cases nrm b n <;> rfl
theorem tw3 (a b c : Bool) : ((a && !b) && !c) = (a && !(b || c)) := by cases a <;> cases b <;> cases c <;> rfl

namespace G
theorem cnt_bounds (p : Int → Bool) (N : Nat) : 0 ≤ cnt p N ∧ cnt p N ≤ N := by
  induction N with
  | zero => exact ⟨Int.le_refl _, Int.le_refl _⟩
  | succ k ih => rw [cnt]; split <;> omega
theorem size_bounds (p : Int → Bool) : 0 ≤ size p ∧ size p ≤ 1114112 := cnt_bounds p 1114112
theorem size_congr {p q : Int → Bool} (h : ∀ n, p n = q n) : size p = size q := cnt_congr _ fun n _ _ => h n
theorem size_or (p q : Int → Bool) : size (fun n => p n || q n) + size (fun n => p n && q n) = size p + size q := cnt_or p q _
theorem size_none : size (fun _ => false) = 0 := cnt_none _
theorem size_dom : size dom = 1114112 := by
  have : size dom = size fun _ => true := cnt_congr _ fun n h0 h1 => by unfold dom; simp; omega
  rw [this]; exact cnt_all _
end G

theorem size_sum {p q r s : Int → Bool} (h1 : ∀ n, p n = (r n && s n)) (h2 : ∀ n, q n = (r n || s n)) : G.size p + G.size q = G.size r + G.size s := by
  rw [G.size_congr h1, G.size_congr h2]
  have := G.size_or r s
  omega
theorem size_less {p q r s : Int → Bool} (h1 : ∀ n, p n = (r n && !s n)) (h2 : ∀ n, q n = (r n && s n)) : G.size p + G.size q = G.size r := by
  have e1 := G.size_or p q
  have e2 : G.size (fun n => p n || q n) = G.size r := G.size_congr fun n => by rw [h1, h2]; cases r n <;> cases s n <;> rfl
  have e3 : G.size (fun n => p n && q n) = 0 := by
    rw [← G.size_none]; exact G.size_congr fun n => by rw [h1, h2]; cases r n <;> cases s n <;> rfl
  omega
theorem size_not {l : List (Int × Int)} {p : Int → Bool} (h : ∀ n, p n = (G.dom n && !nrm l n)) : G.size p + G.size (nrm l) = 1114112 := by
  have := size_less (r := G.dom) (s := nrm l) (q := nrm l) h (fun n => by unfold nrm; cases G.dom n <;> cases G.hasB l n <;> rfl)
  rw [G.size_dom] at this
  exact this

theorem order_same {l x : List (Int × Int)} (h : G.Is x (nrm l)) : sameB x l = G.mayB l := by
  cases e : G.mayB l with
  | true => exact same_yes (h.unique (G.Is.self e) fun n => nrm_is (G.Is.self e) n)
  | false =>
    refine same_no fun e' => ?_
    have := h.1
    rw [e', e] at this
    cases this
theorem is_empty {l : List (Int × Int)} {p : Int → Bool} (h : G.Is l p) (hl : l.length = 0) (n : Int) : p n = false := by
  rw [← h.2, List.eq_nil_of_length_eq_zero hl]; rfl
theorem order_yes {a b x y p q : List (Int × Int)} (hx : G.Is x (nrm a)) (hy : G.Is y (nrm b)) (hp : G.Is p fun n => nrm a n && !nrm b n) (hq : G.Is q fun n => nrm b n && !nrm a n) (h1 : p.length = 0) (h2 : q.length = 0) : sameB x y = true := by
  refine same_yes (hx.unique hy fun n => ?_)
  have e1 := is_empty hp h1 n
  have e2 := is_empty hq h2 n
  revert e1 e2
  cases nrm a n <;> cases nrm b n <;> simp
theorem some_of {l : List (Int × Int)} {p : Int → Bool} (h : G.Is l p) (hl : l.length ≠ 0) : ∃ n, p n = true := by
  cases l with
  | nil => exact absurd rfl hl
  | cons r t =>
    have := G.may_mem h.1 (r := r) (by simp)
    refine ⟨r.1, ?_⟩
    rw [← h.2, G.hasB_cons]
    simp; left; omega
theorem order_no1 {a b x y p : List (Int × Int)} (hx : G.Is x (nrm a)) (hy : G.Is y (nrm b)) (hp : G.Is p fun n => nrm a n && !nrm b n) (h1 : p.length ≠ 0) : sameB x y = false := by
  refine same_no fun e => ?_
  obtain ⟨n, hn⟩ := some_of hp h1
  have k1 := hx.2 n
  have k2 := hy.2 n
  rw [e, k2] at k1
  simp only [k1] at hn
  revert hn
  cases nrm a n <;> simp
theorem order_no2 {a b x y q : List (Int × Int)} (hx : G.Is x (nrm a)) (hy : G.Is y (nrm b)) (hq : G.Is q fun n => nrm b n && !nrm a n) (h1 : q.length ≠ 0) : sameB x y = false := by
  have := order_no1 hy hx hq h1
  unfold sameB at *
  rw [decide_eq_false_iff_not] at *
  exact fun e => this e.symm

end Go.Proofs.YtejipaapbfjooaaDoor
