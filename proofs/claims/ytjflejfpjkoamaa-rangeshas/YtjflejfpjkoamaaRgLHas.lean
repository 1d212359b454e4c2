/- RangesHas: walked. -/
import Derived.Test.YtjflejfpjkoamaaRgLawBase
namespace Go.Proofs.Ytjflejfpjkoamaa
open Go.RowKit
set_option linter.unusedVariables false

theorem has_both {A B P : List (Int × Int)} {n : Int} {x y d : Bool} (h : G.Is P fun n => nrm A n && nrm B n) (hx : G.hasB A n = x) (hy : G.hasB B n = y) (hd : G.dom n = d) : G.hasB P n = (d && (x && y)) := by
  rw [h.2]
  show (nrm A n && nrm B n) = _
  unfold nrm
  rw [hx, hy, hd]; cases d <;> cases x <;> cases y <;> rfl
theorem has_either {A B P : List (Int × Int)} {n : Int} {x y d : Bool} (h : G.Is P fun n => nrm A n || nrm B n) (hx : G.hasB A n = x) (hy : G.hasB B n = y) (hd : G.dom n = d) : G.hasB P n = (d && (x || y)) := by
  rw [h.2]
  show (nrm A n || nrm B n) = _
  unfold nrm
  rw [hx, hy, hd]; cases d <;> cases x <;> cases y <;> rfl
theorem has_less {A B P : List (Int × Int)} {n : Int} {x y d : Bool} (h : G.Is P fun n => nrm A n && !nrm B n) (hx : G.hasB A n = x) (hy : G.hasB B n = y) (hd : G.dom n = d) : G.hasB P n = (d && (x && !y)) := by
  rw [h.2]
  show (nrm A n && !nrm B n) = _
  unfold nrm
  rw [hx, hy, hd]; cases d <;> cases x <;> cases y <;> rfl
theorem has_not {A P : List (Int × Int)} {n : Int} {x d : Bool} (h : G.Is P (notP A 1114111)) (hx : G.hasB A n = x) (hd : G.dom n = d) : G.hasB P n = (d && !x) := by
  rw [h.2, notP_max]
  unfold nrm
  rw [hx, hd]; cases d <;> cases x <;> rfl
theorem has_norm {A P : List (Int × Int)} {n : Int} {x d : Bool} (h : G.Is P (nrm A)) (hx : G.hasB A n = x) (hd : G.dom n = d) : G.hasB P n = (d && x) := by
  rw [h.2]
  unfold nrm
  rw [hx, hd]

set_option maxHeartbeats 8000000 in
theorem rangesHas_walk (a_A : Option Addr) (l_A c_A : Nat) (L_A : List (Int × Int)) (a_B : Option Addr) (l_B c_B : Nat) (L_B : List (Int × Int)) (n : Int) (w : World) (h_A : Rs w a_A l_A c_A L_A) (h_B : Rs w a_B l_B c_B L_B) (f_n : fits n) :
    Calls Try.prog 5 #[.slice a_A l_A c_A, .slice a_B l_B c_B, .int .i64 n] w fun e w' => e = .returned (.bool true) ∧ Below w.heap.size w w' := by
  have m_A := h_A.hmax
  have k_A := h_A.hcap
  unfold maxLen at m_A
  have R_A := hideR h_A
  clear h_A
  have m_B := h_B.hmax
  have k_B := h_B.hcap
  unfold maxLen at m_B
  have R_B := hideR h_B
  clear h_B
  have F_n := hideR f_n
  unfold fits at f_n
  obtain ⟨f_n0, f_n1⟩ := f_n
  by_cases t_A : 60 < l_A
  · have t_A' : (60 : Int) < (l_A : Int) := by omega
    go_enter Try.func5, Try.ntmps5
    go_wp2_with fail
    refine (rgAwake_any _).mono ?_
    rintro e w0 ⟨rfl, b⟩
    go_wp2_with fail
    go_ret
    exact ⟨rfl, b⟩
  · have t_A' : (l_A : Int) ≤ 60 := by omega
    have S_A : Hid (l_A ≤ 1000000) := by show _ ≤ _; omega
    by_cases t_B : 60 < l_B
    · have t_B' : (60 : Int) < (l_B : Int) := by omega
      go_enter Try.func5, Try.ntmps5
      go_wp2_with fail
      refine (rgAwake_any _).mono ?_
      rintro e w0 ⟨rfl, b⟩
      go_wp2_with fail
      go_ret
      exact ⟨rfl, b⟩
    · have t_B' : (l_B : Int) ≤ 60 := by omega
      have S_B : Hid (l_B ≤ 1000000) := by show _ ≤ _; omega
      obtain ⟨x, hx⟩ : ∃ x, G.hasB L_A n = x := ⟨_, rfl⟩
      obtain ⟨y, hy⟩ : ∃ y, G.hasB L_B n = y := ⟨_, rfl⟩
      have HX := hideR hx
      have HY := hideR hy
      clear hx hy
      have key : (n < 0 ∧ G.dom n = false) ∨ (1114111 < n ∧ G.dom n = false) ∨ (0 ≤ n ∧ n ≤ 1114111 ∧ G.dom n = true) := by
        unfold G.dom
        by_cases d1 : n < 0
        · exact .inl ⟨d1, by simp; omega⟩
        · by_cases d2 : 1114111 < n
          · exact .inr (.inl ⟨d2, by simp; omega⟩)
          · exact .inr (.inr ⟨by omega, by omega, by simp; omega⟩)
      cases x <;> cases y <;> rcases key with ⟨d1, hd⟩ | ⟨d1, hd⟩ | ⟨d1, d2, hd⟩
      all_goals
        have HD := hideR hd
        clear hd
        go_enter Try.func5, Try.ntmps5
        go_wp2_with fail
        refine (rgAwake_any _).mono ?_
        rintro e w0 ⟨rfl, b⟩
        have BB := hideR b
        replace R_A := hideR ((unhideR R_A).later b (Nat.le_refl _))
        replace R_B := hideR ((unhideR R_B).later b (Nat.le_refl _))
        clear b
        have C := hideR (has_any _ _ _ _ n _ (unhideR R_A))
        rw [unhideR HX] at C
        go_wp2_with fail
        refine (unhideR C).mono ?_
        clear C
        rintro e w1 ⟨rfl, b⟩
        replace R_A := hideR ((unhideR R_A).later b (Nat.le_refl _))
        replace R_B := hideR ((unhideR R_B).later b (Nat.le_refl _))
        replace BB := hideR ((unhideR BB).trans (b.mono (unhideR BB).size))
        clear b
        have C := hideR (has_any _ _ _ _ n _ (unhideR R_B))
        rw [unhideR HY] at C
        go_wp2_with fail
        refine (unhideR C).mono ?_
        clear C
        rintro e w2 ⟨rfl, b⟩
        replace R_A := hideR ((unhideR R_A).later b (Nat.le_refl _))
        replace R_B := hideR ((unhideR R_B).later b (Nat.le_refl _))
        replace BB := hideR ((unhideR BB).trans (b.mono (unhideR BB).size))
        clear b
        have C := hideR (rgBoth_any _ _ _ _ _ _ _ _ _ (unhideR R_A) (unhideR R_B) (unhideR S_A) (unhideR S_B))
        go_wp2_with fail
        refine (unhideR C).mono ?_
        clear C
        rintro e w3 ⟨a_P, l_P, c_P, L_P, rfl, r, i, b⟩
        replace R_A := hideR ((unhideR R_A).later b (Nat.le_refl _))
        replace R_B := hideR ((unhideR R_B).later b (Nat.le_refl _))
        replace BB := hideR ((unhideR BB).trans (b.mono (unhideR BB).size))
        have R_P := hideR r
        have I_P := hideR i
        have S_P := hideR (is_small r i)
        have M_P : l_P ≤ 1000000 := unhideR S_P
        clear r i b
        have C := hideR (has_any _ _ _ _ n _ (unhideR R_P))
        rw [has_both (unhideR I_P) (unhideR HX) (unhideR HY) (unhideR HD)] at C
        go_wp2_with fail
        refine (unhideR C).mono ?_
        clear C
        rintro e w4 ⟨rfl, b⟩
        replace R_A := hideR ((unhideR R_A).later b (Nat.le_refl _))
        replace R_B := hideR ((unhideR R_B).later b (Nat.le_refl _))
        replace R_P := hideR ((unhideR R_P).later b (Nat.le_refl _))
        replace BB := hideR ((unhideR BB).trans (b.mono (unhideR BB).size))
        clear b
        clear R_P
        have C := hideR (rgEither_any _ _ _ _ _ _ _ _ _ (unhideR R_A) (unhideR R_B) (unhideR S_A) (unhideR S_B))
        go_wp2_with fail
        refine (unhideR C).mono ?_
        clear C
        rintro e w5 ⟨a_P, l_P, c_P, L_P, rfl, r, i, b⟩
        replace R_A := hideR ((unhideR R_A).later b (Nat.le_refl _))
        replace R_B := hideR ((unhideR R_B).later b (Nat.le_refl _))
        replace BB := hideR ((unhideR BB).trans (b.mono (unhideR BB).size))
        have R_P := hideR r
        have I_P := hideR i
        have S_P := hideR (is_small r i)
        have M_P : l_P ≤ 1000000 := unhideR S_P
        clear r i b
        have C := hideR (has_any _ _ _ _ n _ (unhideR R_P))
        rw [has_either (unhideR I_P) (unhideR HX) (unhideR HY) (unhideR HD)] at C
        go_wp2_with fail
        refine (unhideR C).mono ?_
        clear C
        rintro e w6 ⟨rfl, b⟩
        replace R_A := hideR ((unhideR R_A).later b (Nat.le_refl _))
        replace R_B := hideR ((unhideR R_B).later b (Nat.le_refl _))
        replace R_P := hideR ((unhideR R_P).later b (Nat.le_refl _))
        replace BB := hideR ((unhideR BB).trans (b.mono (unhideR BB).size))
        clear b
        clear R_P
        have C := hideR (rgLess_any _ _ _ _ _ _ _ _ _ (unhideR R_A) (unhideR R_B) (unhideR S_A) (unhideR S_B))
        go_wp2_with fail
        refine (unhideR C).mono ?_
        clear C
        rintro e w7 ⟨a_P, l_P, c_P, L_P, rfl, r, i, b⟩
        replace R_A := hideR ((unhideR R_A).later b (Nat.le_refl _))
        replace R_B := hideR ((unhideR R_B).later b (Nat.le_refl _))
        replace BB := hideR ((unhideR BB).trans (b.mono (unhideR BB).size))
        have R_P := hideR r
        have I_P := hideR i
        have S_P := hideR (is_small r i)
        have M_P : l_P ≤ 1000000 := unhideR S_P
        clear r i b
        have C := hideR (has_any _ _ _ _ n _ (unhideR R_P))
        rw [has_less (unhideR I_P) (unhideR HX) (unhideR HY) (unhideR HD)] at C
        go_wp2_with fail
        refine (unhideR C).mono ?_
        clear C
        rintro e w8 ⟨rfl, b⟩
        replace R_A := hideR ((unhideR R_A).later b (Nat.le_refl _))
        replace R_B := hideR ((unhideR R_B).later b (Nat.le_refl _))
        replace R_P := hideR ((unhideR R_P).later b (Nat.le_refl _))
        replace BB := hideR ((unhideR BB).trans (b.mono (unhideR BB).size))
        clear b
        clear R_P
        have C := hideR (rgNot_any _ _ _ _ 1114111 _ (unhideR R_A) (unhideR S_A) fits_max)
        go_wp2_with fail
        refine (unhideR C).mono ?_
        clear C
        rintro e w9 ⟨a_P, l_P, c_P, L_P, rfl, r, i, b⟩
        replace R_A := hideR ((unhideR R_A).later b (Nat.le_refl _))
        replace R_B := hideR ((unhideR R_B).later b (Nat.le_refl _))
        replace BB := hideR ((unhideR BB).trans (b.mono (unhideR BB).size))
        have R_P := hideR r
        have I_P := hideR i
        have S_P := hideR (is_small r i)
        have M_P : l_P ≤ 1000000 := unhideR S_P
        clear r i b
        have C := hideR (has_any _ _ _ _ n _ (unhideR R_P))
        rw [has_not (unhideR I_P) (unhideR HX) (unhideR HD)] at C
        go_wp2_with fail
        refine (unhideR C).mono ?_
        clear C
        rintro e w10 ⟨rfl, b⟩
        replace R_A := hideR ((unhideR R_A).later b (Nat.le_refl _))
        replace R_B := hideR ((unhideR R_B).later b (Nat.le_refl _))
        replace R_P := hideR ((unhideR R_P).later b (Nat.le_refl _))
        replace BB := hideR ((unhideR BB).trans (b.mono (unhideR BB).size))
        clear b
        clear R_P
        have C := hideR (normAn _ _ _ _ _ (unhideR R_A) (unhideR S_A))
        go_wp2_with fail
        refine (unhideR C).mono ?_
        clear C
        rintro e w11 ⟨a_P, l_P, c_P, L_P, rfl, r, i, b⟩
        replace R_A := hideR ((unhideR R_A).later b (Nat.le_refl _))
        replace R_B := hideR ((unhideR R_B).later b (Nat.le_refl _))
        replace BB := hideR ((unhideR BB).trans (b.mono (unhideR BB).size))
        have R_P := hideR r
        have I_P := hideR i
        have S_P := hideR (is_small r i)
        have M_P : l_P ≤ 1000000 := unhideR S_P
        clear r i b
        have C := hideR (has_any _ _ _ _ n _ (unhideR R_P))
        rw [has_norm (unhideR I_P) (unhideR HX) (unhideR HD)] at C
        go_wp2_with fail
        refine (unhideR C).mono ?_
        clear C
        rintro e w12 ⟨rfl, b⟩
        replace R_A := hideR ((unhideR R_A).later b (Nat.le_refl _))
        replace R_B := hideR ((unhideR R_B).later b (Nat.le_refl _))
        replace R_P := hideR ((unhideR R_P).later b (Nat.le_refl _))
        replace BB := hideR ((unhideR BB).trans (b.mono (unhideR BB).size))
        clear b
        go_wp2_with fail
        go_ret
        exact ⟨rfl, unhideR BB⟩

end Go.Proofs.Ytjflejfpjkoamaa
