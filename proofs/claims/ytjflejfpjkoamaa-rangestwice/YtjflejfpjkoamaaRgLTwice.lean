/- RangesTwice: walked. -/
import Derived.Test.YtjflejfpjkoamaaRgLawBase
namespace Go.Proofs.Ytjflejfpjkoamaa
open Go.RowKit
set_option linter.unusedVariables false

set_option maxHeartbeats 8000000 in
theorem rangesTwice_walk (a_A : Option Addr) (l_A c_A : Nat) (L_A : List (Int × Int)) (a_B : Option Addr) (l_B c_B : Nat) (L_B : List (Int × Int)) (a_C : Option Addr) (l_C c_C : Nat) (L_C : List (Int × Int)) (w : World) (h_A : Rs w a_A l_A c_A L_A) (h_B : Rs w a_B l_B c_B L_B) (h_C : Rs w a_C l_C c_C L_C) :
    Calls Try.prog 8 #[.slice a_A l_A c_A, .slice a_B l_B c_B, .slice a_C l_C c_C] w fun e w' => e = .returned (.bool true) ∧ Below w.heap.size w w' := by
  have m_A := h_A.hmax
  have k_A := h_A.hcap
  unfold maxLen at m_A
  have R_A := hideR h_A
  clear h_A
  have m_B := h_B.hmax
  have k_B := h_B.hcap
  unfold maxLen at m_B
  have R_B := hideR h_B
  clear h_B
  have m_C := h_C.hmax
  have k_C := h_C.hcap
  unfold maxLen at m_C
  have R_C := hideR h_C
  clear h_C
  by_cases t_A : 60 < l_A
  · have t_A' : (60 : Int) < (l_A : Int) := by omega
    go_enter Try.func8, Try.ntmps8
    go_wp2_with fail
    refine (rgAwake_any _).mono ?_
    rintro e w0 ⟨rfl, b⟩
    go_wp2_with fail
    go_ret
    exact ⟨rfl, b⟩
  · have t_A' : (l_A : Int) ≤ 60 := by omega
    have S_A : Hid (l_A ≤ 1000000) := by show _ ≤ _; omega
    by_cases t_B : 60 < l_B
    · have t_B' : (60 : Int) < (l_B : Int) := by omega
      go_enter Try.func8, Try.ntmps8
      go_wp2_with fail
      refine (rgAwake_any _).mono ?_
      rintro e w0 ⟨rfl, b⟩
      go_wp2_with fail
      go_ret
      exact ⟨rfl, b⟩
    · have t_B' : (l_B : Int) ≤ 60 := by omega
      have S_B : Hid (l_B ≤ 1000000) := by show _ ≤ _; omega
      by_cases t_C : 60 < l_C
      · have t_C' : (60 : Int) < (l_C : Int) := by omega
        go_enter Try.func8, Try.ntmps8
        go_wp2_with fail
        refine (rgAwake_any _).mono ?_
        rintro e w0 ⟨rfl, b⟩
        go_wp2_with fail
        go_ret
        exact ⟨rfl, b⟩
      · have t_C' : (l_C : Int) ≤ 60 := by omega
        have S_C : Hid (l_C ≤ 1000000) := by show _ ≤ _; omega
        go_enter Try.func8, Try.ntmps8
        go_wp2_with fail
        refine (rgAwake_any _).mono ?_
        rintro e w0 ⟨rfl, b⟩
        have BB := hideR b
        replace R_A := hideR ((unhideR R_A).later b (Nat.le_refl _))
        replace R_B := hideR ((unhideR R_B).later b (Nat.le_refl _))
        replace R_C := hideR ((unhideR R_C).later b (Nat.le_refl _))
        clear b
        have C := hideR (rgNot_any _ _ _ _ 1114111 _ (unhideR R_A) (unhideR S_A) fits_max)
        go_wp2_with fail
        refine (unhideR C).mono ?_
        clear C
        rintro e w1 ⟨a_X, l_X, c_X, L_X, rfl, r, i, b⟩
        replace R_A := hideR ((unhideR R_A).later b (Nat.le_refl _))
        replace R_B := hideR ((unhideR R_B).later b (Nat.le_refl _))
        replace R_C := hideR ((unhideR R_C).later b (Nat.le_refl _))
        replace BB := hideR ((unhideR BB).trans (b.mono (unhideR BB).size))
        have R_X := hideR r
        have I_X := hideR i
        have S_X := hideR (is_small r i)
        have M_X : l_X ≤ 1000000 := unhideR S_X
        clear r i b
        have C := hideR (rgNot_any _ _ _ _ 1114111 _ (unhideR R_B) (unhideR S_B) fits_max)
        go_wp2_with fail
        refine (unhideR C).mono ?_
        clear C
        rintro e w2 ⟨a_Y, l_Y, c_Y, L_Y, rfl, r, i, b⟩
        replace R_A := hideR ((unhideR R_A).later b (Nat.le_refl _))
        replace R_B := hideR ((unhideR R_B).later b (Nat.le_refl _))
        replace R_C := hideR ((unhideR R_C).later b (Nat.le_refl _))
        replace R_X := hideR ((unhideR R_X).later b (Nat.le_refl _))
        replace BB := hideR ((unhideR BB).trans (b.mono (unhideR BB).size))
        have R_Y := hideR r
        have I_Y := hideR i
        have S_Y := hideR (is_small r i)
        have M_Y : l_Y ≤ 1000000 := unhideR S_Y
        clear r i b
        have C := hideR (rgNot_any _ _ _ _ 1114111 _ (unhideR R_X) (unhideR S_X) fits_max)
        go_wp2_with fail
        refine (unhideR C).mono ?_
        clear C
        rintro e w3 ⟨a_P, l_P, c_P, L_P, rfl, r, i, b⟩
        replace R_A := hideR ((unhideR R_A).later b (Nat.le_refl _))
        replace R_B := hideR ((unhideR R_B).later b (Nat.le_refl _))
        replace R_C := hideR ((unhideR R_C).later b (Nat.le_refl _))
        replace R_X := hideR ((unhideR R_X).later b (Nat.le_refl _))
        replace R_Y := hideR ((unhideR R_Y).later b (Nat.le_refl _))
        replace BB := hideR ((unhideR BB).trans (b.mono (unhideR BB).size))
        have R_P := hideR r
        have I_P := hideR i
        have S_P := hideR (is_small r i)
        have M_P : l_P ≤ 1000000 := unhideR S_P
        clear r i b
        have C := hideR (normAn _ _ _ _ _ (unhideR R_A) (unhideR S_A))
        go_wp2_with fail
        refine (unhideR C).mono ?_
        clear C
        rintro e w4 ⟨a_Q, l_Q, c_Q, L_Q, rfl, r, i, b⟩
        replace R_A := hideR ((unhideR R_A).later b (Nat.le_refl _))
        replace R_B := hideR ((unhideR R_B).later b (Nat.le_refl _))
        replace R_C := hideR ((unhideR R_C).later b (Nat.le_refl _))
        replace R_X := hideR ((unhideR R_X).later b (Nat.le_refl _))
        replace R_Y := hideR ((unhideR R_Y).later b (Nat.le_refl _))
        replace R_P := hideR ((unhideR R_P).later b (Nat.le_refl _))
        replace BB := hideR ((unhideR BB).trans (b.mono (unhideR BB).size))
        have R_Q := hideR r
        have I_Q := hideR i
        have S_Q := hideR (is_small r i)
        have M_Q : l_Q ≤ 1000000 := unhideR S_Q
        clear r i b
        have C := hideR (rgSame_any _ _ _ _ _ _ _ _ _ (unhideR R_P) (unhideR R_Q))
        rw [same_yes ((unhideR I_P).unique (unhideR I_Q) (fun n => by rw [notP_max, nrm_is (unhideR I_X), notP_max]; exact tw1 _ _))] at C
        go_wp2_with fail
        refine (unhideR C).mono ?_
        clear C
        rintro e w5 ⟨rfl, b⟩
        replace R_A := hideR ((unhideR R_A).later b (Nat.le_refl _))
        replace R_B := hideR ((unhideR R_B).later b (Nat.le_refl _))
        replace R_C := hideR ((unhideR R_C).later b (Nat.le_refl _))
        replace R_X := hideR ((unhideR R_X).later b (Nat.le_refl _))
        replace R_Y := hideR ((unhideR R_Y).later b (Nat.le_refl _))
        replace R_P := hideR ((unhideR R_P).later b (Nat.le_refl _))
        replace R_Q := hideR ((unhideR R_Q).later b (Nat.le_refl _))
        replace BB := hideR ((unhideR BB).trans (b.mono (unhideR BB).size))
        clear b
        clear R_P
        clear R_Q
        have C := hideR (rgEither_any _ _ _ _ _ _ _ _ _ (unhideR R_A) (unhideR R_B) (unhideR S_A) (unhideR S_B))
        go_wp2_with fail
        refine (unhideR C).mono ?_
        clear C
        rintro e w6 ⟨a_P, l_P, c_P, L_P, rfl, r, i, b⟩
        replace R_A := hideR ((unhideR R_A).later b (Nat.le_refl _))
        replace R_B := hideR ((unhideR R_B).later b (Nat.le_refl _))
        replace R_C := hideR ((unhideR R_C).later b (Nat.le_refl _))
        replace R_X := hideR ((unhideR R_X).later b (Nat.le_refl _))
        replace R_Y := hideR ((unhideR R_Y).later b (Nat.le_refl _))
        replace BB := hideR ((unhideR BB).trans (b.mono (unhideR BB).size))
        have R_P := hideR r
        have I_P := hideR i
        have S_P := hideR (is_small r i)
        have M_P : l_P ≤ 1000000 := unhideR S_P
        clear r i b
        have C := hideR (rgNot_any _ _ _ _ 1114111 _ (unhideR R_P) (unhideR S_P) fits_max)
        go_wp2_with fail
        refine (unhideR C).mono ?_
        clear C
        rintro e w7 ⟨a_Q, l_Q, c_Q, L_Q, rfl, r, i, b⟩
        replace R_A := hideR ((unhideR R_A).later b (Nat.le_refl _))
        replace R_B := hideR ((unhideR R_B).later b (Nat.le_refl _))
        replace R_C := hideR ((unhideR R_C).later b (Nat.le_refl _))
        replace R_X := hideR ((unhideR R_X).later b (Nat.le_refl _))
        replace R_Y := hideR ((unhideR R_Y).later b (Nat.le_refl _))
        replace R_P := hideR ((unhideR R_P).later b (Nat.le_refl _))
        replace BB := hideR ((unhideR BB).trans (b.mono (unhideR BB).size))
        have R_Q := hideR r
        have I_Q := hideR i
        have S_Q := hideR (is_small r i)
        have M_Q : l_Q ≤ 1000000 := unhideR S_Q
        clear r i b
        have C := hideR (rgBoth_any _ _ _ _ _ _ _ _ _ (unhideR R_X) (unhideR R_Y) (unhideR S_X) (unhideR S_Y))
        go_wp2_with fail
        refine (unhideR C).mono ?_
        clear C
        rintro e w8 ⟨a_V, l_V, c_V, L_V, rfl, r, i, b⟩
        replace R_A := hideR ((unhideR R_A).later b (Nat.le_refl _))
        replace R_B := hideR ((unhideR R_B).later b (Nat.le_refl _))
        replace R_C := hideR ((unhideR R_C).later b (Nat.le_refl _))
        replace R_X := hideR ((unhideR R_X).later b (Nat.le_refl _))
        replace R_Y := hideR ((unhideR R_Y).later b (Nat.le_refl _))
        replace R_P := hideR ((unhideR R_P).later b (Nat.le_refl _))
        replace R_Q := hideR ((unhideR R_Q).later b (Nat.le_refl _))
        replace BB := hideR ((unhideR BB).trans (b.mono (unhideR BB).size))
        have R_V := hideR r
        have I_V := hideR i
        have S_V := hideR (is_small r i)
        have M_V : l_V ≤ 1000000 := unhideR S_V
        clear r i b
        have C := hideR (rgSame_any _ _ _ _ _ _ _ _ _ (unhideR R_Q) (unhideR R_V))
        rw [same_yes ((unhideR I_Q).unique (unhideR I_V) (fun n => by rw [notP_max, nrm_is (unhideR I_P), nrm_is (unhideR I_X), nrm_is (unhideR I_Y), notP_max, notP_max]; exact tw2 _ _ _))] at C
        go_wp2_with fail
        refine (unhideR C).mono ?_
        clear C
        rintro e w9 ⟨rfl, b⟩
        replace R_A := hideR ((unhideR R_A).later b (Nat.le_refl _))
        replace R_B := hideR ((unhideR R_B).later b (Nat.le_refl _))
        replace R_C := hideR ((unhideR R_C).later b (Nat.le_refl _))
        replace R_X := hideR ((unhideR R_X).later b (Nat.le_refl _))
        replace R_Y := hideR ((unhideR R_Y).later b (Nat.le_refl _))
        replace R_P := hideR ((unhideR R_P).later b (Nat.le_refl _))
        replace R_Q := hideR ((unhideR R_Q).later b (Nat.le_refl _))
        replace R_V := hideR ((unhideR R_V).later b (Nat.le_refl _))
        replace BB := hideR ((unhideR BB).trans (b.mono (unhideR BB).size))
        clear b
        clear R_P
        clear R_Q
        clear R_V
        clear R_X
        clear R_Y
        have C := hideR (rgLess_any _ _ _ _ _ _ _ _ _ (unhideR R_A) (unhideR R_B) (unhideR S_A) (unhideR S_B))
        go_wp2_with fail
        refine (unhideR C).mono ?_
        clear C
        rintro e w10 ⟨a_P, l_P, c_P, L_P, rfl, r, i, b⟩
        replace R_A := hideR ((unhideR R_A).later b (Nat.le_refl _))
        replace R_B := hideR ((unhideR R_B).later b (Nat.le_refl _))
        replace R_C := hideR ((unhideR R_C).later b (Nat.le_refl _))
        replace BB := hideR ((unhideR BB).trans (b.mono (unhideR BB).size))
        have R_P := hideR r
        have I_P := hideR i
        have S_P := hideR (is_small r i)
        have M_P : l_P ≤ 1000000 := unhideR S_P
        clear r i b
        have C := hideR (rgLess_any _ _ _ _ _ _ _ _ _ (unhideR R_P) (unhideR R_C) (unhideR S_P) (unhideR S_C))
        go_wp2_with fail
        refine (unhideR C).mono ?_
        clear C
        rintro e w11 ⟨a_Q, l_Q, c_Q, L_Q, rfl, r, i, b⟩
        replace R_A := hideR ((unhideR R_A).later b (Nat.le_refl _))
        replace R_B := hideR ((unhideR R_B).later b (Nat.le_refl _))
        replace R_C := hideR ((unhideR R_C).later b (Nat.le_refl _))
        replace R_P := hideR ((unhideR R_P).later b (Nat.le_refl _))
        replace BB := hideR ((unhideR BB).trans (b.mono (unhideR BB).size))
        have R_Q := hideR r
        have I_Q := hideR i
        have S_Q := hideR (is_small r i)
        have M_Q : l_Q ≤ 1000000 := unhideR S_Q
        clear r i b
        have C := hideR (rgEither_any _ _ _ _ _ _ _ _ _ (unhideR R_B) (unhideR R_C) (unhideR S_B) (unhideR S_C))
        go_wp2_with fail
        refine (unhideR C).mono ?_
        clear C
        rintro e w12 ⟨a_V, l_V, c_V, L_V, rfl, r, i, b⟩
        replace R_A := hideR ((unhideR R_A).later b (Nat.le_refl _))
        replace R_B := hideR ((unhideR R_B).later b (Nat.le_refl _))
        replace R_C := hideR ((unhideR R_C).later b (Nat.le_refl _))
        replace R_P := hideR ((unhideR R_P).later b (Nat.le_refl _))
        replace R_Q := hideR ((unhideR R_Q).later b (Nat.le_refl _))
        replace BB := hideR ((unhideR BB).trans (b.mono (unhideR BB).size))
        have R_V := hideR r
        have I_V := hideR i
        have S_V := hideR (is_small r i)
        have M_V : l_V ≤ 1000000 := unhideR S_V
        clear r i b
        have C := hideR (rgLess_any _ _ _ _ _ _ _ _ _ (unhideR R_A) (unhideR R_V) (unhideR S_A) (unhideR S_V))
        go_wp2_with fail
        refine (unhideR C).mono ?_
        clear C
        rintro e w13 ⟨a_Z, l_Z, c_Z, L_Z, rfl, r, i, b⟩
        replace R_A := hideR ((unhideR R_A).later b (Nat.le_refl _))
        replace R_B := hideR ((unhideR R_B).later b (Nat.le_refl _))
        replace R_C := hideR ((unhideR R_C).later b (Nat.le_refl _))
        replace R_P := hideR ((unhideR R_P).later b (Nat.le_refl _))
        replace R_Q := hideR ((unhideR R_Q).later b (Nat.le_refl _))
        replace R_V := hideR ((unhideR R_V).later b (Nat.le_refl _))
        replace BB := hideR ((unhideR BB).trans (b.mono (unhideR BB).size))
        have R_Z := hideR r
        have I_Z := hideR i
        have S_Z := hideR (is_small r i)
        have M_Z : l_Z ≤ 1000000 := unhideR S_Z
        clear r i b
        have C := hideR (rgSame_any _ _ _ _ _ _ _ _ _ (unhideR R_Q) (unhideR R_Z))
        rw [same_yes ((unhideR I_Q).unique (unhideR I_Z) (fun n => by rw [nrm_is (unhideR I_P), nrm_is (unhideR I_V)]; exact tw3 _ _ _))] at C
        go_wp2_with fail
        refine (unhideR C).mono ?_
        clear C
        rintro e w14 ⟨rfl, b⟩
        replace R_A := hideR ((unhideR R_A).later b (Nat.le_refl _))
        replace R_B := hideR ((unhideR R_B).later b (Nat.le_refl _))
        replace R_C := hideR ((unhideR R_C).later b (Nat.le_refl _))
        replace R_P := hideR ((unhideR R_P).later b (Nat.le_refl _))
        replace R_Q := hideR ((unhideR R_Q).later b (Nat.le_refl _))
        replace R_V := hideR ((unhideR R_V).later b (Nat.le_refl _))
        replace R_Z := hideR ((unhideR R_Z).later b (Nat.le_refl _))
        replace BB := hideR ((unhideR BB).trans (b.mono (unhideR BB).size))
        clear b
        clear R_P
        clear R_Q
        clear R_V
        clear R_Z
        have C := hideR (rgBoth_any _ _ _ _ _ _ _ _ _ (unhideR R_A) (unhideR R_B) (unhideR S_A) (unhideR S_B))
        go_wp2_with fail
        refine (unhideR C).mono ?_
        clear C
        rintro e w15 ⟨a_P, l_P, c_P, L_P, rfl, r, i, b⟩
        replace R_A := hideR ((unhideR R_A).later b (Nat.le_refl _))
        replace R_B := hideR ((unhideR R_B).later b (Nat.le_refl _))
        replace R_C := hideR ((unhideR R_C).later b (Nat.le_refl _))
        replace BB := hideR ((unhideR BB).trans (b.mono (unhideR BB).size))
        have R_P := hideR r
        have I_P := hideR i
        have S_P := hideR (is_small r i)
        have M_P : l_P ≤ 1000000 := unhideR S_P
        clear r i b
        have C := hideR (rgBoth_any _ _ _ _ _ _ _ _ _ (unhideR R_B) (unhideR R_A) (unhideR S_B) (unhideR S_A))
        go_wp2_with fail
        refine (unhideR C).mono ?_
        clear C
        rintro e w16 ⟨a_Q, l_Q, c_Q, L_Q, rfl, r, i, b⟩
        replace R_A := hideR ((unhideR R_A).later b (Nat.le_refl _))
        replace R_B := hideR ((unhideR R_B).later b (Nat.le_refl _))
        replace R_C := hideR ((unhideR R_C).later b (Nat.le_refl _))
        replace R_P := hideR ((unhideR R_P).later b (Nat.le_refl _))
        replace BB := hideR ((unhideR BB).trans (b.mono (unhideR BB).size))
        have R_Q := hideR r
        have I_Q := hideR i
        have S_Q := hideR (is_small r i)
        have M_Q : l_Q ≤ 1000000 := unhideR S_Q
        clear r i b
        have C := hideR (rgSame_any _ _ _ _ _ _ _ _ _ (unhideR R_P) (unhideR R_Q))
        rw [same_yes ((unhideR I_P).unique (unhideR I_Q) (fun n => Bool.and_comm _ _))] at C
        go_wp2_with fail
        refine (unhideR C).mono ?_
        clear C
        rintro e w17 ⟨rfl, b⟩
        replace R_A := hideR ((unhideR R_A).later b (Nat.le_refl _))
        replace R_B := hideR ((unhideR R_B).later b (Nat.le_refl _))
        replace R_C := hideR ((unhideR R_C).later b (Nat.le_refl _))
        replace R_P := hideR ((unhideR R_P).later b (Nat.le_refl _))
        replace R_Q := hideR ((unhideR R_Q).later b (Nat.le_refl _))
        replace BB := hideR ((unhideR BB).trans (b.mono (unhideR BB).size))
        clear b
        go_wp2_with fail
        go_ret
        exact ⟨rfl, unhideR BB⟩

end Go.Proofs.Ytjflejfpjkoamaa
