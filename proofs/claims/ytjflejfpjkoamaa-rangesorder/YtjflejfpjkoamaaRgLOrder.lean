/- RangesOrder: walked. -/
import Derived.Test.YtjflejfpjkoamaaRgLawBase
namespace Go.Proofs.Ytjflejfpjkoamaa
open Go.RowKit
set_option linter.unusedVariables false

set_option maxHeartbeats 8000000 in
theorem rangesOrder_walk (a_A : Option Addr) (l_A c_A : Nat) (L_A : List (Int × Int)) (a_B : Option Addr) (l_B c_B : Nat) (L_B : List (Int × Int)) (w : World) (h_A : Rs w a_A l_A c_A L_A) (h_B : Rs w a_B l_B c_B L_B) :
    Calls Try.prog 6 #[.slice a_A l_A c_A, .slice a_B l_B c_B] w fun e w' => e = .returned (.bool true) ∧ Below w.heap.size w w' := by
  have m_A := h_A.hmax
  have k_A := h_A.hcap
  unfold maxLen at m_A
  have R_A := hideR h_A
  clear h_A
  have m_B := h_B.hmax
  have k_B := h_B.hcap
  unfold maxLen at m_B
  have R_B := hideR h_B
  clear h_B
  by_cases t_A : 60 < l_A
  · have t_A' : (60 : Int) < (l_A : Int) := by omega
    go_enter Try.func6, Try.ntmps6
    go_wp2_with fail
    refine (rgAwake_any _).mono ?_
    rintro e w0 ⟨rfl, b⟩
    go_wp2_with fail
    go_ret
    exact ⟨rfl, b⟩
  · have t_A' : (l_A : Int) ≤ 60 := by omega
    have S_A : Hid (l_A ≤ 1000000) := by show _ ≤ _; omega
    by_cases t_B : 60 < l_B
    · have t_B' : (60 : Int) < (l_B : Int) := by omega
      go_enter Try.func6, Try.ntmps6
      go_wp2_with fail
      refine (rgAwake_any _).mono ?_
      rintro e w0 ⟨rfl, b⟩
      go_wp2_with fail
      go_ret
      exact ⟨rfl, b⟩
    · have t_B' : (l_B : Int) ≤ 60 := by omega
      have S_B : Hid (l_B ≤ 1000000) := by show _ ≤ _; omega
      obtain ⟨mm, hmm⟩ : ∃ x, G.mayB L_A = x := ⟨_, rfl⟩
      have HM := hideR hmm
      clear hmm
      cases mm
      all_goals
        go_enter Try.func6, Try.ntmps6
        go_wp2_with fail
        refine (rgAwake_any _).mono ?_
        rintro e w0 ⟨rfl, b⟩
        have BB := hideR b
        replace R_A := hideR ((unhideR R_A).later b (Nat.le_refl _))
        replace R_B := hideR ((unhideR R_B).later b (Nat.le_refl _))
        clear b
        have C := hideR (normAn _ _ _ _ _ (unhideR R_A) (unhideR S_A))
        go_wp2_with fail
        refine (unhideR C).mono ?_
        clear C
        rintro e w1 ⟨a_X, l_X, c_X, L_X, rfl, r, i, b⟩
        replace R_A := hideR ((unhideR R_A).later b (Nat.le_refl _))
        replace R_B := hideR ((unhideR R_B).later b (Nat.le_refl _))
        replace BB := hideR ((unhideR BB).trans (b.mono (unhideR BB).size))
        have R_X := hideR r
        have I_X := hideR i
        have S_X := hideR (is_small r i)
        have M_X : l_X ≤ 1000000 := unhideR S_X
        clear r i b
        have C := hideR (rgMay_any _ _ _ _ _ (unhideR R_X))
        rw [(unhideR I_X).1] at C
        go_wp2_with fail
        refine (unhideR C).mono ?_
        clear C
        rintro e w2 ⟨rfl, b⟩
        replace R_A := hideR ((unhideR R_A).later b (Nat.le_refl _))
        replace R_B := hideR ((unhideR R_B).later b (Nat.le_refl _))
        replace R_X := hideR ((unhideR R_X).later b (Nat.le_refl _))
        replace BB := hideR ((unhideR BB).trans (b.mono (unhideR BB).size))
        clear b
        have C := hideR (rgBoth_any _ _ _ _ _ _ _ _ _ (unhideR R_A) (unhideR R_B) (unhideR S_A) (unhideR S_B))
        go_wp2_with fail
        refine (unhideR C).mono ?_
        clear C
        rintro e w3 ⟨a_P, l_P, c_P, L_P, rfl, r, i, b⟩
        replace R_A := hideR ((unhideR R_A).later b (Nat.le_refl _))
        replace R_B := hideR ((unhideR R_B).later b (Nat.le_refl _))
        replace R_X := hideR ((unhideR R_X).later b (Nat.le_refl _))
        replace BB := hideR ((unhideR BB).trans (b.mono (unhideR BB).size))
        have R_P := hideR r
        have I_P := hideR i
        have S_P := hideR (is_small r i)
        have M_P : l_P ≤ 1000000 := unhideR S_P
        clear r i b
        have C := hideR (rgMay_any _ _ _ _ _ (unhideR R_P))
        rw [(unhideR I_P).1] at C
        go_wp2_with fail
        refine (unhideR C).mono ?_
        clear C
        rintro e w4 ⟨rfl, b⟩
        replace R_A := hideR ((unhideR R_A).later b (Nat.le_refl _))
        replace R_B := hideR ((unhideR R_B).later b (Nat.le_refl _))
        replace R_X := hideR ((unhideR R_X).later b (Nat.le_refl _))
        replace R_P := hideR ((unhideR R_P).later b (Nat.le_refl _))
        replace BB := hideR ((unhideR BB).trans (b.mono (unhideR BB).size))
        clear b
        clear R_P
        have C := hideR (rgEither_any _ _ _ _ _ _ _ _ _ (unhideR R_A) (unhideR R_B) (unhideR S_A) (unhideR S_B))
        go_wp2_with fail
        refine (unhideR C).mono ?_
        clear C
        rintro e w5 ⟨a_P, l_P, c_P, L_P, rfl, r, i, b⟩
        replace R_A := hideR ((unhideR R_A).later b (Nat.le_refl _))
        replace R_B := hideR ((unhideR R_B).later b (Nat.le_refl _))
        replace R_X := hideR ((unhideR R_X).later b (Nat.le_refl _))
        replace BB := hideR ((unhideR BB).trans (b.mono (unhideR BB).size))
        have R_P := hideR r
        have I_P := hideR i
        have S_P := hideR (is_small r i)
        have M_P : l_P ≤ 1000000 := unhideR S_P
        clear r i b
        have C := hideR (rgMay_any _ _ _ _ _ (unhideR R_P))
        rw [(unhideR I_P).1] at C
        go_wp2_with fail
        refine (unhideR C).mono ?_
        clear C
        rintro e w6 ⟨rfl, b⟩
        replace R_A := hideR ((unhideR R_A).later b (Nat.le_refl _))
        replace R_B := hideR ((unhideR R_B).later b (Nat.le_refl _))
        replace R_X := hideR ((unhideR R_X).later b (Nat.le_refl _))
        replace R_P := hideR ((unhideR R_P).later b (Nat.le_refl _))
        replace BB := hideR ((unhideR BB).trans (b.mono (unhideR BB).size))
        clear b
        clear R_P
        have C := hideR (rgLess_any _ _ _ _ _ _ _ _ _ (unhideR R_A) (unhideR R_B) (unhideR S_A) (unhideR S_B))
        go_wp2_with fail
        refine (unhideR C).mono ?_
        clear C
        rintro e w7 ⟨a_P, l_P, c_P, L_P, rfl, r, i, b⟩
        replace R_A := hideR ((unhideR R_A).later b (Nat.le_refl _))
        replace R_B := hideR ((unhideR R_B).later b (Nat.le_refl _))
        replace R_X := hideR ((unhideR R_X).later b (Nat.le_refl _))
        replace BB := hideR ((unhideR BB).trans (b.mono (unhideR BB).size))
        have R_P := hideR r
        have I_P := hideR i
        have S_P := hideR (is_small r i)
        have M_P : l_P ≤ 1000000 := unhideR S_P
        clear r i b
        have C := hideR (rgMay_any _ _ _ _ _ (unhideR R_P))
        rw [(unhideR I_P).1] at C
        go_wp2_with fail
        refine (unhideR C).mono ?_
        clear C
        rintro e w8 ⟨rfl, b⟩
        replace R_A := hideR ((unhideR R_A).later b (Nat.le_refl _))
        replace R_B := hideR ((unhideR R_B).later b (Nat.le_refl _))
        replace R_X := hideR ((unhideR R_X).later b (Nat.le_refl _))
        replace R_P := hideR ((unhideR R_P).later b (Nat.le_refl _))
        replace BB := hideR ((unhideR BB).trans (b.mono (unhideR BB).size))
        clear b
        clear R_P
        have HS := hideR (order_same (unhideR I_X))
        rw [unhideR HM] at HS
        have C := hideR (rgMay_any _ _ _ _ _ (unhideR R_A))
        rw [unhideR HM] at C
        go_wp2_with fail
        refine (unhideR C).mono ?_
        clear C
        rintro e w9 ⟨rfl, b⟩
        replace R_A := hideR ((unhideR R_A).later b (Nat.le_refl _))
        replace R_B := hideR ((unhideR R_B).later b (Nat.le_refl _))
        replace R_X := hideR ((unhideR R_X).later b (Nat.le_refl _))
        replace BB := hideR ((unhideR BB).trans (b.mono (unhideR BB).size))
        clear b
        have C := hideR (rgSame_any _ _ _ _ _ _ _ _ _ (unhideR R_X) (unhideR R_A))
        rw [unhideR HS] at C
        go_wp2_with fail
        refine (unhideR C).mono ?_
        clear C
        rintro e w10 ⟨rfl, b⟩
        replace R_A := hideR ((unhideR R_A).later b (Nat.le_refl _))
        replace R_B := hideR ((unhideR R_B).later b (Nat.le_refl _))
        replace R_X := hideR ((unhideR R_X).later b (Nat.le_refl _))
        replace BB := hideR ((unhideR BB).trans (b.mono (unhideR BB).size))
        clear b
        have C := hideR (normAn _ _ _ _ _ (unhideR R_B) (unhideR S_B))
        go_wp2_with fail
        refine (unhideR C).mono ?_
        clear C
        rintro e w11 ⟨a_Y, l_Y, c_Y, L_Y, rfl, r, i, b⟩
        replace R_A := hideR ((unhideR R_A).later b (Nat.le_refl _))
        replace R_B := hideR ((unhideR R_B).later b (Nat.le_refl _))
        replace R_X := hideR ((unhideR R_X).later b (Nat.le_refl _))
        replace BB := hideR ((unhideR BB).trans (b.mono (unhideR BB).size))
        have R_Y := hideR r
        have I_Y := hideR i
        have S_Y := hideR (is_small r i)
        have M_Y : l_Y ≤ 1000000 := unhideR S_Y
        clear r i b
        have C := hideR (rgLess_any _ _ _ _ _ _ _ _ _ (unhideR R_A) (unhideR R_B) (unhideR S_A) (unhideR S_B))
        go_wp2_with fail
        refine (unhideR C).mono ?_
        clear C
        rintro e w12 ⟨a_P, l_P, c_P, L_P, rfl, r, i, b⟩
        replace R_A := hideR ((unhideR R_A).later b (Nat.le_refl _))
        replace R_B := hideR ((unhideR R_B).later b (Nat.le_refl _))
        replace R_X := hideR ((unhideR R_X).later b (Nat.le_refl _))
        replace R_Y := hideR ((unhideR R_Y).later b (Nat.le_refl _))
        replace BB := hideR ((unhideR BB).trans (b.mono (unhideR BB).size))
        have R_P := hideR r
        have I_P := hideR i
        have S_P := hideR (is_small r i)
        have M_P : l_P ≤ 1000000 := unhideR S_P
        clear r i b
        by_cases p0 : l_P = 0
        · have e1 : ((l_P : Int) == 0) = true := by rw [beq_iff_eq]; omega
          have C := hideR (rgLess_any _ _ _ _ _ _ _ _ _ (unhideR R_B) (unhideR R_A) (unhideR S_B) (unhideR S_A))
          go_wp2_with fail
          refine (unhideR C).mono ?_
          clear C
          rintro e w13 ⟨a_Q, l_Q, c_Q, L_Q, rfl, r, i, b⟩
          replace R_A := hideR ((unhideR R_A).later b (Nat.le_refl _))
          replace R_B := hideR ((unhideR R_B).later b (Nat.le_refl _))
          replace R_X := hideR ((unhideR R_X).later b (Nat.le_refl _))
          replace R_Y := hideR ((unhideR R_Y).later b (Nat.le_refl _))
          replace R_P := hideR ((unhideR R_P).later b (Nat.le_refl _))
          replace BB := hideR ((unhideR BB).trans (b.mono (unhideR BB).size))
          have R_Q := hideR r
          have I_Q := hideR i
          have S_Q := hideR (is_small r i)
          have M_Q : l_Q ≤ 1000000 := unhideR S_Q
          clear r i b
          by_cases p1 : l_Q = 0
          · have e2 : ((l_Q : Int) == 0) = true := by rw [beq_iff_eq]; omega
            have C := hideR (rgSame_any _ _ _ _ _ _ _ _ _ (unhideR R_X) (unhideR R_Y))
            rw [order_yes (unhideR I_X) (unhideR I_Y) (unhideR I_P) (unhideR I_Q) (by have := (unhideR R_P).hlen; omega) (by have := (unhideR R_Q).hlen; omega)] at C
            go_wp2_with fail
            refine (unhideR C).mono ?_
            clear C
            rintro e w14 ⟨rfl, b⟩
            replace R_A := hideR ((unhideR R_A).later b (Nat.le_refl _))
            replace R_B := hideR ((unhideR R_B).later b (Nat.le_refl _))
            replace R_X := hideR ((unhideR R_X).later b (Nat.le_refl _))
            replace R_Y := hideR ((unhideR R_Y).later b (Nat.le_refl _))
            replace R_P := hideR ((unhideR R_P).later b (Nat.le_refl _))
            replace R_Q := hideR ((unhideR R_Q).later b (Nat.le_refl _))
            replace BB := hideR ((unhideR BB).trans (b.mono (unhideR BB).size))
            clear b
            go_wp2_with fail
            go_ret
            exact ⟨rfl, unhideR BB⟩
          · have e2 : ((l_Q : Int) == 0) = false := by rw [beq_eq_false_iff_ne]; omega
            have C := hideR (rgSame_any _ _ _ _ _ _ _ _ _ (unhideR R_X) (unhideR R_Y))
            rw [order_no2 (unhideR I_X) (unhideR I_Y) (unhideR I_Q) (by have := (unhideR R_Q).hlen; omega)] at C
            go_wp2_with fail
            refine (unhideR C).mono ?_
            clear C
            rintro e w14 ⟨rfl, b⟩
            replace R_A := hideR ((unhideR R_A).later b (Nat.le_refl _))
            replace R_B := hideR ((unhideR R_B).later b (Nat.le_refl _))
            replace R_X := hideR ((unhideR R_X).later b (Nat.le_refl _))
            replace R_Y := hideR ((unhideR R_Y).later b (Nat.le_refl _))
            replace R_P := hideR ((unhideR R_P).later b (Nat.le_refl _))
            replace R_Q := hideR ((unhideR R_Q).later b (Nat.le_refl _))
            replace BB := hideR ((unhideR BB).trans (b.mono (unhideR BB).size))
            clear b
            go_wp2_with fail
            go_ret
            exact ⟨rfl, unhideR BB⟩
        · have e1 : ((l_P : Int) == 0) = false := by rw [beq_eq_false_iff_ne]; omega
          have C := hideR (rgSame_any _ _ _ _ _ _ _ _ _ (unhideR R_X) (unhideR R_Y))
          rw [order_no1 (unhideR I_X) (unhideR I_Y) (unhideR I_P) (by have := (unhideR R_P).hlen; omega)] at C
          go_wp2_with fail
          refine (unhideR C).mono ?_
          clear C
          rintro e w13 ⟨rfl, b⟩
          replace R_A := hideR ((unhideR R_A).later b (Nat.le_refl _))
          replace R_B := hideR ((unhideR R_B).later b (Nat.le_refl _))
          replace R_X := hideR ((unhideR R_X).later b (Nat.le_refl _))
          replace R_Y := hideR ((unhideR R_Y).later b (Nat.le_refl _))
          replace R_P := hideR ((unhideR R_P).later b (Nat.le_refl _))
          replace BB := hideR ((unhideR BB).trans (b.mono (unhideR BB).size))
          clear b
          go_wp2_with fail
          go_ret
          exact ⟨rfl, unhideR BB⟩

end Go.Proofs.Ytjflejfpjkoamaa
