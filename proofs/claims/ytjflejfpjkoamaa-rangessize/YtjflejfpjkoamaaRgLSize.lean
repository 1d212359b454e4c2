/- RangesSize: walked. -/
import Derived.Test.YtjflejfpjkoamaaRgLawBase
namespace Go.Proofs.Ytjflejfpjkoamaa
open Go.RowKit
set_option linter.unusedVariables false

set_option maxHeartbeats 8000000 in
theorem rangesSize_walk (a_A : Option Addr) (l_A c_A : Nat) (L_A : List (Int × Int)) (a_B : Option Addr) (l_B c_B : Nat) (L_B : List (Int × Int)) (w : World) (h_A : Rs w a_A l_A c_A L_A) (h_B : Rs w a_B l_B c_B L_B) :
    Calls Try.prog 7 #[.slice a_A l_A c_A, .slice a_B l_B c_B] w fun e w' => e = .returned (.bool true) ∧ Below w.heap.size w w' := by
  have m_A := h_A.hmax
  have k_A := h_A.hcap
  unfold maxLen at m_A
  have R_A := hideR h_A
  clear h_A
  have m_B := h_B.hmax
  have k_B := h_B.hcap
  unfold maxLen at m_B
  have R_B := hideR h_B
  clear h_B
  by_cases t_A : 60 < l_A
  · have t_A' : (60 : Int) < (l_A : Int) := by omega
    go_enter Try.func7, Try.ntmps7
    go_wp2_with fail
    refine (rgAwake_any _).mono ?_
    rintro e w0 ⟨rfl, b⟩
    go_wp2_with fail
    go_ret
    exact ⟨rfl, b⟩
  · have t_A' : (l_A : Int) ≤ 60 := by omega
    have S_A : Hid (l_A ≤ 1000000) := by show _ ≤ _; omega
    by_cases t_B : 60 < l_B
    · have t_B' : (60 : Int) < (l_B : Int) := by omega
      go_enter Try.func7, Try.ntmps7
      go_wp2_with fail
      refine (rgAwake_any _).mono ?_
      rintro e w0 ⟨rfl, b⟩
      go_wp2_with fail
      go_ret
      exact ⟨rfl, b⟩
    · have t_B' : (l_B : Int) ≤ 60 := by omega
      have S_B : Hid (l_B ≤ 1000000) := by show _ ≤ _; omega
      go_enter Try.func7, Try.ntmps7
      go_wp2_with fail
      refine (rgAwake_any _).mono ?_
      rintro e w0 ⟨rfl, b⟩
      have BB := hideR b
      replace R_A := hideR ((unhideR R_A).later b (Nat.le_refl _))
      replace R_B := hideR ((unhideR R_B).later b (Nat.le_refl _))
      clear b
      have C := hideR (rgBoth_any _ _ _ _ _ _ _ _ _ (unhideR R_A) (unhideR R_B) (unhideR S_A) (unhideR S_B))
      go_wp2_with fail
      refine (unhideR C).mono ?_
      clear C
      rintro e w1 ⟨a_P, l_P, c_P, L_P, rfl, r, i, b⟩
      replace R_A := hideR ((unhideR R_A).later b (Nat.le_refl _))
      replace R_B := hideR ((unhideR R_B).later b (Nat.le_refl _))
      replace BB := hideR ((unhideR BB).trans (b.mono (unhideR BB).size))
      have R_P := hideR r
      have I_P := hideR i
      have S_P := hideR (is_small r i)
      have M_P : l_P ≤ 1000000 := unhideR S_P
      clear r i b
      obtain ⟨z1, hz1⟩ : ∃ z, G.size (nrm L_P) = z := ⟨_, rfl⟩
      have z1b := G.size_bounds (nrm L_P)
      rw [hz1] at z1b
      obtain ⟨z1b0, z1b1⟩ := z1b
      have Hz1 := hideR hz1
      have C := hideR (rgSize_any _ _ _ _ _ (unhideR R_P) (unhideR S_P))
      rw [hz1] at C
      go_wp2_with fail
      refine (unhideR C).mono ?_
      clear C
      rintro e w2 ⟨rfl, b⟩
      replace R_A := hideR ((unhideR R_A).later b (Nat.le_refl _))
      replace R_B := hideR ((unhideR R_B).later b (Nat.le_refl _))
      replace R_P := hideR ((unhideR R_P).later b (Nat.le_refl _))
      replace BB := hideR ((unhideR BB).trans (b.mono (unhideR BB).size))
      clear b hz1
      clear R_P
      have C := hideR (rgEither_any _ _ _ _ _ _ _ _ _ (unhideR R_A) (unhideR R_B) (unhideR S_A) (unhideR S_B))
      go_wp2_with fail
      refine (unhideR C).mono ?_
      clear C
      rintro e w3 ⟨a_Q, l_Q, c_Q, L_Q, rfl, r, i, b⟩
      replace R_A := hideR ((unhideR R_A).later b (Nat.le_refl _))
      replace R_B := hideR ((unhideR R_B).later b (Nat.le_refl _))
      replace BB := hideR ((unhideR BB).trans (b.mono (unhideR BB).size))
      have R_Q := hideR r
      have I_Q := hideR i
      have S_Q := hideR (is_small r i)
      have M_Q : l_Q ≤ 1000000 := unhideR S_Q
      clear r i b
      obtain ⟨z2, hz2⟩ : ∃ z, G.size (nrm L_Q) = z := ⟨_, rfl⟩
      have z2b := G.size_bounds (nrm L_Q)
      rw [hz2] at z2b
      obtain ⟨z2b0, z2b1⟩ := z2b
      have Hz2 := hideR hz2
      have C := hideR (rgSize_any _ _ _ _ _ (unhideR R_Q) (unhideR S_Q))
      rw [hz2] at C
      go_wp2_with fail
      refine (unhideR C).mono ?_
      clear C
      rintro e w4 ⟨rfl, b⟩
      replace R_A := hideR ((unhideR R_A).later b (Nat.le_refl _))
      replace R_B := hideR ((unhideR R_B).later b (Nat.le_refl _))
      replace R_Q := hideR ((unhideR R_Q).later b (Nat.le_refl _))
      replace BB := hideR ((unhideR BB).trans (b.mono (unhideR BB).size))
      clear b hz2
      clear R_Q
      obtain ⟨z3, hz3⟩ : ∃ z, G.size (nrm L_A) = z := ⟨_, rfl⟩
      have z3b := G.size_bounds (nrm L_A)
      rw [hz3] at z3b
      obtain ⟨z3b0, z3b1⟩ := z3b
      have Hz3 := hideR hz3
      have C := hideR (rgSize_any _ _ _ _ _ (unhideR R_A) (unhideR S_A))
      rw [hz3] at C
      go_wp2_with fail
      refine (unhideR C).mono ?_
      clear C
      rintro e w5 ⟨rfl, b⟩
      replace R_A := hideR ((unhideR R_A).later b (Nat.le_refl _))
      replace R_B := hideR ((unhideR R_B).later b (Nat.le_refl _))
      replace BB := hideR ((unhideR BB).trans (b.mono (unhideR BB).size))
      clear b hz3
      obtain ⟨z4, hz4⟩ : ∃ z, G.size (nrm L_B) = z := ⟨_, rfl⟩
      have z4b := G.size_bounds (nrm L_B)
      rw [hz4] at z4b
      obtain ⟨z4b0, z4b1⟩ := z4b
      have Hz4 := hideR hz4
      have C := hideR (rgSize_any _ _ _ _ _ (unhideR R_B) (unhideR S_B))
      rw [hz4] at C
      go_wp2_with fail
      refine (unhideR C).mono ?_
      clear C
      rintro e w6 ⟨rfl, b⟩
      replace R_A := hideR ((unhideR R_A).later b (Nat.le_refl _))
      replace R_B := hideR ((unhideR R_B).later b (Nat.le_refl _))
      replace BB := hideR ((unhideR BB).trans (b.mono (unhideR BB).size))
      clear b hz4
      have q1 : (z1 + z2 == z3 + z4) = true := by
        rw [beq_iff_eq, ← unhideR Hz1, ← unhideR Hz2, ← unhideR Hz3, ← unhideR Hz4]
        exact size_sum (fun n => nrm_is (unhideR I_P) n) (fun n => nrm_is (unhideR I_Q) n)
      have C := hideR (rgLess_any _ _ _ _ _ _ _ _ _ (unhideR R_A) (unhideR R_B) (unhideR S_A) (unhideR S_B))
      go_wp2_with fail
      refine (unhideR C).mono ?_
      clear C
      rintro e w7 ⟨a_V, l_V, c_V, L_V, rfl, r, i, b⟩
      replace R_A := hideR ((unhideR R_A).later b (Nat.le_refl _))
      replace R_B := hideR ((unhideR R_B).later b (Nat.le_refl _))
      replace BB := hideR ((unhideR BB).trans (b.mono (unhideR BB).size))
      have R_V := hideR r
      have I_V := hideR i
      have S_V := hideR (is_small r i)
      have M_V : l_V ≤ 1000000 := unhideR S_V
      clear r i b
      obtain ⟨z5, hz5⟩ : ∃ z, G.size (nrm L_V) = z := ⟨_, rfl⟩
      have z5b := G.size_bounds (nrm L_V)
      rw [hz5] at z5b
      obtain ⟨z5b0, z5b1⟩ := z5b
      have Hz5 := hideR hz5
      have C := hideR (rgSize_any _ _ _ _ _ (unhideR R_V) (unhideR S_V))
      rw [hz5] at C
      go_wp2_with fail
      refine (unhideR C).mono ?_
      clear C
      rintro e w8 ⟨rfl, b⟩
      replace R_A := hideR ((unhideR R_A).later b (Nat.le_refl _))
      replace R_B := hideR ((unhideR R_B).later b (Nat.le_refl _))
      replace R_V := hideR ((unhideR R_V).later b (Nat.le_refl _))
      replace BB := hideR ((unhideR BB).trans (b.mono (unhideR BB).size))
      clear b hz5
      clear R_V

      have C := hideR (rgSize_any _ _ _ _ _ (unhideR R_A) (unhideR S_A))
      rw [unhideR Hz3] at C
      go_wp2_with fail
      refine (unhideR C).mono ?_
      clear C
      rintro e w9 ⟨rfl, b⟩
      replace R_A := hideR ((unhideR R_A).later b (Nat.le_refl _))
      replace R_B := hideR ((unhideR R_B).later b (Nat.le_refl _))
      replace BB := hideR ((unhideR BB).trans (b.mono (unhideR BB).size))
      clear b
      have q2 : (z5 + z1 == z3) = true := by
        rw [beq_iff_eq, ← unhideR Hz5, ← unhideR Hz1, ← unhideR Hz3]
        exact size_less (fun n => nrm_is (unhideR I_V) n) (fun n => nrm_is (unhideR I_P) n)
      have C := hideR (rgNot_any _ _ _ _ 1114111 _ (unhideR R_A) (unhideR S_A) fits_max)
      go_wp2_with fail
      refine (unhideR C).mono ?_
      clear C
      rintro e w10 ⟨a_U, l_U, c_U, L_U, rfl, r, i, b⟩
      replace R_A := hideR ((unhideR R_A).later b (Nat.le_refl _))
      replace R_B := hideR ((unhideR R_B).later b (Nat.le_refl _))
      replace BB := hideR ((unhideR BB).trans (b.mono (unhideR BB).size))
      have R_U := hideR r
      have I_U := hideR i
      have S_U := hideR (is_small r i)
      have M_U : l_U ≤ 1000000 := unhideR S_U
      clear r i b
      obtain ⟨z7, hz7⟩ : ∃ z, G.size (nrm L_U) = z := ⟨_, rfl⟩
      have z7b := G.size_bounds (nrm L_U)
      rw [hz7] at z7b
      obtain ⟨z7b0, z7b1⟩ := z7b
      have Hz7 := hideR hz7
      have C := hideR (rgSize_any _ _ _ _ _ (unhideR R_U) (unhideR S_U))
      rw [hz7] at C
      go_wp2_with fail
      refine (unhideR C).mono ?_
      clear C
      rintro e w11 ⟨rfl, b⟩
      replace R_A := hideR ((unhideR R_A).later b (Nat.le_refl _))
      replace R_B := hideR ((unhideR R_B).later b (Nat.le_refl _))
      replace R_U := hideR ((unhideR R_U).later b (Nat.le_refl _))
      replace BB := hideR ((unhideR BB).trans (b.mono (unhideR BB).size))
      clear b hz7
      clear R_U
      have C := hideR (rgSize_any _ _ _ _ _ (unhideR R_A) (unhideR S_A))
      rw [unhideR Hz3] at C
      go_wp2_with fail
      refine (unhideR C).mono ?_
      clear C
      rintro e w12 ⟨rfl, b⟩
      replace R_A := hideR ((unhideR R_A).later b (Nat.le_refl _))
      replace R_B := hideR ((unhideR R_B).later b (Nat.le_refl _))
      replace BB := hideR ((unhideR BB).trans (b.mono (unhideR BB).size))
      clear b
      have q3 : (z7 + z3 == 1114112) = true := by
        rw [beq_iff_eq, ← unhideR Hz7, ← unhideR Hz3]
        exact size_not (fun n => by rw [nrm_is (unhideR I_U) n, notP_max])
      go_wp2_with fail
      go_ret
      exact ⟨rfl, unhideR BB⟩

end Go.Proofs.Ytjflejfpjkoamaa
