/- RangesTell: walked. -/
import Derived.Test.YtjflejfpjkoamaaRgLawBase
namespace Go.Proofs.Ytjflejfpjkoamaa
open Go.RowKit
set_option linter.unusedVariables false

set_option maxHeartbeats 8000000 in
theorem rangesTell_walk (a_A : Option Addr) (l_A c_A : Nat) (L_A : List (Int × Int)) (a_K : Option Addr) (l_K c_K : Nat) (L_K : List (Int × Int)) (n : Int) (w : World) (h_A : Rs w a_A l_A c_A L_A) (h_K : Rs w a_K l_K c_K L_K) (f_n : fits n) :
    Calls Try.prog 3 #[.slice a_A l_A c_A, .slice a_K l_K c_K, .int .i64 n] w fun e w' => e = .returned (.bool true) ∧ Below w.heap.size w w' := by
  have m_A := h_A.hmax
  have k_A := h_A.hcap
  unfold maxLen at m_A
  have R_A := hideR h_A
  clear h_A
  have m_K := h_K.hmax
  have k_K := h_K.hcap
  unfold maxLen at m_K
  have R_K := hideR h_K
  clear h_K
  have F_n := hideR f_n
  unfold fits at f_n
  obtain ⟨f_n0, f_n1⟩ := f_n
  by_cases t_A : 60 < l_A
  · have t_A' : (60 : Int) < (l_A : Int) := by omega
    go_enter Try.func3, Try.ntmps3
    go_wp2_with fail
    refine (rgAwake_any _).mono ?_
    rintro e w0 ⟨rfl, b⟩
    go_wp2_with fail
    go_ret
    exact ⟨rfl, b⟩
  · have t_A' : (l_A : Int) ≤ 60 := by omega
    have S_A : Hid (l_A ≤ 1000000) := by show _ ≤ _; omega
    by_cases t_K : 60 < l_K
    · have t_K' : (60 : Int) < (l_K : Int) := by omega
      go_enter Try.func3, Try.ntmps3
      go_wp2_with fail
      refine (rgAwake_any _).mono ?_
      rintro e w0 ⟨rfl, b⟩
      go_wp2_with fail
      go_ret
      exact ⟨rfl, b⟩
    · have t_K' : (l_K : Int) ≤ 60 := by omega
      have S_K : Hid (l_K ≤ 1000000) := by show _ ≤ _; omega
      go_enter Try.func3, Try.ntmps3
      go_wp2_with fail
      refine (rgAwake_any _).mono ?_
      rintro e w0 ⟨rfl, b⟩
      have BB := hideR b
      replace R_A := hideR ((unhideR R_A).later b (Nat.le_refl _))
      replace R_K := hideR ((unhideR R_K).later b (Nat.le_refl _))
      clear b
      have C := hideR (refMay_any _ _ _ _ _ (unhideR R_A))
      go_wp2_with fail
      refine (unhideR C).mono ?_
      clear C
      rintro e w1 ⟨rfl, b⟩
      replace R_A := hideR ((unhideR R_A).later b (Nat.le_refl _))
      replace R_K := hideR ((unhideR R_K).later b (Nat.le_refl _))
      replace BB := hideR ((unhideR BB).trans (b.mono (unhideR BB).size))
      clear b
      have C := hideR (refHas_any _ _ _ _ n _ (unhideR R_A))
      go_wp2_with fail
      refine (unhideR C).mono ?_
      clear C
      rintro e w2 ⟨rfl, hw⟩
      obtain rfl : w1 = w2 := hw.symm
      have C := hideR (refSame_any _ _ _ _ _ _ _ _ _ (unhideR R_A) (unhideR R_K))
      go_wp2_with fail
      refine (unhideR C).mono ?_
      clear C
      rintro e w3 ⟨rfl, b⟩
      replace R_A := hideR ((unhideR R_A).later b (Nat.le_refl _))
      replace R_K := hideR ((unhideR R_K).later b (Nat.le_refl _))
      replace BB := hideR ((unhideR BB).trans (b.mono (unhideR BB).size))
      clear b
      have C := hideR (normAn _ _ _ _ _ (unhideR R_A) (unhideR S_A))
      go_wp2_with fail
      refine (unhideR C).mono ?_
      clear C
      rintro e w4 ⟨a_X, l_X, c_X, L_X, rfl, r, i, b⟩
      replace R_A := hideR ((unhideR R_A).later b (Nat.le_refl _))
      replace R_K := hideR ((unhideR R_K).later b (Nat.le_refl _))
      replace BB := hideR ((unhideR BB).trans (b.mono (unhideR BB).size))
      have R_X := hideR r
      have I_X := hideR i
      have S_X := hideR (is_small r i)
      have M_X : l_X ≤ 1000000 := unhideR S_X
      clear r i b
      have C := hideR (refNorm_any _ _ _ _ _ (unhideR R_A))
      go_wp2_with fail
      refine (unhideR C).mono ?_
      clear C
      rintro e w5 ⟨a_Y, l_Y, c_Y, L_Y, rfl, r, i, b⟩
      replace R_A := hideR ((unhideR R_A).later b (Nat.le_refl _))
      replace R_K := hideR ((unhideR R_K).later b (Nat.le_refl _))
      replace R_X := hideR ((unhideR R_X).later b (Nat.le_refl _))
      replace BB := hideR ((unhideR BB).trans (b.mono (unhideR BB).size))
      have R_Y := hideR r
      have I_Y := hideR i
      have S_Y := hideR (is_small r i)
      have M_Y : l_Y ≤ 1000000 := unhideR S_Y
      clear r i b
      have C := hideR (refSame_any _ _ _ _ _ _ _ _ _ (unhideR R_X) (unhideR R_Y))
      rw [same_yes ((unhideR I_X).unique (unhideR I_Y) (fun _ => rfl))] at C
      go_wp2_with fail
      refine (unhideR C).mono ?_
      clear C
      rintro e w6 ⟨rfl, b⟩
      replace R_A := hideR ((unhideR R_A).later b (Nat.le_refl _))
      replace R_K := hideR ((unhideR R_K).later b (Nat.le_refl _))
      replace R_X := hideR ((unhideR R_X).later b (Nat.le_refl _))
      replace R_Y := hideR ((unhideR R_Y).later b (Nat.le_refl _))
      replace BB := hideR ((unhideR BB).trans (b.mono (unhideR BB).size))
      clear b
      clear R_X
      clear R_Y
      have C := hideR (rgMay_any _ _ _ _ _ (unhideR R_A))
      go_wp2_with fail
      refine (unhideR C).mono ?_
      clear C
      rintro e w7 ⟨rfl, b⟩
      replace R_A := hideR ((unhideR R_A).later b (Nat.le_refl _))
      replace R_K := hideR ((unhideR R_K).later b (Nat.le_refl _))
      replace BB := hideR ((unhideR BB).trans (b.mono (unhideR BB).size))
      clear b
      have C := hideR (has_any _ _ _ _ n _ (unhideR R_A))
      go_wp2_with fail
      refine (unhideR C).mono ?_
      clear C
      rintro e w8 ⟨rfl, b⟩
      replace R_A := hideR ((unhideR R_A).later b (Nat.le_refl _))
      replace R_K := hideR ((unhideR R_K).later b (Nat.le_refl _))
      replace BB := hideR ((unhideR BB).trans (b.mono (unhideR BB).size))
      clear b
      have C := hideR (rgSame_any _ _ _ _ _ _ _ _ _ (unhideR R_A) (unhideR R_K))
      go_wp2_with fail
      refine (unhideR C).mono ?_
      clear C
      rintro e w9 ⟨rfl, b⟩
      replace R_A := hideR ((unhideR R_A).later b (Nat.le_refl _))
      replace R_K := hideR ((unhideR R_K).later b (Nat.le_refl _))
      replace BB := hideR ((unhideR BB).trans (b.mono (unhideR BB).size))
      clear b
      obtain ⟨z, hz⟩ : ∃ z, G.size (nrm L_A) = z := ⟨_, rfl⟩
      have Hz := hideR hz
      have C := hideR (rgSize_any _ _ _ _ _ (unhideR R_A) (unhideR S_A))
      rw [hz] at C
      go_wp2_with fail
      refine (unhideR C).mono ?_
      clear C
      rintro e w10 ⟨rfl, b⟩
      replace R_A := hideR ((unhideR R_A).later b (Nat.le_refl _))
      replace R_K := hideR ((unhideR R_K).later b (Nat.le_refl _))
      replace BB := hideR ((unhideR BB).trans (b.mono (unhideR BB).size))
      clear b
      have C := hideR (refSize_any _ _ _ _ _ (unhideR R_A))
      rw [unhideR Hz] at C
      go_wp2_with fail
      refine (unhideR C).mono ?_
      clear C
      rintro e w11 ⟨rfl, b⟩
      replace R_A := hideR ((unhideR R_A).later b (Nat.le_refl _))
      replace R_K := hideR ((unhideR R_K).later b (Nat.le_refl _))
      replace BB := hideR ((unhideR BB).trans (b.mono (unhideR BB).size))
      clear b
      go_wp2_with fail
      go_ret
      exact ⟨rfl, unhideR BB⟩

end Go.Proofs.Ytjflejfpjkoamaa
