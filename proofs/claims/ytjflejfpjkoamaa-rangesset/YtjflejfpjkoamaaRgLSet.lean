/- RangesSet: walked. -/
import Derived.Test.YtjflejfpjkoamaaRgLawBase
namespace Go.Proofs.Ytjflejfpjkoamaa
open Go.RowKit
set_option linter.unusedVariables false

set_option maxHeartbeats 8000000 in
theorem rangesSet_walk (a_A : Option Addr) (l_A c_A : Nat) (L_A : List (Int × Int)) (a_B : Option Addr) (l_B c_B : Nat) (L_B : List (Int × Int)) (high : Int) (w : World) (h_A : Rs w a_A l_A c_A L_A) (h_B : Rs w a_B l_B c_B L_B) (f_high : fits high) :
    Calls Try.prog 4 #[.slice a_A l_A c_A, .slice a_B l_B c_B, .int .i64 high] w fun e w' => e = .returned (.bool true) ∧ Below w.heap.size w w' := by
  have m_A := h_A.hmax
  have k_A := h_A.hcap
  unfold maxLen at m_A
  have R_A := hideR h_A
  clear h_A
  have m_B := h_B.hmax
  have k_B := h_B.hcap
  unfold maxLen at m_B
  have R_B := hideR h_B
  clear h_B
  have F_high := hideR f_high
  unfold fits at f_high
  obtain ⟨f_high0, f_high1⟩ := f_high
  by_cases t_A : 60 < l_A
  · have t_A' : (60 : Int) < (l_A : Int) := by omega
    go_enter Try.func4, Try.ntmps4
    go_wp2_with fail
    refine (rgAwake_any _).mono ?_
    rintro e w0 ⟨rfl, b⟩
    go_wp2_with fail
    go_ret
    exact ⟨rfl, b⟩
  · have t_A' : (l_A : Int) ≤ 60 := by omega
    have S_A : Hid (l_A ≤ 1000000) := by show _ ≤ _; omega
    by_cases t_B : 60 < l_B
    · have t_B' : (60 : Int) < (l_B : Int) := by omega
      go_enter Try.func4, Try.ntmps4
      go_wp2_with fail
      refine (rgAwake_any _).mono ?_
      rintro e w0 ⟨rfl, b⟩
      go_wp2_with fail
      go_ret
      exact ⟨rfl, b⟩
    · have t_B' : (l_B : Int) ≤ 60 := by omega
      have S_B : Hid (l_B ≤ 1000000) := by show _ ≤ _; omega
      go_enter Try.func4, Try.ntmps4
      go_wp2_with fail
      refine (rgAwake_any _).mono ?_
      rintro e w0 ⟨rfl, b⟩
      have BB := hideR b
      replace R_A := hideR ((unhideR R_A).later b (Nat.le_refl _))
      replace R_B := hideR ((unhideR R_B).later b (Nat.le_refl _))
      clear b
      have C := hideR (rgBoth_any _ _ _ _ _ _ _ _ _ (unhideR R_A) (unhideR R_B) (unhideR S_A) (unhideR S_B))
      go_wp2_with fail
      refine (unhideR C).mono ?_
      clear C
      rintro e w1 ⟨a_XBoth, l_XBoth, c_XBoth, L_XBoth, rfl, r, i, b⟩
      replace R_A := hideR ((unhideR R_A).later b (Nat.le_refl _))
      replace R_B := hideR ((unhideR R_B).later b (Nat.le_refl _))
      replace BB := hideR ((unhideR BB).trans (b.mono (unhideR BB).size))
      have R_XBoth := hideR r
      have I_XBoth := hideR i
      have S_XBoth := hideR (is_small r i)
      have M_XBoth : l_XBoth ≤ 1000000 := unhideR S_XBoth
      clear r i b
      have C := hideR (refBoth_any _ _ _ _ _ _ _ _ _ (unhideR R_A) (unhideR R_B))
      go_wp2_with fail
      refine (unhideR C).mono ?_
      clear C
      rintro e w2 ⟨a_YBoth, l_YBoth, c_YBoth, L_YBoth, rfl, r, i, b⟩
      replace R_A := hideR ((unhideR R_A).later b (Nat.le_refl _))
      replace R_B := hideR ((unhideR R_B).later b (Nat.le_refl _))
      replace R_XBoth := hideR ((unhideR R_XBoth).later b (Nat.le_refl _))
      replace BB := hideR ((unhideR BB).trans (b.mono (unhideR BB).size))
      have R_YBoth := hideR r
      have I_YBoth := hideR i
      have S_YBoth := hideR (is_small r i)
      have M_YBoth : l_YBoth ≤ 1000000 := unhideR S_YBoth
      clear r i b
      have C := hideR (refSame_any _ _ _ _ _ _ _ _ _ (unhideR R_XBoth) (unhideR R_YBoth))
      rw [same_yes ((unhideR I_XBoth).unique (unhideR I_YBoth) (fun _ => rfl))] at C
      go_wp2_with fail
      refine (unhideR C).mono ?_
      clear C
      rintro e w3 ⟨rfl, b⟩
      replace R_A := hideR ((unhideR R_A).later b (Nat.le_refl _))
      replace R_B := hideR ((unhideR R_B).later b (Nat.le_refl _))
      replace R_XBoth := hideR ((unhideR R_XBoth).later b (Nat.le_refl _))
      replace R_YBoth := hideR ((unhideR R_YBoth).later b (Nat.le_refl _))
      replace BB := hideR ((unhideR BB).trans (b.mono (unhideR BB).size))
      clear b
      clear R_XBoth
      clear R_YBoth
      have C := hideR (rgEither_any _ _ _ _ _ _ _ _ _ (unhideR R_A) (unhideR R_B) (unhideR S_A) (unhideR S_B))
      go_wp2_with fail
      refine (unhideR C).mono ?_
      clear C
      rintro e w4 ⟨a_XEither, l_XEither, c_XEither, L_XEither, rfl, r, i, b⟩
      replace R_A := hideR ((unhideR R_A).later b (Nat.le_refl _))
      replace R_B := hideR ((unhideR R_B).later b (Nat.le_refl _))
      replace BB := hideR ((unhideR BB).trans (b.mono (unhideR BB).size))
      have R_XEither := hideR r
      have I_XEither := hideR i
      have S_XEither := hideR (is_small r i)
      have M_XEither : l_XEither ≤ 1000000 := unhideR S_XEither
      clear r i b
      have C := hideR (refEither_any _ _ _ _ _ _ _ _ _ (unhideR R_A) (unhideR R_B))
      go_wp2_with fail
      refine (unhideR C).mono ?_
      clear C
      rintro e w5 ⟨a_YEither, l_YEither, c_YEither, L_YEither, rfl, r, i, b⟩
      replace R_A := hideR ((unhideR R_A).later b (Nat.le_refl _))
      replace R_B := hideR ((unhideR R_B).later b (Nat.le_refl _))
      replace R_XEither := hideR ((unhideR R_XEither).later b (Nat.le_refl _))
      replace BB := hideR ((unhideR BB).trans (b.mono (unhideR BB).size))
      have R_YEither := hideR r
      have I_YEither := hideR i
      have S_YEither := hideR (is_small r i)
      have M_YEither : l_YEither ≤ 1000000 := unhideR S_YEither
      clear r i b
      have C := hideR (refSame_any _ _ _ _ _ _ _ _ _ (unhideR R_XEither) (unhideR R_YEither))
      rw [same_yes ((unhideR I_XEither).unique (unhideR I_YEither) (fun _ => rfl))] at C
      go_wp2_with fail
      refine (unhideR C).mono ?_
      clear C
      rintro e w6 ⟨rfl, b⟩
      replace R_A := hideR ((unhideR R_A).later b (Nat.le_refl _))
      replace R_B := hideR ((unhideR R_B).later b (Nat.le_refl _))
      replace R_XEither := hideR ((unhideR R_XEither).later b (Nat.le_refl _))
      replace R_YEither := hideR ((unhideR R_YEither).later b (Nat.le_refl _))
      replace BB := hideR ((unhideR BB).trans (b.mono (unhideR BB).size))
      clear b
      clear R_XEither
      clear R_YEither
      have C := hideR (rgLess_any _ _ _ _ _ _ _ _ _ (unhideR R_A) (unhideR R_B) (unhideR S_A) (unhideR S_B))
      go_wp2_with fail
      refine (unhideR C).mono ?_
      clear C
      rintro e w7 ⟨a_XLess, l_XLess, c_XLess, L_XLess, rfl, r, i, b⟩
      replace R_A := hideR ((unhideR R_A).later b (Nat.le_refl _))
      replace R_B := hideR ((unhideR R_B).later b (Nat.le_refl _))
      replace BB := hideR ((unhideR BB).trans (b.mono (unhideR BB).size))
      have R_XLess := hideR r
      have I_XLess := hideR i
      have S_XLess := hideR (is_small r i)
      have M_XLess : l_XLess ≤ 1000000 := unhideR S_XLess
      clear r i b
      have C := hideR (refLess_any _ _ _ _ _ _ _ _ _ (unhideR R_A) (unhideR R_B))
      go_wp2_with fail
      refine (unhideR C).mono ?_
      clear C
      rintro e w8 ⟨a_YLess, l_YLess, c_YLess, L_YLess, rfl, r, i, b⟩
      replace R_A := hideR ((unhideR R_A).later b (Nat.le_refl _))
      replace R_B := hideR ((unhideR R_B).later b (Nat.le_refl _))
      replace R_XLess := hideR ((unhideR R_XLess).later b (Nat.le_refl _))
      replace BB := hideR ((unhideR BB).trans (b.mono (unhideR BB).size))
      have R_YLess := hideR r
      have I_YLess := hideR i
      have S_YLess := hideR (is_small r i)
      have M_YLess : l_YLess ≤ 1000000 := unhideR S_YLess
      clear r i b
      have C := hideR (refSame_any _ _ _ _ _ _ _ _ _ (unhideR R_XLess) (unhideR R_YLess))
      rw [same_yes ((unhideR I_XLess).unique (unhideR I_YLess) (fun _ => rfl))] at C
      go_wp2_with fail
      refine (unhideR C).mono ?_
      clear C
      rintro e w9 ⟨rfl, b⟩
      replace R_A := hideR ((unhideR R_A).later b (Nat.le_refl _))
      replace R_B := hideR ((unhideR R_B).later b (Nat.le_refl _))
      replace R_XLess := hideR ((unhideR R_XLess).later b (Nat.le_refl _))
      replace R_YLess := hideR ((unhideR R_YLess).later b (Nat.le_refl _))
      replace BB := hideR ((unhideR BB).trans (b.mono (unhideR BB).size))
      clear b
      clear R_XLess
      clear R_YLess
      have C := hideR (rgNot_any _ _ _ _ high _ (unhideR R_A) (unhideR S_A) (unhideR F_high))
      go_wp2_with fail
      refine (unhideR C).mono ?_
      clear C
      rintro e w10 ⟨a_X, l_X, c_X, L_X, rfl, r, i, b⟩
      replace R_A := hideR ((unhideR R_A).later b (Nat.le_refl _))
      replace R_B := hideR ((unhideR R_B).later b (Nat.le_refl _))
      replace BB := hideR ((unhideR BB).trans (b.mono (unhideR BB).size))
      have R_X := hideR r
      have I_X := hideR i
      have S_X := hideR (is_small r i)
      have M_X : l_X ≤ 1000000 := unhideR S_X
      clear r i b
      have C := hideR (refNot_any _ _ _ _ high _ (unhideR R_A) (unhideR F_high))
      go_wp2_with fail
      refine (unhideR C).mono ?_
      clear C
      rintro e w11 ⟨a_Y, l_Y, c_Y, L_Y, rfl, r, i, b⟩
      replace R_A := hideR ((unhideR R_A).later b (Nat.le_refl _))
      replace R_B := hideR ((unhideR R_B).later b (Nat.le_refl _))
      replace R_X := hideR ((unhideR R_X).later b (Nat.le_refl _))
      replace BB := hideR ((unhideR BB).trans (b.mono (unhideR BB).size))
      have R_Y := hideR r
      have I_Y := hideR i
      have S_Y := hideR (is_small r i)
      have M_Y : l_Y ≤ 1000000 := unhideR S_Y
      clear r i b
      have C := hideR (refSame_any _ _ _ _ _ _ _ _ _ (unhideR R_X) (unhideR R_Y))
      rw [same_yes ((unhideR I_X).unique (unhideR I_Y) (fun _ => rfl))] at C
      go_wp2_with fail
      refine (unhideR C).mono ?_
      clear C
      rintro e w12 ⟨rfl, b⟩
      replace R_A := hideR ((unhideR R_A).later b (Nat.le_refl _))
      replace R_B := hideR ((unhideR R_B).later b (Nat.le_refl _))
      replace R_X := hideR ((unhideR R_X).later b (Nat.le_refl _))
      replace R_Y := hideR ((unhideR R_Y).later b (Nat.le_refl _))
      replace BB := hideR ((unhideR BB).trans (b.mono (unhideR BB).size))
      clear b
      go_wp2_with fail
      go_ret
      exact ⟨rfl, unhideR BB⟩

end Go.Proofs.Ytjflejfpjkoamaa
