/- RangesPart: walked. -/
import Derived.Test.YtjflejfpjkoamaaRgLawBase
namespace Go.Proofs.Ytjflejfpjkoamaa
open Go.RowKit
set_option linter.unusedVariables false

theorem new_then {w w' : World} {o : Obj} (b : Below (w.alloc o).heap.size (w.alloc o) w') : Below w.heap.size w w' := (Below.new1 o).trans (b.mono (by simp))
theorem part_none {p q v : List (Int × Int)} {f g : Int → Bool} (hp : G.Is p fun m => f m && g m) (hq : G.Is q fun m => f m && !g m) (hv : G.Is v fun m => nrm p m && nrm q m) : v.length = 0 := by
  have e : v = [] := hv.unique (b := []) (q := fun _ => false) ⟨rfl, fun _ => rfl⟩ fun m => by
    show (nrm p m && nrm q m) = false
    rw [nrm_is hp, nrm_is hq]; cases f m <;> cases g m <;> rfl
  rw [e]; rfl
theorem part_all (f g : Bool) : ((f && g) || (f && !g)) = f := by cases f <;> cases g <;> rfl
theorem nrm_nil (m : Int) : nrm [] m = false := by unfold nrm; rw [G.hasB_nil]; simp
theorem part_not (k m : Int) : ((G.dom m && !nrm [] m) && !notP [] k m) = (G.dom m && !nrm [(0, k)] m) := by
  unfold notP
  rw [nrm_nil]
  cases G.dom m <;> cases nrm [(0, k)] m <;> rfl

set_option maxHeartbeats 8000000 in
theorem rangesPart_walk (a_A : Option Addr) (l_A c_A : Nat) (L_A : List (Int × Int)) (n : Int) (w : World) (h_A : Rs w a_A l_A c_A L_A) (f_n : fits n) :
    Calls Try.prog 10 #[.slice a_A l_A c_A, .int .i64 n] w fun e w' => e = .returned (.bool true) ∧ Below w.heap.size w w' := by
  have m_A := h_A.hmax
  have k_A := h_A.hcap
  unfold maxLen at m_A
  have R_A := hideR h_A
  clear h_A
  have F_n := hideR f_n
  unfold fits at f_n
  obtain ⟨f_n0, f_n1⟩ := f_n
  by_cases t_A : 60 < l_A
  · have t_A' : (60 : Int) < (l_A : Int) := by omega
    go_enter Try.func10, Try.ntmps10
    go_wp2_with fail
    refine (rgAwake_any _).mono ?_
    rintro e w0 ⟨rfl, b⟩
    go_wp2_with fail
    go_ret
    exact ⟨rfl, b⟩
  · have t_A' : (l_A : Int) ≤ 60 := by omega
    have S_A : Hid (l_A ≤ 1000000) := by show _ ≤ _; omega
    by_cases t1 : n < 0
    · go_enter Try.func10, Try.ntmps10
      go_wp2_with fail
      refine (rgAwake_any _).mono ?_
      rintro e w0 ⟨rfl, b⟩
      go_wp2_with fail
      go_ret
      exact ⟨rfl, b⟩
    · have h_n0 : 0 ≤ n := by omega
      by_cases t2 : 1114111 < n
      · go_enter Try.func10, Try.ntmps10
        go_wp2_with fail
        refine (rgAwake_any _).mono ?_
        rintro e w0 ⟨rfl, b⟩
        go_wp2_with fail
        go_ret
        exact ⟨rfl, b⟩
      · have h_n1 : n ≤ 1114111 := by omega
        go_enter Try.func10, Try.ntmps10
        go_wp2_with fail
        refine (rgAwake_any _).mono ?_
        rintro e w0 ⟨rfl, b⟩
        have BB := hideR b
        replace R_A := hideR ((unhideR R_A).later b (Nat.le_refl _))
        clear b
        have C := hideR (rgBoth_any _ _ _ _ _ _ _ _ _ ((unhideR R_A).later (Below.new1 (boxRg 0 n)) (Nat.le_refl _)) (Rs.single _ 0 n (by unfold fits; omega) (unhideR F_n) _ rfl) (unhideR S_A) (by omega))
        go_wp2_with fail
        refine (unhideR C).mono ?_
        clear C
        rintro e w1 ⟨a_P, l_P, c_P, L_P, rfl, r, i, b⟩
        replace b := new_then b
        replace R_A := hideR ((unhideR R_A).later b (Nat.le_refl _))
        replace BB := hideR ((unhideR BB).trans (b.mono (unhideR BB).size))
        have R_P := hideR r
        have I_P := hideR i
        have S_P := hideR (is_small r i)
        have M_P : l_P ≤ 1000000 := unhideR S_P
        clear r i b
        have C := hideR (rgLess_any _ _ _ _ _ _ _ _ _ ((unhideR R_A).later (Below.new1 (boxRg 0 n)) (Nat.le_refl _)) (Rs.single _ 0 n (by unfold fits; omega) (unhideR F_n) _ rfl) (unhideR S_A) (by omega))
        go_wp2_with fail
        refine (unhideR C).mono ?_
        clear C
        rintro e w2 ⟨a_Q, l_Q, c_Q, L_Q, rfl, r, i, b⟩
        replace b := new_then b
        replace R_A := hideR ((unhideR R_A).later b (Nat.le_refl _))
        replace R_P := hideR ((unhideR R_P).later b (Nat.le_refl _))
        replace BB := hideR ((unhideR BB).trans (b.mono (unhideR BB).size))
        have R_Q := hideR r
        have I_Q := hideR i
        have S_Q := hideR (is_small r i)
        have M_Q : l_Q ≤ 1000000 := unhideR S_Q
        clear r i b
        have C := hideR (rgBoth_any _ _ _ _ _ _ _ _ _ (unhideR R_P) (unhideR R_Q) (unhideR S_P) (unhideR S_Q))
        go_wp2_with fail
        refine (unhideR C).mono ?_
        clear C
        rintro e w3 ⟨a_V, l_V, c_V, L_V, rfl, r, i, b⟩
        replace R_A := hideR ((unhideR R_A).later b (Nat.le_refl _))
        replace R_P := hideR ((unhideR R_P).later b (Nat.le_refl _))
        replace R_Q := hideR ((unhideR R_Q).later b (Nat.le_refl _))
        replace BB := hideR ((unhideR BB).trans (b.mono (unhideR BB).size))
        have R_V := hideR r
        have I_V := hideR i
        have S_V := hideR (is_small r i)
        have M_V : l_V ≤ 1000000 := unhideR S_V
        clear r i b
        have e1 : ((l_V : Int) == 0) = true := by
          have := part_none (unhideR I_P) (unhideR I_Q) (unhideR I_V)
          have := (unhideR R_V).hlen
          rw [beq_iff_eq]; omega
        clear R_V
        have C := hideR (rgEither_any _ _ _ _ _ _ _ _ _ (unhideR R_P) (unhideR R_Q) (unhideR S_P) (unhideR S_Q))
        go_wp2_with fail
        refine (unhideR C).mono ?_
        clear C
        rintro e w4 ⟨a_V, l_V, c_V, L_V, rfl, r, i, b⟩
        replace R_A := hideR ((unhideR R_A).later b (Nat.le_refl _))
        replace R_P := hideR ((unhideR R_P).later b (Nat.le_refl _))
        replace R_Q := hideR ((unhideR R_Q).later b (Nat.le_refl _))
        replace BB := hideR ((unhideR BB).trans (b.mono (unhideR BB).size))
        have R_V := hideR r
        have I_V := hideR i
        have S_V := hideR (is_small r i)
        have M_V : l_V ≤ 1000000 := unhideR S_V
        clear r i b
        have C := hideR (normAn _ _ _ _ _ (unhideR R_A) (unhideR S_A))
        go_wp2_with fail
        refine (unhideR C).mono ?_
        clear C
        rintro e w5 ⟨a_Z, l_Z, c_Z, L_Z, rfl, r, i, b⟩
        replace R_A := hideR ((unhideR R_A).later b (Nat.le_refl _))
        replace R_P := hideR ((unhideR R_P).later b (Nat.le_refl _))
        replace R_Q := hideR ((unhideR R_Q).later b (Nat.le_refl _))
        replace R_V := hideR ((unhideR R_V).later b (Nat.le_refl _))
        replace BB := hideR ((unhideR BB).trans (b.mono (unhideR BB).size))
        have R_Z := hideR r
        have I_Z := hideR i
        have S_Z := hideR (is_small r i)
        have M_Z : l_Z ≤ 1000000 := unhideR S_Z
        clear r i b
        have C := hideR (rgSame_any _ _ _ _ _ _ _ _ _ (unhideR R_V) (unhideR R_Z))
        rw [same_yes ((unhideR I_V).unique (unhideR I_Z) (fun n => by rw [nrm_is (unhideR I_P), nrm_is (unhideR I_Q)]; exact part_all _ _))] at C
        go_wp2_with fail
        refine (unhideR C).mono ?_
        clear C
        rintro e w6 ⟨rfl, b⟩
        replace R_A := hideR ((unhideR R_A).later b (Nat.le_refl _))
        replace R_P := hideR ((unhideR R_P).later b (Nat.le_refl _))
        replace R_Q := hideR ((unhideR R_Q).later b (Nat.le_refl _))
        replace R_V := hideR ((unhideR R_V).later b (Nat.le_refl _))
        replace R_Z := hideR ((unhideR R_Z).later b (Nat.le_refl _))
        replace BB := hideR ((unhideR BB).trans (b.mono (unhideR BB).size))
        clear b
        clear R_V
        clear R_Z
        obtain ⟨z1, hz1⟩ : ∃ z, G.size (nrm L_P) = z := ⟨_, rfl⟩
        have z1b := G.size_bounds (nrm L_P)
        rw [hz1] at z1b
        obtain ⟨z1b0, z1b1⟩ := z1b
        have Hz1 := hideR hz1
        have C := hideR (rgSize_any _ _ _ _ _ (unhideR R_P) (unhideR S_P))
        rw [hz1] at C
        go_wp2_with fail
        refine (unhideR C).mono ?_
        clear C
        rintro e w7 ⟨rfl, b⟩
        replace R_A := hideR ((unhideR R_A).later b (Nat.le_refl _))
        replace R_P := hideR ((unhideR R_P).later b (Nat.le_refl _))
        replace R_Q := hideR ((unhideR R_Q).later b (Nat.le_refl _))
        replace BB := hideR ((unhideR BB).trans (b.mono (unhideR BB).size))
        clear b hz1
        obtain ⟨z2, hz2⟩ : ∃ z, G.size (nrm L_Q) = z := ⟨_, rfl⟩
        have z2b := G.size_bounds (nrm L_Q)
        rw [hz2] at z2b
        obtain ⟨z2b0, z2b1⟩ := z2b
        have Hz2 := hideR hz2
        have C := hideR (rgSize_any _ _ _ _ _ (unhideR R_Q) (unhideR S_Q))
        rw [hz2] at C
        go_wp2_with fail
        refine (unhideR C).mono ?_
        clear C
        rintro e w8 ⟨rfl, b⟩
        replace R_A := hideR ((unhideR R_A).later b (Nat.le_refl _))
        replace R_P := hideR ((unhideR R_P).later b (Nat.le_refl _))
        replace R_Q := hideR ((unhideR R_Q).later b (Nat.le_refl _))
        replace BB := hideR ((unhideR BB).trans (b.mono (unhideR BB).size))
        clear b hz2
        obtain ⟨z3, hz3⟩ : ∃ z, G.size (nrm L_A) = z := ⟨_, rfl⟩
        have z3b := G.size_bounds (nrm L_A)
        rw [hz3] at z3b
        obtain ⟨z3b0, z3b1⟩ := z3b
        have Hz3 := hideR hz3
        have C := hideR (rgSize_any _ _ _ _ _ (unhideR R_A) (unhideR S_A))
        rw [hz3] at C
        go_wp2_with fail
        refine (unhideR C).mono ?_
        clear C
        rintro e w9 ⟨rfl, b⟩
        replace R_A := hideR ((unhideR R_A).later b (Nat.le_refl _))
        replace R_P := hideR ((unhideR R_P).later b (Nat.le_refl _))
        replace R_Q := hideR ((unhideR R_Q).later b (Nat.le_refl _))
        replace BB := hideR ((unhideR BB).trans (b.mono (unhideR BB).size))
        clear b hz3
        have q1 : (z1 + z2 == z3) = true := by
          rw [beq_iff_eq, ← unhideR Hz1, ← unhideR Hz2, ← unhideR Hz3, Int.add_comm]
          exact size_less (nrm_is (unhideR I_Q)) (nrm_is (unhideR I_P))
        clear R_P
        clear R_Q
        have C := hideR (fun W => rgNot_any none 0 0 [] 1114111 W (Rs.nil W) (by omega) fits_max)
        go_wp2_with fail
        refine (unhideR C _).mono ?_
        clear C
        rintro e w10 ⟨a_P, l_P, c_P, L_P, rfl, r, i, b⟩
        replace R_A := hideR ((unhideR R_A).later b (Nat.le_refl _))
        replace BB := hideR ((unhideR BB).trans (b.mono (unhideR BB).size))
        have R_P := hideR r
        have I_P := hideR i
        have S_P := hideR (is_small r i)
        have M_P : l_P ≤ 1000000 := unhideR S_P
        clear r i b
        have C := hideR (fun W => rgNot_any none 0 0 [] n W (Rs.nil W) (by omega) (unhideR F_n))
        go_wp2_with fail
        refine (unhideR C _).mono ?_
        clear C
        rintro e w11 ⟨a_Q, l_Q, c_Q, L_Q, rfl, r, i, b⟩
        replace R_A := hideR ((unhideR R_A).later b (Nat.le_refl _))
        replace R_P := hideR ((unhideR R_P).later b (Nat.le_refl _))
        replace BB := hideR ((unhideR BB).trans (b.mono (unhideR BB).size))
        have R_Q := hideR r
        have I_Q := hideR i
        have S_Q := hideR (is_small r i)
        have M_Q : l_Q ≤ 1000000 := unhideR S_Q
        clear r i b
        have C := hideR (rgLess_any _ _ _ _ _ _ _ _ _ (unhideR R_P) (unhideR R_Q) (unhideR S_P) (unhideR S_Q))
        go_wp2_with fail
        refine (unhideR C).mono ?_
        clear C
        rintro e w12 ⟨a_V, l_V, c_V, L_V, rfl, r, i, b⟩
        replace R_A := hideR ((unhideR R_A).later b (Nat.le_refl _))
        replace R_P := hideR ((unhideR R_P).later b (Nat.le_refl _))
        replace R_Q := hideR ((unhideR R_Q).later b (Nat.le_refl _))
        replace BB := hideR ((unhideR BB).trans (b.mono (unhideR BB).size))
        have R_V := hideR r
        have I_V := hideR i
        have S_V := hideR (is_small r i)
        have M_V : l_V ≤ 1000000 := unhideR S_V
        clear r i b
        have C := hideR (fun W => rgNot_any _ _ _ _ 1114111 _ (Rs.single W 0 n (by unfold fits; omega) (unhideR F_n) _ rfl) (by omega) fits_max)
        go_wp2_with fail
        refine (unhideR C _).mono ?_
        clear C
        rintro e w13 ⟨a_Z, l_Z, c_Z, L_Z, rfl, r, i, b⟩
        replace b := new_then b
        replace R_A := hideR ((unhideR R_A).later b (Nat.le_refl _))
        replace R_P := hideR ((unhideR R_P).later b (Nat.le_refl _))
        replace R_Q := hideR ((unhideR R_Q).later b (Nat.le_refl _))
        replace R_V := hideR ((unhideR R_V).later b (Nat.le_refl _))
        replace BB := hideR ((unhideR BB).trans (b.mono (unhideR BB).size))
        have R_Z := hideR r
        have I_Z := hideR i
        have S_Z := hideR (is_small r i)
        have M_Z : l_Z ≤ 1000000 := unhideR S_Z
        clear r i b
        have C := hideR (rgSame_any _ _ _ _ _ _ _ _ _ (unhideR R_V) (unhideR R_Z))
        rw [same_yes ((unhideR I_V).unique (unhideR I_Z) (fun n => by rw [nrm_is (unhideR I_P), nrm_is (unhideR I_Q), notP_max, notP_max]; exact part_not _ _))] at C
        go_wp2_with fail
        refine (unhideR C).mono ?_
        clear C
        rintro e w14 ⟨rfl, b⟩
        replace R_A := hideR ((unhideR R_A).later b (Nat.le_refl _))
        replace R_P := hideR ((unhideR R_P).later b (Nat.le_refl _))
        replace R_Q := hideR ((unhideR R_Q).later b (Nat.le_refl _))
        replace R_V := hideR ((unhideR R_V).later b (Nat.le_refl _))
        replace R_Z := hideR ((unhideR R_Z).later b (Nat.le_refl _))
        replace BB := hideR ((unhideR BB).trans (b.mono (unhideR BB).size))
        clear b
        go_wp2_with fail
        go_ret
        exact ⟨rfl, unhideR BB⟩

end Go.Proofs.Ytjflejfpjkoamaa
