/- RangesOne: walked. -/
import Derived.Test.YtjflejfpjkoamaaRgLawBase
namespace Go.Proofs.Ytjflejfpjkoamaa
open Go.RowKit
set_option linter.unusedVariables false

theorem one_is {n : Int} (h0 : 0 ≤ n) (h1 : n ≤ 1114111) : G.Is [(n, n)] (nrm [(n, n)]) := by
  have m : G.mayB [(n, n)] = true := by unfold G.mayB; rw [G.mayFrom_one]; exact ⟨h0, Int.le_refl _, h1⟩
  exact (G.Is.self m).congr fun x => (nrm_is (G.Is.self m) x).symm
theorem one_at {n : Int} (h0 : 0 ≤ n) (h1 : n ≤ 1114111) (m : Int) : nrm [(n, n)] m = decide (m = n) := by
  rw [← (one_is h0 h1).2, G.hasB_one]
  rw [Bool.eq_iff_iff]; simp only [Bool.and_eq_true, decide_eq_true_eq]; omega
theorem nrm_in {l : List (Int × Int)} {n : Int} (h0 : 0 ≤ n) (h1 : n ≤ 1114111) : nrm l n = G.hasB l n := by
  unfold nrm G.dom; rw [decide_eq_true h0, decide_eq_true h1]; rfl
theorem one_size {n : Int} (h0 : 0 ≤ n) (h1 : n ≤ 1114111) : G.size (nrm [(n, n)]) = 1 := by
  rw [← (one_is h0 h1).size]; simp [G.sizeL]
theorem one_size1 {l : List (Int × Int)} {n : Int} {p q : Int → Bool} (h0 : 0 ≤ n) (h1 : n ≤ 1114111) (hp : ∀ m, p m = (nrm l m || nrm [(n, n)] m)) (hq : ∀ m, q m = (nrm l m && !nrm [(n, n)] m)) : G.size p - G.size q = 1 := by
  have e1 := G.size_or q (nrm [(n, n)])
  have e2 : G.size (fun m => q m || nrm [(n, n)] m) = G.size p := G.size_congr fun m => by rw [hp, hq]; cases nrm l m <;> cases nrm [(n, n)] m <;> rfl
  have e3 : G.size (fun m => q m && nrm [(n, n)] m) = 0 := by
    rw [← G.size_none]; exact G.size_congr fun m => by rw [hq]; cases nrm l m <;> cases nrm [(n, n)] m <;> rfl
  have e4 := one_size h0 h1
  omega
theorem one_size2y {l : List (Int × Int)} {n : Int} {p : Int → Bool} (h0 : 0 ≤ n) (h1 : n ≤ 1114111) (hx : G.hasB l n = true) (hp : ∀ m, p m = (nrm l m || nrm [(n, n)] m)) : (G.size p == G.size (nrm l)) = true := by
  rw [beq_iff_eq]
  refine G.size_congr fun m => ?_
  rw [hp, one_at h0 h1]
  by_cases e : m = n
  · subst e; rw [nrm_in h0 h1, hx]; rfl
  · rw [decide_eq_false e, Bool.or_false]
theorem one_size2n {l : List (Int × Int)} {n : Int} {p : Int → Bool} (h0 : 0 ≤ n) (h1 : n ≤ 1114111) (hx : G.hasB l n = false) (hp : ∀ m, p m = (nrm l m || nrm [(n, n)] m)) : (G.size p == G.size (nrm l)) = false := by
  rw [beq_eq_false_iff_ne]
  have e1 := G.size_or (nrm l) (nrm [(n, n)])
  have e2 : G.size (fun m => nrm l m || nrm [(n, n)] m) = G.size p := G.size_congr fun m => (hp m).symm
  have e3 : G.size (fun m => nrm l m && nrm [(n, n)] m) = 0 := by
    rw [← G.size_none]
    refine G.size_congr fun m => ?_
    rw [one_at h0 h1]
    by_cases e : m = n
    · subst e; rw [nrm_in h0 h1, hx]; rfl
    · rw [decide_eq_false e, Bool.and_false]
  have e4 := one_size h0 h1
  omega
theorem one_less_n {l q : List (Int × Int)} {n : Int} (h0 : 0 ≤ n) (h1 : n ≤ 1114111) (hq : G.Is q fun m => nrm l m && !nrm [(n, n)] m) : G.hasB q n = false := by
  rw [hq.2]
  show (nrm l n && !nrm [(n, n)] n) = false
  rw [one_at h0 h1]; simp
theorem one_more_n {l q : List (Int × Int)} {n : Int} (h0 : 0 ≤ n) (h1 : n ≤ 1114111) (hq : G.Is q fun m => nrm l m || nrm [(n, n)] m) : G.hasB q n = true := by
  rw [hq.2]
  show (nrm l n || nrm [(n, n)] n) = true
  rw [one_at h0 h1]; simp
theorem one_less_k {l q : List (Int × Int)} {n k : Int} (h0 : 0 ≤ n) (h1 : n ≤ 1114111) (k0 : 0 ≤ k) (k1 : k ≤ 1114111) (hk : ¬ k = n) (hq : G.Is q fun m => nrm l m && !nrm [(n, n)] m) : G.hasB q k = G.hasB l k := by
  rw [hq.2]
  show (nrm l k && !nrm [(n, n)] k) = G.hasB l k
  rw [one_at h0 h1, nrm_in k0 k1, decide_eq_false hk]; simp
theorem one_more_k {l q : List (Int × Int)} {n k : Int} (h0 : 0 ≤ n) (h1 : n ≤ 1114111) (k0 : 0 ≤ k) (k1 : k ≤ 1114111) (hk : ¬ k = n) (hq : G.Is q fun m => nrm l m || nrm [(n, n)] m) : G.hasB q k = G.hasB l k := by
  rw [hq.2]
  show (nrm l k || nrm [(n, n)] k) = G.hasB l k
  rw [one_at h0 h1, nrm_in k0 k1, decide_eq_false hk]; simp

set_option maxHeartbeats 8000000 in
theorem rangesOne_walk (a_A : Option Addr) (l_A c_A : Nat) (L_A : List (Int × Int)) (n k : Int) (w : World) (h_A : Rs w a_A l_A c_A L_A) (f_n : fits n) (f_k : fits k) :
    Calls Try.prog 9 #[.slice a_A l_A c_A, .int .i64 n, .int .i64 k] w fun e w' => e = .returned (.bool true) ∧ Below w.heap.size w w' := by
  have m_A := h_A.hmax
  have k_A := h_A.hcap
  unfold maxLen at m_A
  have R_A := hideR h_A
  clear h_A
  have F_n := hideR f_n
  unfold fits at f_n
  obtain ⟨f_n0, f_n1⟩ := f_n
  have F_k := hideR f_k
  unfold fits at f_k
  obtain ⟨f_k0, f_k1⟩ := f_k
  by_cases t_A : 60 < l_A
  · have t_A' : (60 : Int) < (l_A : Int) := by omega
    go_enter Try.func9, Try.ntmps9
    go_wp2_with fail
    refine (rgAwake_any _).mono ?_
    rintro e w0 ⟨rfl, b⟩
    go_wp2_with fail
    go_ret
    exact ⟨rfl, b⟩
  · have t_A' : (l_A : Int) ≤ 60 := by omega
    have S_A : Hid (l_A ≤ 1000000) := by show _ ≤ _; omega
    by_cases t1 : n < 0
    · go_enter Try.func9, Try.ntmps9
      go_wp2_with fail
      refine (rgAwake_any _).mono ?_
      rintro e w0 ⟨rfl, b⟩
      go_wp2_with fail
      go_ret
      exact ⟨rfl, b⟩
    · have h_n0 : 0 ≤ n := by omega
      by_cases t2 : 1114111 < n
      · go_enter Try.func9, Try.ntmps9
        go_wp2_with fail
        refine (rgAwake_any _).mono ?_
        rintro e w0 ⟨rfl, b⟩
        go_wp2_with fail
        go_ret
        exact ⟨rfl, b⟩
      · have h_n1 : n ≤ 1114111 := by omega
        by_cases t3 : k = n
        · have t3' : (k == n) = true := by rw [beq_iff_eq]; exact t3
          clear t3
          go_enter Try.func9, Try.ntmps9
          go_wp2_with fail
          refine (rgAwake_any _).mono ?_
          rintro e w0 ⟨rfl, b⟩
          go_wp2_with fail
          go_ret
          exact ⟨rfl, b⟩
        · have t3' : (k == n) = false := by rw [beq_eq_false_iff_ne]; exact t3
          have HK := hideR t3
          clear t3
          by_cases t4 : k < 0
          · go_enter Try.func9, Try.ntmps9
            go_wp2_with fail
            refine (rgAwake_any _).mono ?_
            rintro e w0 ⟨rfl, b⟩
            go_wp2_with fail
            go_ret
            exact ⟨rfl, b⟩
          · have h_k0 : 0 ≤ k := by omega
            by_cases t5 : 1114111 < k
            · go_enter Try.func9, Try.ntmps9
              go_wp2_with fail
              refine (rgAwake_any _).mono ?_
              rintro e w0 ⟨rfl, b⟩
              go_wp2_with fail
              go_ret
              exact ⟨rfl, b⟩
            · have h_k1 : k ≤ 1114111 := by omega
              obtain ⟨x, hx⟩ : ∃ x, G.hasB L_A n = x := ⟨_, rfl⟩
              have HX := hideR hx
              clear hx
              cases x with
              | true =>
                go_enter Try.func9, Try.ntmps9
                go_wp2_with fail
                refine (rgAwake_any _).mono ?_
                rintro e w0 ⟨rfl, b⟩
                have BB := hideR b
                replace R_A := hideR ((unhideR R_A).later b (Nat.le_refl _))
                clear b
                replace R_A := hideR ((unhideR R_A).later (Below.new1 (boxRg n n)) (Nat.le_refl _))
                have R_O := hideR (Rs.single w0 n n (unhideR F_n) (unhideR F_n) _ rfl)
                replace BB := hideR ((unhideR BB).alloc (unhideR BB).size (boxRg n n))
                have S_O : Hid (1 ≤ 1000000) := by show _ ≤ _; omega
                have C := hideR (rgEither_any _ _ _ _ _ _ _ _ _ (unhideR R_A) (unhideR R_O) (unhideR S_A) (unhideR S_O))
                go_wp2_with fail
                refine (unhideR C).mono ?_
                clear C
                rintro e w1 ⟨a_P, l_P, c_P, L_P, rfl, r, i, b⟩
                replace R_A := hideR ((unhideR R_A).later b (Nat.le_refl _))
                replace R_O := hideR ((unhideR R_O).later b (Nat.le_refl _))
                replace BB := hideR ((unhideR BB).trans (b.mono (unhideR BB).size))
                have R_P := hideR r
                have I_P := hideR i
                have S_P := hideR (is_small r i)
                have M_P : l_P ≤ 1000000 := unhideR S_P
                clear r i b
                have C := hideR (rgLess_any _ _ _ _ _ _ _ _ _ (unhideR R_A) (unhideR R_O) (unhideR S_A) (unhideR S_O))
                go_wp2_with fail
                refine (unhideR C).mono ?_
                clear C
                rintro e w2 ⟨a_Q, l_Q, c_Q, L_Q, rfl, r, i, b⟩
                replace R_A := hideR ((unhideR R_A).later b (Nat.le_refl _))
                replace R_O := hideR ((unhideR R_O).later b (Nat.le_refl _))
                replace R_P := hideR ((unhideR R_P).later b (Nat.le_refl _))
                replace BB := hideR ((unhideR BB).trans (b.mono (unhideR BB).size))
                have R_Q := hideR r
                have I_Q := hideR i
                have S_Q := hideR (is_small r i)
                have M_Q : l_Q ≤ 1000000 := unhideR S_Q
                clear r i b
                clear R_O
                have C := hideR (has_any _ _ _ _ n _ (unhideR R_A))
                rw [unhideR HX] at C
                go_wp2_with fail
                refine (unhideR C).mono ?_
                clear C
                rintro e w3 ⟨rfl, b⟩
                replace R_A := hideR ((unhideR R_A).later b (Nat.le_refl _))
                replace R_P := hideR ((unhideR R_P).later b (Nat.le_refl _))
                replace R_Q := hideR ((unhideR R_Q).later b (Nat.le_refl _))
                replace BB := hideR ((unhideR BB).trans (b.mono (unhideR BB).size))
                clear b
                obtain ⟨z1, hz1⟩ : ∃ z, G.size (nrm L_P) = z := ⟨_, rfl⟩
                have z1b := G.size_bounds (nrm L_P)
                rw [hz1] at z1b
                obtain ⟨z1b0, z1b1⟩ := z1b
                have Hz1 := hideR hz1
                have C := hideR (rgSize_any _ _ _ _ _ (unhideR R_P) (unhideR S_P))
                rw [hz1] at C
                go_wp2_with fail
                refine (unhideR C).mono ?_
                clear C
                rintro e w4 ⟨rfl, b⟩
                replace R_A := hideR ((unhideR R_A).later b (Nat.le_refl _))
                replace R_P := hideR ((unhideR R_P).later b (Nat.le_refl _))
                replace R_Q := hideR ((unhideR R_Q).later b (Nat.le_refl _))
                replace BB := hideR ((unhideR BB).trans (b.mono (unhideR BB).size))
                clear b hz1
                obtain ⟨z2, hz2⟩ : ∃ z, G.size (nrm L_Q) = z := ⟨_, rfl⟩
                have z2b := G.size_bounds (nrm L_Q)
                rw [hz2] at z2b
                obtain ⟨z2b0, z2b1⟩ := z2b
                have Hz2 := hideR hz2
                have C := hideR (rgSize_any _ _ _ _ _ (unhideR R_Q) (unhideR S_Q))
                rw [hz2] at C
                go_wp2_with fail
                refine (unhideR C).mono ?_
                clear C
                rintro e w5 ⟨rfl, b⟩
                replace R_A := hideR ((unhideR R_A).later b (Nat.le_refl _))
                replace R_P := hideR ((unhideR R_P).later b (Nat.le_refl _))
                replace R_Q := hideR ((unhideR R_Q).later b (Nat.le_refl _))
                replace BB := hideR ((unhideR BB).trans (b.mono (unhideR BB).size))
                clear b hz2
                have q1 : (z1 - z2 != 1) = false := by
                  rw [bne_eq_false_iff_eq, ← unhideR Hz1, ← unhideR Hz2]
                  exact one_size1 h_n0 h_n1 (nrm_is (unhideR I_P)) (nrm_is (unhideR I_Q))
                have C := hideR (has_any _ _ _ _ n _ (unhideR R_Q))
                rw [one_less_n h_n0 h_n1 (unhideR I_Q)] at C
                go_wp2_with fail
                refine (unhideR C).mono ?_
                clear C
                rintro e w6 ⟨rfl, b⟩
                replace R_A := hideR ((unhideR R_A).later b (Nat.le_refl _))
                replace R_P := hideR ((unhideR R_P).later b (Nat.le_refl _))
                replace R_Q := hideR ((unhideR R_Q).later b (Nat.le_refl _))
                replace BB := hideR ((unhideR BB).trans (b.mono (unhideR BB).size))
                clear b
                have C := hideR (has_any _ _ _ _ n _ (unhideR R_P))
                rw [one_more_n h_n0 h_n1 (unhideR I_P)] at C
                go_wp2_with fail
                refine (unhideR C).mono ?_
                clear C
                rintro e w7 ⟨rfl, b⟩
                replace R_A := hideR ((unhideR R_A).later b (Nat.le_refl _))
                replace R_P := hideR ((unhideR R_P).later b (Nat.le_refl _))
                replace R_Q := hideR ((unhideR R_Q).later b (Nat.le_refl _))
                replace BB := hideR ((unhideR BB).trans (b.mono (unhideR BB).size))
                clear b
                have C := hideR (rgSize_any _ _ _ _ _ (unhideR R_P) (unhideR S_P))
                rw [unhideR Hz1] at C
                go_wp2_with fail
                refine (unhideR C).mono ?_
                clear C
                rintro e w8 ⟨rfl, b⟩
                replace R_A := hideR ((unhideR R_A).later b (Nat.le_refl _))
                replace R_P := hideR ((unhideR R_P).later b (Nat.le_refl _))
                replace R_Q := hideR ((unhideR R_Q).later b (Nat.le_refl _))
                replace BB := hideR ((unhideR BB).trans (b.mono (unhideR BB).size))
                clear b
                obtain ⟨z3, hz3⟩ : ∃ z, G.size (nrm L_A) = z := ⟨_, rfl⟩
                have z3b := G.size_bounds (nrm L_A)
                rw [hz3] at z3b
                obtain ⟨z3b0, z3b1⟩ := z3b
                have Hz3 := hideR hz3
                have C := hideR (rgSize_any _ _ _ _ _ (unhideR R_A) (unhideR S_A))
                rw [hz3] at C
                go_wp2_with fail
                refine (unhideR C).mono ?_
                clear C
                rintro e w9 ⟨rfl, b⟩
                replace R_A := hideR ((unhideR R_A).later b (Nat.le_refl _))
                replace R_P := hideR ((unhideR R_P).later b (Nat.le_refl _))
                replace R_Q := hideR ((unhideR R_Q).later b (Nat.le_refl _))
                replace BB := hideR ((unhideR BB).trans (b.mono (unhideR BB).size))
                clear b hz3
                have q2 : (z1 == z3) = true := by
                  rw [← unhideR Hz1, ← unhideR Hz3]
                  exact one_size2y h_n0 h_n1 (unhideR HX) (nrm_is (unhideR I_P))
                have C := hideR (has_any _ _ _ _ k _ (unhideR R_P))
                rw [one_more_k h_n0 h_n1 h_k0 h_k1 (unhideR HK) (unhideR I_P)] at C
                go_wp2_with fail
                refine (unhideR C).mono ?_
                clear C
                rintro e w10 ⟨rfl, b⟩
                replace R_A := hideR ((unhideR R_A).later b (Nat.le_refl _))
                replace R_P := hideR ((unhideR R_P).later b (Nat.le_refl _))
                replace R_Q := hideR ((unhideR R_Q).later b (Nat.le_refl _))
                replace BB := hideR ((unhideR BB).trans (b.mono (unhideR BB).size))
                clear b
                have C := hideR (has_any _ _ _ _ k _ (unhideR R_A))
                go_wp2_with fail
                refine (unhideR C).mono ?_
                clear C
                rintro e w11 ⟨rfl, b⟩
                replace R_A := hideR ((unhideR R_A).later b (Nat.le_refl _))
                replace R_P := hideR ((unhideR R_P).later b (Nat.le_refl _))
                replace R_Q := hideR ((unhideR R_Q).later b (Nat.le_refl _))
                replace BB := hideR ((unhideR BB).trans (b.mono (unhideR BB).size))
                clear b
                have C := hideR (has_any _ _ _ _ k _ (unhideR R_Q))
                rw [one_less_k h_n0 h_n1 h_k0 h_k1 (unhideR HK) (unhideR I_Q)] at C
                go_wp2_with fail
                refine (unhideR C).mono ?_
                clear C
                rintro e w12 ⟨rfl, b⟩
                replace R_A := hideR ((unhideR R_A).later b (Nat.le_refl _))
                replace R_P := hideR ((unhideR R_P).later b (Nat.le_refl _))
                replace R_Q := hideR ((unhideR R_Q).later b (Nat.le_refl _))
                replace BB := hideR ((unhideR BB).trans (b.mono (unhideR BB).size))
                clear b
                have C := hideR (has_any _ _ _ _ k _ (unhideR R_A))
                go_wp2_with fail
                refine (unhideR C).mono ?_
                clear C
                rintro e w13 ⟨rfl, b⟩
                replace R_A := hideR ((unhideR R_A).later b (Nat.le_refl _))
                replace R_P := hideR ((unhideR R_P).later b (Nat.le_refl _))
                replace R_Q := hideR ((unhideR R_Q).later b (Nat.le_refl _))
                replace BB := hideR ((unhideR BB).trans (b.mono (unhideR BB).size))
                clear b
                go_wp2_with fail
                go_ret
                exact ⟨rfl, unhideR BB⟩
              | false =>
                go_enter Try.func9, Try.ntmps9
                go_wp2_with fail
                refine (rgAwake_any _).mono ?_
                rintro e w0 ⟨rfl, b⟩
                have BB := hideR b
                replace R_A := hideR ((unhideR R_A).later b (Nat.le_refl _))
                clear b
                replace R_A := hideR ((unhideR R_A).later (Below.new1 (boxRg n n)) (Nat.le_refl _))
                have R_O := hideR (Rs.single w0 n n (unhideR F_n) (unhideR F_n) _ rfl)
                replace BB := hideR ((unhideR BB).alloc (unhideR BB).size (boxRg n n))
                have S_O : Hid (1 ≤ 1000000) := by show _ ≤ _; omega
                have C := hideR (rgEither_any _ _ _ _ _ _ _ _ _ (unhideR R_A) (unhideR R_O) (unhideR S_A) (unhideR S_O))
                go_wp2_with fail
                refine (unhideR C).mono ?_
                clear C
                rintro e w1 ⟨a_P, l_P, c_P, L_P, rfl, r, i, b⟩
                replace R_A := hideR ((unhideR R_A).later b (Nat.le_refl _))
                replace R_O := hideR ((unhideR R_O).later b (Nat.le_refl _))
                replace BB := hideR ((unhideR BB).trans (b.mono (unhideR BB).size))
                have R_P := hideR r
                have I_P := hideR i
                have S_P := hideR (is_small r i)
                have M_P : l_P ≤ 1000000 := unhideR S_P
                clear r i b
                have C := hideR (rgLess_any _ _ _ _ _ _ _ _ _ (unhideR R_A) (unhideR R_O) (unhideR S_A) (unhideR S_O))
                go_wp2_with fail
                refine (unhideR C).mono ?_
                clear C
                rintro e w2 ⟨a_Q, l_Q, c_Q, L_Q, rfl, r, i, b⟩
                replace R_A := hideR ((unhideR R_A).later b (Nat.le_refl _))
                replace R_O := hideR ((unhideR R_O).later b (Nat.le_refl _))
                replace R_P := hideR ((unhideR R_P).later b (Nat.le_refl _))
                replace BB := hideR ((unhideR BB).trans (b.mono (unhideR BB).size))
                have R_Q := hideR r
                have I_Q := hideR i
                have S_Q := hideR (is_small r i)
                have M_Q : l_Q ≤ 1000000 := unhideR S_Q
                clear r i b
                clear R_O
                have C := hideR (has_any _ _ _ _ n _ (unhideR R_A))
                rw [unhideR HX] at C
                go_wp2_with fail
                refine (unhideR C).mono ?_
                clear C
                rintro e w3 ⟨rfl, b⟩
                replace R_A := hideR ((unhideR R_A).later b (Nat.le_refl _))
                replace R_P := hideR ((unhideR R_P).later b (Nat.le_refl _))
                replace R_Q := hideR ((unhideR R_Q).later b (Nat.le_refl _))
                replace BB := hideR ((unhideR BB).trans (b.mono (unhideR BB).size))
                clear b
                obtain ⟨z1, hz1⟩ : ∃ z, G.size (nrm L_P) = z := ⟨_, rfl⟩
                have z1b := G.size_bounds (nrm L_P)
                rw [hz1] at z1b
                obtain ⟨z1b0, z1b1⟩ := z1b
                have Hz1 := hideR hz1
                have C := hideR (rgSize_any _ _ _ _ _ (unhideR R_P) (unhideR S_P))
                rw [hz1] at C
                go_wp2_with fail
                refine (unhideR C).mono ?_
                clear C
                rintro e w4 ⟨rfl, b⟩
                replace R_A := hideR ((unhideR R_A).later b (Nat.le_refl _))
                replace R_P := hideR ((unhideR R_P).later b (Nat.le_refl _))
                replace R_Q := hideR ((unhideR R_Q).later b (Nat.le_refl _))
                replace BB := hideR ((unhideR BB).trans (b.mono (unhideR BB).size))
                clear b hz1
                obtain ⟨z2, hz2⟩ : ∃ z, G.size (nrm L_Q) = z := ⟨_, rfl⟩
                have z2b := G.size_bounds (nrm L_Q)
                rw [hz2] at z2b
                obtain ⟨z2b0, z2b1⟩ := z2b
                have Hz2 := hideR hz2
                have C := hideR (rgSize_any _ _ _ _ _ (unhideR R_Q) (unhideR S_Q))
                rw [hz2] at C
                go_wp2_with fail
                refine (unhideR C).mono ?_
                clear C
                rintro e w5 ⟨rfl, b⟩
                replace R_A := hideR ((unhideR R_A).later b (Nat.le_refl _))
                replace R_P := hideR ((unhideR R_P).later b (Nat.le_refl _))
                replace R_Q := hideR ((unhideR R_Q).later b (Nat.le_refl _))
                replace BB := hideR ((unhideR BB).trans (b.mono (unhideR BB).size))
                clear b hz2
                have q1 : (z1 - z2 != 1) = false := by
                  rw [bne_eq_false_iff_eq, ← unhideR Hz1, ← unhideR Hz2]
                  exact one_size1 h_n0 h_n1 (nrm_is (unhideR I_P)) (nrm_is (unhideR I_Q))
                have C := hideR (has_any _ _ _ _ n _ (unhideR R_Q))
                rw [one_less_n h_n0 h_n1 (unhideR I_Q)] at C
                go_wp2_with fail
                refine (unhideR C).mono ?_
                clear C
                rintro e w6 ⟨rfl, b⟩
                replace R_A := hideR ((unhideR R_A).later b (Nat.le_refl _))
                replace R_P := hideR ((unhideR R_P).later b (Nat.le_refl _))
                replace R_Q := hideR ((unhideR R_Q).later b (Nat.le_refl _))
                replace BB := hideR ((unhideR BB).trans (b.mono (unhideR BB).size))
                clear b
                have C := hideR (has_any _ _ _ _ n _ (unhideR R_P))
                rw [one_more_n h_n0 h_n1 (unhideR I_P)] at C
                go_wp2_with fail
                refine (unhideR C).mono ?_
                clear C
                rintro e w7 ⟨rfl, b⟩
                replace R_A := hideR ((unhideR R_A).later b (Nat.le_refl _))
                replace R_P := hideR ((unhideR R_P).later b (Nat.le_refl _))
                replace R_Q := hideR ((unhideR R_Q).later b (Nat.le_refl _))
                replace BB := hideR ((unhideR BB).trans (b.mono (unhideR BB).size))
                clear b
                have C := hideR (rgSize_any _ _ _ _ _ (unhideR R_P) (unhideR S_P))
                rw [unhideR Hz1] at C
                go_wp2_with fail
                refine (unhideR C).mono ?_
                clear C
                rintro e w8 ⟨rfl, b⟩
                replace R_A := hideR ((unhideR R_A).later b (Nat.le_refl _))
                replace R_P := hideR ((unhideR R_P).later b (Nat.le_refl _))
                replace R_Q := hideR ((unhideR R_Q).later b (Nat.le_refl _))
                replace BB := hideR ((unhideR BB).trans (b.mono (unhideR BB).size))
                clear b
                obtain ⟨z3, hz3⟩ : ∃ z, G.size (nrm L_A) = z := ⟨_, rfl⟩
                have z3b := G.size_bounds (nrm L_A)
                rw [hz3] at z3b
                obtain ⟨z3b0, z3b1⟩ := z3b
                have Hz3 := hideR hz3
                have C := hideR (rgSize_any _ _ _ _ _ (unhideR R_A) (unhideR S_A))
                rw [hz3] at C
                go_wp2_with fail
                refine (unhideR C).mono ?_
                clear C
                rintro e w9 ⟨rfl, b⟩
                replace R_A := hideR ((unhideR R_A).later b (Nat.le_refl _))
                replace R_P := hideR ((unhideR R_P).later b (Nat.le_refl _))
                replace R_Q := hideR ((unhideR R_Q).later b (Nat.le_refl _))
                replace BB := hideR ((unhideR BB).trans (b.mono (unhideR BB).size))
                clear b hz3
                have q2 : (z1 == z3) = false := by
                  rw [← unhideR Hz1, ← unhideR Hz3]
                  exact one_size2n h_n0 h_n1 (unhideR HX) (nrm_is (unhideR I_P))
                have C := hideR (has_any _ _ _ _ k _ (unhideR R_P))
                rw [one_more_k h_n0 h_n1 h_k0 h_k1 (unhideR HK) (unhideR I_P)] at C
                go_wp2_with fail
                refine (unhideR C).mono ?_
                clear C
                rintro e w10 ⟨rfl, b⟩
                replace R_A := hideR ((unhideR R_A).later b (Nat.le_refl _))
                replace R_P := hideR ((unhideR R_P).later b (Nat.le_refl _))
                replace R_Q := hideR ((unhideR R_Q).later b (Nat.le_refl _))
                replace BB := hideR ((unhideR BB).trans (b.mono (unhideR BB).size))
                clear b
                have C := hideR (has_any _ _ _ _ k _ (unhideR R_A))
                go_wp2_with fail
                refine (unhideR C).mono ?_
                clear C
                rintro e w11 ⟨rfl, b⟩
                replace R_A := hideR ((unhideR R_A).later b (Nat.le_refl _))
                replace R_P := hideR ((unhideR R_P).later b (Nat.le_refl _))
                replace R_Q := hideR ((unhideR R_Q).later b (Nat.le_refl _))
                replace BB := hideR ((unhideR BB).trans (b.mono (unhideR BB).size))
                clear b
                have C := hideR (has_any _ _ _ _ k _ (unhideR R_Q))
                rw [one_less_k h_n0 h_n1 h_k0 h_k1 (unhideR HK) (unhideR I_Q)] at C
                go_wp2_with fail
                refine (unhideR C).mono ?_
                clear C
                rintro e w12 ⟨rfl, b⟩
                replace R_A := hideR ((unhideR R_A).later b (Nat.le_refl _))
                replace R_P := hideR ((unhideR R_P).later b (Nat.le_refl _))
                replace R_Q := hideR ((unhideR R_Q).later b (Nat.le_refl _))
                replace BB := hideR ((unhideR BB).trans (b.mono (unhideR BB).size))
                clear b
                have C := hideR (has_any _ _ _ _ k _ (unhideR R_A))
                go_wp2_with fail
                refine (unhideR C).mono ?_
                clear C
                rintro e w13 ⟨rfl, b⟩
                replace R_A := hideR ((unhideR R_A).later b (Nat.le_refl _))
                replace R_P := hideR ((unhideR R_P).later b (Nat.le_refl _))
                replace R_Q := hideR ((unhideR R_Q).later b (Nat.le_refl _))
                replace BB := hideR ((unhideR BB).trans (b.mono (unhideR BB).size))
                clear b
                go_wp2_with fail
                go_ret
                exact ⟨rfl, unhideR BB⟩

end Go.Proofs.Ytjflejfpjkoamaa
