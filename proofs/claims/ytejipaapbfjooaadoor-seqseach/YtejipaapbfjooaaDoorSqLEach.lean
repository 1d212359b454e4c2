/- The walk of the statement SeqsEach. -/
import Derived.Test.YtejipaapbfjooaaDoorSqLBase
namespace Go.Proofs.YtejipaapbfjooaaDoor
open Go.RowKit
set_option linter.unusedVariables false
set_option linter.unusedSimpArgs false

theorem hits_take {P : List Int} {S : List (List (Int × Int))} {i : Nat} {s : List (Int × Int)} (h : S.take (i + 1) = S.take i ++ [s]) : Q.hitsL P (S.take (i + 1)) = Q.hitsL P (S.take i) + if Q.matchL [s] P = P.length then 1 else 0 := by
  unfold Q.hitsL
  rw [h, List.countP_append]
  by_cases c : Q.matchL [s] P = P.length <;> simp [c]
/-- one sequence of several, as a slice -/
theorem Sq.one {w : World} {b off len cap : Nat} {S : List (List (Int × Int))} (h : Sq w (some ⟨b, off, none⟩) len cap S) {i : Nat} (hi : i < len) {s : List (Int × Int)} (hs : S[i]? = some s) : Sq w (some ⟨b, off + i, none⟩) 1 (cap - i) [s] := by
  obtain ⟨b', off', x, c, s', e, es, -, -, hc, hr⟩ := h.at i hi
  rw [hs] at es
  injection es with es
  subst es
  injection e with e
  injection e with e1 e2
  subst e1; subst e2
  have h1 := h.hcap
  have h2 := h.hmax
  refine ⟨rfl, by omega, by omega, fun j hj => ?_⟩
  have : j = 0 := by omega
  subst this
  exact ⟨b, off + i, x, c, rfl, hc, hr⟩

set_option maxRecDepth 20000 in
set_option maxHeartbeats 4000000 in
theorem seqsEach_walk (a : Option Addr) (la ca : Nat) (L : List (Int × Int)) (r : Int) (w : World) (hR : Rs w a la ca L) (hW : Wd w) :
    Calls Tryd.prog 5 #[.slice a la ca, .int .i64 r] w fun e w' => e = .returned (.bool true) ∧ Below w.heap.size w w' := by
  have hm2 := hR.hmax
  have hc2 := hR.hcap
  unfold maxLen at hm2
  have AW := hideR (awake3_any w hW)
  have CO := hideR ofSq
  have CM := hideR match_any
  have CH := hideR has_any
  have W0 := hideR hW
  have R0 := hideR hR
  clear hW hR
  go_enter Tryd.func5, Tryd.ntmps5
  go_wp2_with fail
  refine (unhideR AW).mono ?_
  rintro e w1 ⟨rfl, b1⟩
  have R1 := hideR ((unhideR R0).later b1 (Nat.le_refl _))
  have W1 := hideR ((unhideR W0).later b1 (unhideR W0).pos)
  have B1 := hideR b1
  have s1 := b1.size
  clear W0 R0 AW b1
  cases hmay : U.mayB r
  · have CQ := hideR (fun W => put_no r W hmay)
    clear hmay
    go_wp2_with fail
    refine (unhideR CQ _).mono ?_
    rintro e w5 ⟨rfl, rfl⟩
    by_cases hl : 20 < la
    · go_wp2_with fail
      go_ret
      exact ⟨rfl, unhideR B1⟩
    · go_wp2_with fail
      go_ret
      exact ⟨rfl, unhideR B1⟩
  · have CQ := hideR (fun W => sput_bs r W hmay)
    have HM := hideR hmay
    clear hmay
    have hpl := U.putL_len r
    obtain ⟨P, hP⟩ : ∃ P, U.putL r = P := ⟨_, rfl⟩
    have HP := hideR hP
    rw [hP] at CQ hpl
    clear hP
    go_wp2_with fail
    refine (unhideR CQ _).mono ?_
    rintro e w2 ⟨k5, rfl, p2, b2⟩
    have R2 := hideR ((unhideR R1).later b2 (Nat.le_refl _))
    have W2 := hideR ((unhideR W1).later b2 (unhideR W1).pos)
    have P2 := hideR p2
    have B2 := hideR ((unhideR B1).trans (b2.mono s1))
    have s2 := (unhideR B2).size
    clear b2 p2 CQ R1 W1 B1 s1
    by_cases hl : 20 < la
    · go_wp2_with fail
      go_ret
      exact ⟨rfl, unhideR B2⟩
    go_wp2_with fail
    refine (unhideR CO a la ca L w2 (unhideR R2) (by omega) (unhideR W2)).mono ?_
    rintro e w3 ⟨N, x, c, hi, rfl, hS, b3⟩
    have HI := hideR hi
    have S3 := hideR hS
    have hSc := hS.hcap
    have hSm := hS.hmax
    unfold maxLen at hSm
    have R3 := hideR ((unhideR R2).later b3 (Nat.le_refl _))
    have P3 := hideR ((unhideR P2).later b3 (Nat.le_refl _))
    have B3 := hideR ((unhideR B2).trans (b3.mono s2))
    have s3 := (unhideR B3).size
    have EQ := hideR (show Q.hitsL P (Q.ofN N) = if G.hasB L r = true then 1 else 0 by rw [← unhideR HP, Q.each_of hi.1 (unhideR HM), hi.2, nrm_has (unhideR HM)])
    clear hi hS b3 R2 P2 W2 B2 s2 CO
    generalize Q.ofN N = S at *
    obtain ⟨sl, hsl⟩ : ∃ sl, S.length = sl := ⟨_, rfl⟩
    rw [hsl] at S3 hSc
    rw [hsl]
    have HSL := hideR hsl
    clear hsl
    go_wp2_with fail
    go_loopw [9, 10] (fun v i wr => ∃ (j n : Nat), j ≤ sl ∧ n ≤ j ∧ i = .int .i64 j ∧ v = .int .i64 n ∧ Hid (Q.hitsL P (S.take j) = n) ∧ Below w3.heap.size w3 wr) (fun _ i _ => sl - (intOf i).toNat)
    case atStart => exact ⟨0, 0, Nat.zero_le _, Nat.le_refl _, rfl, rfl, rfl, Below.refl _ _⟩
    case round =>
      obtain ⟨j, n, hj, hnj, rfl, rfl, hf, hb⟩ := hrel
      by_cases hlt : j < sl
      · have SW := (unhideR S3).later hb (Nat.le_refl _)
        obtain ⟨b, off, x', c', s, rfl, es, -, htk, -, -⟩ := SW.at j hlt
        have C := hideR (unhideR CM (some ⟨b, off + j, none⟩) 1 (c - j) [s] (some ⟨k5, 0, none⟩) P.length P.length P 0 wr (SW.one hlt es) ((unhideR P3).later hb (Nat.le_refl _)) (fun e => by cases e))
        rw [Q.rest_zero] at C
        have HT := hideR (hits_take (P := P) htk)
        clear SW es htk
        generalize Q.matchL [s] P = M at C HT
        go_wp2_with fail
        refine (unhideR C).mono ?_
        rintro e w4 ⟨rfl, b4⟩
        have B4 : Below w3.heap.size w3 w4 := hb.trans (b4.mono hb.size)
        clear b4 C
        by_cases hin : M = P.length
        · subst hin
          have st : Hid (Q.hitsL P (S.take (j + 1)) = n + 1) := by
            show _ = _
            rw [unhideR HT, hf.out, if_pos rfl]
          clear hf HT
          go_wp2_with fail
          go_roundw
          case rel => exact ⟨j + 1, n + 1, by omega, by omega, by go_num, by go_num, st, B4⟩
          case measure => simp [intOf]; omega
        · have st : Hid (Q.hitsL P (S.take (j + 1)) = n) := by
            show _ = _
            rw [unhideR HT, hf.out, if_neg hin, Nat.add_zero]
          have hq : ((M : Int) == (P.length : Int)) = false := by simp; omega
          clear hf HT hin
          go_wp2_with fail
          go_roundw
          case rel => exact ⟨j + 1, n, by omega, by omega, by go_num, rfl, st, B4⟩
          case measure => simp [intOf]; omega
      · have fin : n = if G.hasB L r = true then 1 else 0 := by
          rw [← unhideR EQ, ← hf.out, List.take_of_length_le (by have := unhideR HSL; omega)]
        have RR := hideR ((unhideR R3).later hb (Nat.le_refl _))
        have BB := hideR ((unhideR B3).trans (hb.mono s3))
        have sb := (unhideR BB).size
        clear hf EQ
        rcases Bool.eq_false_or_eq_true (G.hasB L r) with hh | hh
        · rw [hh, if_pos rfl] at fin
          subst fin
          have HH := hideR hh
          clear hh
          go_wp2_with fail
          refine (unhideR CH a la ca L r wr (unhideR RR)).mono ?_
          rintro e w4 ⟨rfl, b4⟩
          have B4 := hideR ((unhideR BB).trans (b4.mono sb))
          clear b4
          rw [unhideR HH]
          go_wp2_with fail
          go_ret
          exact ⟨rfl, unhideR B4⟩
        · rw [hh, if_neg (by simp)] at fin
          subst fin
          have HH := hideR hh
          clear hh
          go_wp2_with fail
          refine (unhideR CH a la ca L r wr (unhideR RR)).mono ?_
          rintro e w4 ⟨rfl, b4⟩
          have B4 := hideR ((unhideR BB).trans (b4.mono sb))
          clear b4
          rw [unhideR HH]
          go_wp2_with fail
          go_ret
          exact ⟨rfl, unhideR B4⟩

end Go.Proofs.YtejipaapbfjooaaDoor
