/- The walk of the statement SeqsMatch. -/
import Derived.Test.YtejipaapbfjooaaDoorSqLBase
namespace Go.Proofs.YtejipaapbfjooaaDoor
open Go.RowKit
set_option linter.unusedVariables false
set_option linter.unusedSimpArgs false

set_option maxRecDepth 20000 in
set_option maxHeartbeats 4000000 in
theorem seqsMatch_walk (a : Option Addr) (la ca : Nat) (L : List (Int × Int)) (ba : Option Addr) (bl bc : Nat) (l : List Int) (at' : Int) (w : World) (hR : Rs w a la ca L) (h : Bs w ba bl bc l) (hn : ba = none → bc = 0) (hW : Wd w) :
    Calls Tryd.prog 4 #[.slice a la ca, .slice ba bl bc, .int .i64 at'] w fun e w' => e = .returned (.bool true) ∧ Below w.heap.size w w' := by
  have hm := h.hmax
  have hc := h.hcap
  have hm2 := hR.hmax
  have hc2 := hR.hcap
  unfold maxLen at hm hm2
  have AW := hideR (awake3_any w hW)
  have CO := hideR ofSq
  have CM := hideR match_any
  have CN := hideR next_any
  have CH := hideR has_any
  have HN := hideR hn
  have HH := hideR h
  have HW := hideR hW
  have HR := hideR hR
  clear h hn hW hR
  go_enter Tryd.func4, Tryd.ntmps4
  go_wp2_with fail
  refine (unhideR AW).mono ?_
  rintro e w1 ⟨rfl, b1⟩
  have H1 := hideR ((unhideR HH).later b1 (Nat.le_refl _))
  have R1 := hideR ((unhideR HR).later b1 (Nat.le_refl _))
  have W1 := hideR ((unhideR HW).later b1 (unhideR HW).pos)
  have B1 := hideR b1
  have s1 := b1.size
  clear HH HW HR AW b1
  by_cases hl : 20 < la
  · go_wp2_with fail
    go_ret
    exact ⟨rfl, unhideR B1⟩
  by_cases hl2 : 100 < bl
  · go_wp2_with fail
    go_ret
    exact ⟨rfl, unhideR B1⟩
  go_wp2_with fail
  refine (unhideR CN ba bl bc l w1 (unhideR H1) at').mono ?_
  rintro e w2 ⟨rfl, b2⟩
  obtain ⟨r, n, hnx⟩ : ∃ r n, nx l at' = (r, n) := ⟨_, _, rfl⟩
  have HX := hideR hnx
  rw [hnx]
  clear hnx
  have H2 := hideR ((unhideR H1).later b2 (Nat.le_refl _))
  have R2 := hideR ((unhideR R1).later b2 (Nat.le_refl _))
  have W2 := hideR ((unhideR W1).later b2 (unhideR W1).pos)
  have B2 := hideR ((unhideR B1).trans (b2.mono s1))
  have s2 := (unhideR B2).size
  clear b2 B1 H1 R1 W1 CN s1
  by_cases hr : r < 0
  · have H3 := H2
    have R3 := R2
    have W3 := W2
    have B3 := B2
    have s3 := s2
    go_wp2_with fail
    refine (unhideR CO a la ca L w2 (unhideR R3) (by omega) (unhideR W3)).mono ?_
    rintro e w4 ⟨N, x, c, hi, rfl, hS, b4⟩
    have H4 := hideR ((unhideR H3).later b4 (Nat.le_refl _))
    have B4 := hideR ((unhideR B3).trans (b4.mono s3))
    have s4 := (unhideR B4).size
    have hv : Q.matchL (Q.ofN N) (Q.rest l at') = 0 := hit_no hi (unhideR H4).hbytes (unhideR HX) hr
    have C := hideR (unhideR CM x (Q.ofN N).length c (Q.ofN N) ba bl bc l at' w4 hS (unhideR H4) (unhideR HN))
    rw [hv] at C
    have hSc := hS.hcap
    have hSm := hS.hmax
    unfold maxLen at hSm
    generalize (Q.ofN N).length = sl at *
    clear hv hS b4 hi
    go_wp2_with fail
    refine (unhideR C).mono ?_
    rintro e w5 ⟨rfl, b5⟩
    have B5 := hideR ((unhideR B4).trans (b5.mono s4))
    clear b5
    go_wp2_with fail
    go_ret
    exact ⟨rfl, unhideR B5⟩

  · have hr0 : 0 ≤ r := by omega
    go_wp2_with fail
    refine (unhideR CH a la ca L r w2 (unhideR R2)).mono ?_
    rintro e w3 ⟨rfl, b3⟩
    have H3 := hideR ((unhideR H2).later b3 (Nat.le_refl _))
    have R3 := hideR ((unhideR R2).later b3 (Nat.le_refl _))
    have W3 := hideR ((unhideR W2).later b3 (unhideR W2).pos)
    have B3 := hideR ((unhideR B2).trans (b3.mono s2))
    have s3 := (unhideR B3).size
    clear b3 B2 H2 R2 W2 s2
    rcases Bool.eq_false_or_eq_true (G.hasB L r) with hh | hh
    · rw [hh]
      have HHH := hideR hh
      clear hh
      go_wp2_with fail
      refine (unhideR CO a la ca L w3 (unhideR R3) (by omega) (unhideR W3)).mono ?_
      rintro e w4 ⟨N, x, c, hi, rfl, hS, b4⟩
      have H4 := hideR ((unhideR H3).later b4 (Nat.le_refl _))
      have B4 := hideR ((unhideR B3).trans (b4.mono s3))
      have s4 := (unhideR B4).size
      have hv : Q.matchL (Q.ofN N) (Q.rest l at') = n := hit_yes hi (unhideR H4).hbytes (unhideR HX) hr0 (unhideR HHH)
      have C := hideR (unhideR CM x (Q.ofN N).length c (Q.ofN N) ba bl bc l at' w4 hS (unhideR H4) (unhideR HN))
      rw [hv] at C
      have hSc := hS.hcap
      have hSm := hS.hmax
      unfold maxLen at hSm
      generalize (Q.ofN N).length = sl at *
      clear hv hS b4 hi
      go_wp2_with fail
      refine (unhideR C).mono ?_
      rintro e w5 ⟨rfl, b5⟩
      have B5 := hideR ((unhideR B4).trans (b5.mono s4))
      clear b5
      go_wp2_with fail
      go_ret
      exact ⟨rfl, unhideR B5⟩

    · rw [hh]
      have HHH := hideR hh
      clear hh
      go_wp2_with fail
      refine (unhideR CO a la ca L w3 (unhideR R3) (by omega) (unhideR W3)).mono ?_
      rintro e w4 ⟨N, x, c, hi, rfl, hS, b4⟩
      have H4 := hideR ((unhideR H3).later b4 (Nat.le_refl _))
      have B4 := hideR ((unhideR B3).trans (b4.mono s3))
      have s4 := (unhideR B4).size
      have hv : Q.matchL (Q.ofN N) (Q.rest l at') = 0 := hit_not hi (unhideR H4).hbytes (unhideR HX) hr0 (unhideR HHH)
      have C := hideR (unhideR CM x (Q.ofN N).length c (Q.ofN N) ba bl bc l at' w4 hS (unhideR H4) (unhideR HN))
      rw [hv] at C
      have hSc := hS.hcap
      have hSm := hS.hmax
      unfold maxLen at hSm
      generalize (Q.ofN N).length = sl at *
      clear hv hS b4 hi
      go_wp2_with fail
      refine (unhideR C).mono ?_
      rintro e w5 ⟨rfl, b5⟩
      have B5 := hideR ((unhideR B4).trans (b5.mono s4))
      clear b5
      go_wp2_with fail
      go_ret
      exact ⟨rfl, unhideR B5⟩


end Go.Proofs.YtejipaapbfjooaaDoor
