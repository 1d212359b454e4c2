/- The walk of the statement SeqsAll. -/
import Derived.Test.YtejipaapbfjooaaDoorSqLBase
namespace Go.Proofs.YtejipaapbfjooaaDoor
open Go.RowKit
set_option linter.unusedVariables false
set_option linter.unusedSimpArgs false

set_option maxRecDepth 20000 in
set_option maxHeartbeats 4000000 in
theorem seqsAll_walk (a : Option Addr) (len cap : Nat) (l : List Int) (at' : Int) (w : World) (h : Bs w a len cap l) (hn : a = none → cap = 0) (hW : Wd w) :
    Calls Tryd.prog 9 #[.slice a len cap, .int .i64 at'] w fun e w' => e = .returned (.bool true) ∧ Below w.heap.size w w' := by
  have hm := h.hmax
  have hc := h.hcap
  unfold maxLen at hm
  have AW := hideR (awake3_any w hW)
  have CO := hideR ofSq
  have CM := hideR match_any
  have CN := hideR next_any
  have HN := hideR hn
  have HH := hideR h
  have HW := hideR hW
  clear h hn hW
  go_enter Tryd.func9, Tryd.ntmps9
  go_wp2_with fail
  refine (unhideR AW).mono ?_
  rintro e w1 ⟨rfl, b1⟩
  have H1 := hideR ((unhideR HH).later b1 (Nat.le_refl _))
  have W1 := hideR ((unhideR HW).later b1 (unhideR HW).pos)
  have B1 := hideR b1
  have s1 := b1.size
  clear HH HW AW b1
  by_cases hl : 100 < len
  · go_wp2_with fail
    go_ret
    exact ⟨rfl, unhideR B1⟩
  · go_wp2_with fail
    refine (unhideR CO (some ⟨w1.heap.size, 0, none⟩) 1 1 [(0, 1114111)] (w1.alloc (boxRg 0 1114111)) (Rs.single w1 0 1114111 (by unfold fits; omega) (by unfold fits; omega) _ rfl) (by omega) ((unhideR W1).later (Below.new1 _) (unhideR W1).pos)).mono ?_
    rintro e w2 ⟨N, x, c, hi, rfl, hS, b2⟩
    obtain rfl : N = [(0, 1114111)] := hi.unique all_is fun _ => rfl
    have h9 := Q.of_all
    have HS := hideR hS
    have b12 := (Below.new1 (boxRg 0 1114111)).trans (b2.mono (by simp))
    have H2 := hideR ((unhideR H1).later b12 (Nat.le_refl _))
    have B2 := hideR ((unhideR B1).trans (b12.mono s1))
    have s2 := (unhideR B2).size
    have HI := hideR hi
    have hSc := hS.hcap
    have hSm := hS.hmax
    unfold maxLen at hSm
    clear hS b2 b12 hi B1 W1 CO
    generalize hq : Q.ofN [(0, 1114111)] = S9 at *
    have HQ := hideR hq
    clear hq
    rw [h9] at *
    go_wp2_with fail
    refine (unhideR CN a len cap l w2 (unhideR H2) at').mono ?_
    rintro e w3 ⟨rfl, b3⟩
    obtain ⟨r, n, hnx⟩ : ∃ r n, nx l at' = (r, n) := ⟨_, _, rfl⟩
    have HX := hideR hnx
    rw [hnx]
    clear hnx
    have H3 := hideR ((unhideR H2).later b3 (Nat.le_refl _))
    have HS3 := hideR ((unhideR HS).later b3 (Nat.le_refl _))
    have B3 := hideR ((unhideR B2).trans (b3.mono s2))
    have s3 := (unhideR B3).size
    clear b3 B2 H2 HS CN
    have C := hideR (unhideR CM x 9 c S9 a len cap l at' w3 (unhideR HS3) (unhideR H3) (unhideR HN))
    by_cases hr : r < 0
    · have hv : Q.matchL S9 (Q.rest l at') = 0 := by rw [← unhideR HQ]; exact hit_no (unhideR HI) (unhideR H3).hbytes (unhideR HX) hr
      rw [hv] at C
      clear hv
      go_wp2_with fail
      refine (unhideR C).mono ?_
      rintro e w4 ⟨rfl, b4⟩
      have B4 := hideR ((unhideR B3).trans (b4.mono s3))
      clear b4
      go_wp2_with fail
      go_ret
      exact ⟨rfl, unhideR B4⟩
    · have hv : Q.matchL S9 (Q.rest l at') = n := by rw [← unhideR HQ]; exact hit_yes (unhideR HI) (unhideR H3).hbytes (unhideR HX) (by omega) (all_has (unhideR H3).hbytes (unhideR HX) (by omega))
      rw [hv] at C
      clear hv
      go_wp2_with fail
      refine (unhideR C).mono ?_
      rintro e w4 ⟨rfl, b4⟩
      have B4 := hideR ((unhideR B3).trans (b4.mono s3))
      clear b4
      go_wp2_with fail
      go_ret
      exact ⟨rfl, unhideR B4⟩

end Go.Proofs.YtejipaapbfjooaaDoor
