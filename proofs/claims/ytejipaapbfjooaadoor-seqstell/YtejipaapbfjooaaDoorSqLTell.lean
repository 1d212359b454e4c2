/- The walk of the statement SeqsTell. -/
import Derived.Test.YtejipaapbfjooaaDoorSqLBase
import Derived.Test.YtejipaapbfjooaaDoorSqRefM
import Derived.Test.YtejipaapbfjooaaDoorSqRefOf
namespace Go.Proofs.YtejipaapbfjooaaDoor
open Go.RowKit
set_option linter.unusedVariables false
set_option linter.unusedSimpArgs false

/-- what the document's Of answers, as it is used -/
theorem refOfSq (a : Option Addr) (len cap : Nat) (L : List (Int × Int)) (w : World) (h : Rs w a len cap L) :
    Calls Tryd.prog 14 #[.slice a len cap] w fun e w' => ∃ N x c, G.Is N (nrm L) ∧ e = .returned (.slice x (Q.ofN N).length c) ∧ Sq w' x (Q.ofN N).length c (Q.ofN N) ∧ Below w.heap.size w w' :=
  (refOf3_any a len cap L w h).mono fun e w' ⟨N, v, hi, he, hq, hb⟩ => by
    obtain ⟨x, c, rfl, hS⟩ := hq.sq
    exact ⟨N, x, c, hi, he, hS, hb⟩

set_option maxRecDepth 20000 in
set_option maxHeartbeats 4000000 in
theorem seqsTell_walk (a : Option Addr) (la ca : Nat) (L : List (Int × Int)) (sa : Option Addr) (sl sc : Nat) (S : List (List (Int × Int))) (ba : Option Addr) (bl bc : Nat) (l : List Int) (at' : Int) (w : World)
    (hR : Rs w a la ca L) (hS : Sq w sa sl sc S) (h : Bs w ba bl bc l) (hn : ba = none → bc = 0) (hW : Wd w) :
    Calls Tryd.prog 3 #[.slice a la ca, .slice sa sl sc, .slice ba bl bc, .int .i64 at'] w fun e w' => e = .returned (.bool true) ∧ Below w.heap.size w w' := by
  have hm := h.hmax
  have hc := h.hcap
  have hm2 := hR.hmax
  have hc2 := hR.hcap
  have hm3 := hS.hmax
  have hc3 := hS.hcap
  have hl3 := hS.hlen
  unfold maxLen at hm hm2 hm3
  have AW := hideR (awake3_any w hW)
  have CF := hideR few_any
  have CO := hideR ofSq
  have CR := hideR refOfSq
  have CM := hideR match_any
  have CP := hideR part_any
  have DM := hideR refMatch_any
  have DP := hideR refPart_any
  have DS := hideR refSame3_any
  have HN := hideR hn
  have H0 := hideR h
  have W0 := hideR hW
  have R0 := hideR hR
  have S0 := hideR hS
  clear h hn hW hR hS
  go_enter Tryd.func3, Tryd.ntmps3
  go_wp2_with fail
  refine (unhideR AW).mono ?_
  rintro e w1 ⟨rfl, b1⟩
  have H1 := hideR ((unhideR H0).later b1 (Nat.le_refl _))
  have R1 := hideR ((unhideR R0).later b1 (Nat.le_refl _))
  have S1 := hideR ((unhideR S0).later b1 (Nat.le_refl _))
  have W1 := hideR ((unhideR W0).later b1 (unhideR W0).pos)
  have B1 := hideR b1
  have s1 := b1.size
  clear H0 W0 R0 S0 AW b1
  go_wp2_with fail
  refine (unhideR CF sa sl sc S w1 (unhideR S1)).mono ?_
  rintro e w2 ⟨bf, rfl, hw2, hbf⟩
  obtain rfl : w2 = w1 := hw2
  cases bf with
  | false =>
    clear hbf
    go_wp2_with fail
    go_ret
    exact ⟨rfl, unhideR B1⟩
  | true =>
    obtain ⟨h40, h6⟩ := hbf rfl
    have H6 := hideR h6
    clear hbf h6
    by_cases hl : 20 < la
    · go_wp2_with fail
      go_ret
      exact ⟨rfl, unhideR B1⟩
    by_cases hl2 : 100 < bl
    · go_wp2_with fail
      go_ret
      exact ⟨rfl, unhideR B1⟩
    go_wp2_with fail
    refine (unhideR CO a la ca L w2 (unhideR R1) (by omega) (unhideR W1)).mono ?_
    rintro e w3 ⟨N, x, c, hi, rfl, hS3, b3⟩
    have HI := hideR hi
    have X3 := hideR hS3
    have hSc := hS3.hcap
    have hSm := hS3.hmax
    unfold maxLen at hSm
    have H3 := hideR ((unhideR H1).later b3 (Nat.le_refl _))
    have R3 := hideR ((unhideR R1).later b3 (Nat.le_refl _))
    have S3 := hideR ((unhideR S1).later b3 (Nat.le_refl _))
    have B3 := hideR ((unhideR B1).trans (b3.mono s1))
    have s3 := (unhideR B3).size
    clear hi hS3 b3 H1 R1 S1 W1 B1 s1 CO
    go_wp2_with fail
    refine (unhideR CR a la ca L w3 (unhideR R3)).mono ?_
    rintro e w4 ⟨N', x', c', hi, rfl, hS4, b4⟩
    obtain rfl : N' = N := hi.unique (unhideR HI) fun _ => rfl
    have X4 := hideR ((unhideR X3).later b4 (Nat.le_refl _))
    have Y4 := hideR hS4
    have hSc' := hS4.hcap
    have hSm' := hS4.hmax
    unfold maxLen at hSm'
    have H4 := hideR ((unhideR H3).later b4 (Nat.le_refl _))
    have S4 := hideR ((unhideR S3).later b4 (Nat.le_refl _))
    have B4 := hideR ((unhideR B3).trans (b4.mono s3))
    have s4 := (unhideR B4).size
    have C := hideR (unhideR DS x (Q.ofN N').length c x' c' (Q.ofN N') w4 (unhideR X4) (unhideR Y4))
    generalize (Q.ofN N').length = ol at *
    clear hi hS4 b4 H3 R3 S3 B3 s3 CR X3 X4 Y4 HI
    go_wp2_with fail
    refine (unhideR C).mono ?_
    rintro e w5 ⟨rfl, b5⟩
    have H5 := hideR ((unhideR H4).later b5 (Nat.le_refl _))
    have S5 := hideR ((unhideR S4).later b5 (Nat.le_refl _))
    have B5 := hideR ((unhideR B4).trans (b5.mono s4))
    have s5 := (unhideR B5).size
    clear b5 H4 S4 B4 s4 C
    have C5 := hideR (unhideR CM sa sl sc S ba bl bc l at' w5 (unhideR S5) (unhideR H5) (unhideR HN))
    obtain ⟨M, hM⟩ : ∃ M, Q.matchL S (Q.rest l at') = M := ⟨_, rfl⟩
    have HM := hideR hM
    rw [hM] at C5
    clear hM
    go_wp2_with fail
    refine (unhideR C5).mono ?_
    rintro e w6 ⟨rfl, b6⟩
    have H6' := hideR ((unhideR H5).later b6 (Nat.le_refl _))
    have S6 := hideR ((unhideR S5).later b6 (Nat.le_refl _))
    have B6 := hideR ((unhideR B5).trans (b6.mono s5))
    have s6 := (unhideR B6).size
    clear b6 H5 S5 B5 s5 C5
    have C6 := hideR (unhideR DM sa sl sc S ba bl bc l at' w6 (unhideR S6) (unhideR H6') (unhideR H6) (by omega))
    rw [unhideR HM] at C6
    go_wp2_with fail
    refine (unhideR C6).mono ?_
    rintro e w7 ⟨rfl, b7⟩
    have H7 := hideR ((unhideR H6').later b7 (Nat.le_refl _))
    have S7 := hideR ((unhideR S6).later b7 (Nat.le_refl _))
    have B7 := hideR ((unhideR B6).trans (b7.mono s6))
    have s7 := (unhideR B7).size
    clear b7 H6' S6 B6 s6 C6 HM
    have C7 := hideR (unhideR CP sa sl sc S ba bl bc l at' w7 (unhideR S7) (unhideR H7) (unhideR HN))
    obtain ⟨Z, hZ⟩ : ∃ Z, Q.partL S (Q.rest l at') = Z := ⟨_, rfl⟩
    have HZ := hideR hZ
    rw [hZ] at C7
    clear hZ
    go_wp2_with fail
    refine (unhideR C7).mono ?_
    rintro e w8 ⟨rfl, b8⟩
    have H8 := hideR ((unhideR H7).later b8 (Nat.le_refl _))
    have S8 := hideR ((unhideR S7).later b8 (Nat.le_refl _))
    have B8 := hideR ((unhideR B7).trans (b8.mono s7))
    have s8 := (unhideR B8).size
    clear b8 H7 S7 B7 s7 C7
    have C8 := hideR (unhideR DP sa sl sc S ba bl bc l at' w8 (unhideR S8) (unhideR H8) (unhideR H6) (by omega))
    rw [unhideR HZ] at C8
    go_wp2_with fail
    refine (unhideR C8).mono ?_
    rintro e w9 ⟨rfl, b9⟩
    have B9 := hideR ((unhideR B8).trans (b9.mono s8))
    clear b9
    go_wp2_with fail
    go_ret
    exact ⟨rfl, unhideR B9⟩

end Go.Proofs.YtejipaapbfjooaaDoor
