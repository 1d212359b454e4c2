/- The walk of the statement SeqsPart. -/
import Derived.Test.YtejipaapbfjooaaDoorSqLBase
namespace Go.Proofs.YtejipaapbfjooaaDoor
open Go.RowKit
set_option linter.unusedVariables false
set_option linter.unusedSimpArgs false

theorem part_bound (N : List (Int × Int)) (l : List Int) (at' : Int) {z : Nat} (hz : Q.partL (Q.ofN N) (Q.rest l at') = z) : z ≤ 4 ∧ (z = 0 ∨ (0 ≤ at' ∧ (z : Int) ≤ l.length - at')) := by
  have h1 := Q.part_lens (S := Q.ofN N) (b := Q.rest l at') (k := 4) fun s hs => (Q.of_lens N s hs).2
  have h2 := Q.part_le (Q.ofN N) (Q.rest l at')
  have h3 := Q.rest_length l at'
  rw [hz] at h1 h2
  omega
theorem bs_take {w : World} {k n m : Nat} {l : List Int} (h : Bs w (some ⟨k, 0, none⟩) n n l) (hm : m ≤ n) : Bs w (some ⟨k, 0, none⟩) m n (l.take m) := by
  have hl := h.hlen
  refine ⟨by rw [List.length_take]; omega, hm, h.hmax, U.isBytes_take h.hbytes m, fun i hi => ?_⟩
  obtain ⟨b, off, e, hc⟩ := h.hcell i (by omega)
  refine ⟨b, off, e, ?_⟩
  rw [hc]
  simp [List.getD, List.getElem?_take, hi]
theorem part_all {N : List (Int × Int)} {r : Int} (hm : U.mayB r = true) (h : G.hasB N r = true) : Q.partL (Q.ofN N) (Q.rest (U.putL r) 0) = (U.putL r).length := by
  have := Q.part_put hm h (U.putL r).length (Nat.le_refl _)
  rw [List.take_length] at this
  rw [Q.rest_zero]; exact this
theorem part_most {N : List (Int × Int)} {r : Int} (hm : U.mayB r = true) (h : G.hasB N r = true) {m : Nat} (hl : (U.putL r).length = m + 1) : Q.partL (Q.ofN N) (Q.rest ((U.putL r).take m) 0) = m := by
  rw [Q.rest_zero]; exact Q.part_put hm h m (by omega)

set_option maxRecDepth 20000 in
set_option maxHeartbeats 4000000 in
theorem seqsPart_walk (a : Option Addr) (la ca : Nat) (L : List (Int × Int)) (ba : Option Addr) (bl bc : Nat) (l : List Int) (at' : Int) (r : Int) (w : World) (hR : Rs w a la ca L) (h : Bs w ba bl bc l) (hn : ba = none → bc = 0) (hW : Wd w) :
    Calls Tryd.prog 6 #[.slice a la ca, .slice ba bl bc, .int .i64 at', .int .i64 r] w fun e w' => e = .returned (.bool true) ∧ Below w.heap.size w w' := by
  have hm := h.hmax
  have hc := h.hcap
  have hlb := h.hlen
  have hm2 := hR.hmax
  have hc2 := hR.hcap
  unfold maxLen at hm hm2
  have AW := hideR (awake3_any w hW)
  have CO := hideR ofSq
  have CM := hideR match_any
  have CP := hideR part_any
  have CH := hideR has_any
  have HN := hideR hn
  have H0 := hideR h
  have W0 := hideR hW
  have R0 := hideR hR
  clear h hn hW hR
  go_enter Tryd.func6, Tryd.ntmps6
  go_wp2_with fail
  refine (unhideR AW).mono ?_
  rintro e w1 ⟨rfl, b1⟩
  have H1 := hideR ((unhideR H0).later b1 (Nat.le_refl _))
  have R1 := hideR ((unhideR R0).later b1 (Nat.le_refl _))
  have W1 := hideR ((unhideR W0).later b1 (unhideR W0).pos)
  have B1 := hideR b1
  have s1 := b1.size
  clear H0 W0 R0 AW b1
  by_cases hl : 20 < la
  · go_wp2_with fail
    go_ret
    exact ⟨rfl, unhideR B1⟩
  by_cases hl2 : 100 < bl
  · go_wp2_with fail
    go_ret
    exact ⟨rfl, unhideR B1⟩
  go_wp2_with fail
  refine (unhideR CO a la ca L w1 (unhideR R1) (by omega) (unhideR W1)).mono ?_
  rintro e w2 ⟨N, x, c, hi, rfl, hS, b2⟩
  have HI := hideR hi
  have S2 := hideR hS
  have hSc := hS.hcap
  have hSm := hS.hmax
  unfold maxLen at hSm
  have H2 := hideR ((unhideR H1).later b2 (Nat.le_refl _))
  have R2 := hideR ((unhideR R1).later b2 (Nat.le_refl _))
  have B2 := hideR ((unhideR B1).trans (b2.mono s1))
  have s2 := (unhideR B2).size
  have C := hideR (unhideR CP x (Q.ofN N).length c (Q.ofN N) ba bl bc l at' w2 (unhideR S2) (unhideR H2) (unhideR HN))
  obtain ⟨z, hz⟩ : ∃ z, Q.partL (Q.ofN N) (Q.rest l at') = z := ⟨_, rfl⟩
  obtain ⟨y, hy⟩ : ∃ y, Q.matchL (Q.ofN N) (Q.rest l at') = y := ⟨_, rfl⟩
  have hyz : y ≤ z := by rw [← hy, ← hz]; exact Q.match_le _ _
  obtain ⟨z4, hzat⟩ := part_bound N l at' hz
  rw [hz] at C
  have HY := hideR hy
  clear hi hS b2 H1 R1 W1 B1 s1 CO hz hy
  obtain ⟨sl, hsl⟩ : ∃ sl, (Q.ofN N).length = sl := ⟨_, rfl⟩
  rw [hsl] at C S2 hSc
  rw [hsl]
  have HSL := hideR hsl
  clear hsl
  go_wp2_with fail
  refine (unhideR C).mono ?_
  rintro e w3 ⟨rfl, b3⟩
  have S3 := hideR ((unhideR S2).later b3 (Nat.le_refl _))
  have H3 := hideR ((unhideR H2).later b3 (Nat.le_refl _))
  have R3 := hideR ((unhideR R2).later b3 (Nat.le_refl _))
  have B3 := hideR ((unhideR B2).trans (b3.mono s2))
  have s3 := (unhideR B3).size
  have C2 := hideR (unhideR CM x sl c (Q.ofN N) ba bl bc l at' w3 (unhideR S3) (unhideR H3) (unhideR HN))
  rw [unhideR HY] at C2
  clear b3 C S2 H2 R2 B2 s2 HY
  go_wp2_with fail
  refine (unhideR C2).mono ?_
  rintro e w4 ⟨rfl, b4⟩
  have S4 := hideR ((unhideR S3).later b4 (Nat.le_refl _))
  have R4 := hideR ((unhideR R3).later b4 (Nat.le_refl _))
  have B4 := hideR ((unhideR B3).trans (b4.mono s3))
  have s4 := (unhideR B4).size
  clear b4 C2 S3 H3 R3 B3 s3
  have f1 : ¬ ((z : Int) < (y : Int)) := by omega
  have f2 : ¬ ((z : Int) < 0) := by omega
  have f3 : ¬ ((4 : Int) < (z : Int)) := by omega
  rcases hzat with hz0 | ⟨at0, atz⟩
  · have f4 : ¬ ((0 : Int) < (z : Int)) := by omega
    clear hz0
    cases hmay : U.mayB r
    · have CQ := hideR (fun W => put_no r W hmay)
      clear hmay
      go_wp2_with fail
      refine (unhideR CQ _).mono ?_
      rintro e w5 ⟨rfl, rfl⟩
      go_wp2_with fail
      go_ret
      exact ⟨rfl, unhideR B4⟩
    · have CQ := hideR (fun W => sput_bs r W hmay)
      have HM := hideR hmay
      clear hmay
      have hpl := U.putL_len r
      obtain ⟨m, hm1⟩ : ∃ m, (U.putL r).length = m + 1 := ⟨(U.putL r).length - 1, by omega⟩
      have HM1 := hideR hm1
      rw [hm1] at CQ hpl
      clear hm1
      go_wp2_with fail
      refine (unhideR CQ _).mono ?_
      rintro e w5 ⟨k5, rfl, p5, b5⟩
      have S5 := hideR ((unhideR S4).later b5 (Nat.le_refl _))
      have R5 := hideR ((unhideR R4).later b5 (Nat.le_refl _))
      have P5 := hideR p5
      have B5 := hideR ((unhideR B4).trans (b5.mono s4))
      have s5 := (unhideR B5).size
      clear b5 p5 CQ S4 R4 B4 s4
      go_wp2_with fail
      refine (unhideR CH a la ca L r w5 (unhideR R5)).mono ?_
      rintro e w6 ⟨rfl, b6⟩
      have S6 := hideR ((unhideR S5).later b6 (Nat.le_refl _))
      have P6 := hideR ((unhideR P5).later b6 (Nat.le_refl _))
      have B6 := hideR ((unhideR B5).trans (b6.mono s5))
      have s6 := (unhideR B6).size
      clear b6 S5 R5 P5 B5 s5
      rcases Bool.eq_false_or_eq_true (G.hasB L r) with hh | hh
      · rw [hh]
        have hN : G.hasB N r = true := by rw [(unhideR HI).2, nrm_has (unhideR HM)]; exact hh
        have V1 := part_most (unhideR HM) hN (unhideR HM1)
        have V2 := part_all (unhideR HM) hN
        rw [unhideR HM1] at V2
        have D1 := hideR (unhideR CP x sl c (Q.ofN N) (some ⟨k5, 0, none⟩) m (m + 1) ((U.putL r).take m) 0 w6 (unhideR S6) (bs_take (unhideR P6) (by omega)) (fun e => by cases e))
        rw [V1] at D1
        have V2' := hideR V2
        clear hh hN V1 V2
        go_wp2_with fail
        refine (unhideR D1).mono ?_
        rintro e w7 ⟨rfl, b7⟩
        have B7 := hideR ((unhideR B6).trans (b7.mono s6))
        have s7 := (unhideR B7).size
        have D2 := hideR (unhideR CP x sl c (Q.ofN N) (some ⟨k5, 0, none⟩) (m + 1) (m + 1) (U.putL r) 0 w7 ((unhideR S6).later b7 (Nat.le_refl _)) ((unhideR P6).later b7 (Nat.le_refl _)) (fun e => by cases e))
        rw [unhideR V2'] at D2
        clear b7 D1 B6 s6 S6 P6 V2'
        go_wp2_with fail
        refine (unhideR D2).mono ?_
        rintro e w8 ⟨rfl, b8⟩
        have B8 := hideR ((unhideR B7).trans (b8.mono s7))
        clear b8 D2 B7
        go_wp2_with fail
        go_ret
        exact ⟨rfl, unhideR B8⟩
      · rw [hh]
        clear hh
        go_wp2_with fail
        go_ret
        exact ⟨rfl, unhideR B6⟩
  · by_cases f4 : (0 : Int) < (z : Int)
    · have f5 : ¬ (at' < 0) := by omega
      rw [hlb] at atz
      have f6 : ¬ ((bl : Int) - at' < (z : Int)) := by omega
      cases hmay : U.mayB r
      · have CQ := hideR (fun W => put_no r W hmay)
        clear hmay
        go_wp2_with fail
        refine (unhideR CQ _).mono ?_
        rintro e w5 ⟨rfl, rfl⟩
        go_wp2_with fail
        go_ret
        exact ⟨rfl, unhideR B4⟩
      · have CQ := hideR (fun W => sput_bs r W hmay)
        have HM := hideR hmay
        clear hmay
        have hpl := U.putL_len r
        obtain ⟨m, hm1⟩ : ∃ m, (U.putL r).length = m + 1 := ⟨(U.putL r).length - 1, by omega⟩
        have HM1 := hideR hm1
        rw [hm1] at CQ hpl
        clear hm1
        go_wp2_with fail
        refine (unhideR CQ _).mono ?_
        rintro e w5 ⟨k5, rfl, p5, b5⟩
        have S5 := hideR ((unhideR S4).later b5 (Nat.le_refl _))
        have R5 := hideR ((unhideR R4).later b5 (Nat.le_refl _))
        have P5 := hideR p5
        have B5 := hideR ((unhideR B4).trans (b5.mono s4))
        have s5 := (unhideR B5).size
        clear b5 p5 CQ S4 R4 B4 s4
        go_wp2_with fail
        refine (unhideR CH a la ca L r w5 (unhideR R5)).mono ?_
        rintro e w6 ⟨rfl, b6⟩
        have S6 := hideR ((unhideR S5).later b6 (Nat.le_refl _))
        have P6 := hideR ((unhideR P5).later b6 (Nat.le_refl _))
        have B6 := hideR ((unhideR B5).trans (b6.mono s5))
        have s6 := (unhideR B6).size
        clear b6 S5 R5 P5 B5 s5
        rcases Bool.eq_false_or_eq_true (G.hasB L r) with hh | hh
        · rw [hh]
          have hN : G.hasB N r = true := by rw [(unhideR HI).2, nrm_has (unhideR HM)]; exact hh
          have V1 := part_most (unhideR HM) hN (unhideR HM1)
          have V2 := part_all (unhideR HM) hN
          rw [unhideR HM1] at V2
          have D1 := hideR (unhideR CP x sl c (Q.ofN N) (some ⟨k5, 0, none⟩) m (m + 1) ((U.putL r).take m) 0 w6 (unhideR S6) (bs_take (unhideR P6) (by omega)) (fun e => by cases e))
          rw [V1] at D1
          have V2' := hideR V2
          clear hh hN V1 V2
          go_wp2_with fail
          refine (unhideR D1).mono ?_
          rintro e w7 ⟨rfl, b7⟩
          have B7 := hideR ((unhideR B6).trans (b7.mono s6))
          have s7 := (unhideR B7).size
          have D2 := hideR (unhideR CP x sl c (Q.ofN N) (some ⟨k5, 0, none⟩) (m + 1) (m + 1) (U.putL r) 0 w7 ((unhideR S6).later b7 (Nat.le_refl _)) ((unhideR P6).later b7 (Nat.le_refl _)) (fun e => by cases e))
          rw [unhideR V2'] at D2
          clear b7 D1 B6 s6 S6 P6 V2'
          go_wp2_with fail
          refine (unhideR D2).mono ?_
          rintro e w8 ⟨rfl, b8⟩
          have B8 := hideR ((unhideR B7).trans (b8.mono s7))
          clear b8 D2 B7
          go_wp2_with fail
          go_ret
          exact ⟨rfl, unhideR B8⟩
        · rw [hh]
          clear hh
          go_wp2_with fail
          go_ret
          exact ⟨rfl, unhideR B6⟩
    · clear at0 atz
      cases hmay : U.mayB r
      · have CQ := hideR (fun W => put_no r W hmay)
        clear hmay
        go_wp2_with fail
        refine (unhideR CQ _).mono ?_
        rintro e w5 ⟨rfl, rfl⟩
        go_wp2_with fail
        go_ret
        exact ⟨rfl, unhideR B4⟩
      · have CQ := hideR (fun W => sput_bs r W hmay)
        have HM := hideR hmay
        clear hmay
        have hpl := U.putL_len r
        obtain ⟨m, hm1⟩ : ∃ m, (U.putL r).length = m + 1 := ⟨(U.putL r).length - 1, by omega⟩
        have HM1 := hideR hm1
        rw [hm1] at CQ hpl
        clear hm1
        go_wp2_with fail
        refine (unhideR CQ _).mono ?_
        rintro e w5 ⟨k5, rfl, p5, b5⟩
        have S5 := hideR ((unhideR S4).later b5 (Nat.le_refl _))
        have R5 := hideR ((unhideR R4).later b5 (Nat.le_refl _))
        have P5 := hideR p5
        have B5 := hideR ((unhideR B4).trans (b5.mono s4))
        have s5 := (unhideR B5).size
        clear b5 p5 CQ S4 R4 B4 s4
        go_wp2_with fail
        refine (unhideR CH a la ca L r w5 (unhideR R5)).mono ?_
        rintro e w6 ⟨rfl, b6⟩
        have S6 := hideR ((unhideR S5).later b6 (Nat.le_refl _))
        have P6 := hideR ((unhideR P5).later b6 (Nat.le_refl _))
        have B6 := hideR ((unhideR B5).trans (b6.mono s5))
        have s6 := (unhideR B6).size
        clear b6 S5 R5 P5 B5 s5
        rcases Bool.eq_false_or_eq_true (G.hasB L r) with hh | hh
        · rw [hh]
          have hN : G.hasB N r = true := by rw [(unhideR HI).2, nrm_has (unhideR HM)]; exact hh
          have V1 := part_most (unhideR HM) hN (unhideR HM1)
          have V2 := part_all (unhideR HM) hN
          rw [unhideR HM1] at V2
          have D1 := hideR (unhideR CP x sl c (Q.ofN N) (some ⟨k5, 0, none⟩) m (m + 1) ((U.putL r).take m) 0 w6 (unhideR S6) (bs_take (unhideR P6) (by omega)) (fun e => by cases e))
          rw [V1] at D1
          have V2' := hideR V2
          clear hh hN V1 V2
          go_wp2_with fail
          refine (unhideR D1).mono ?_
          rintro e w7 ⟨rfl, b7⟩
          have B7 := hideR ((unhideR B6).trans (b7.mono s6))
          have s7 := (unhideR B7).size
          have D2 := hideR (unhideR CP x sl c (Q.ofN N) (some ⟨k5, 0, none⟩) (m + 1) (m + 1) (U.putL r) 0 w7 ((unhideR S6).later b7 (Nat.le_refl _)) ((unhideR P6).later b7 (Nat.le_refl _)) (fun e => by cases e))
          rw [unhideR V2'] at D2
          clear b7 D1 B6 s6 S6 P6 V2'
          go_wp2_with fail
          refine (unhideR D2).mono ?_
          rintro e w8 ⟨rfl, b8⟩
          have B8 := hideR ((unhideR B7).trans (b8.mono s7))
          clear b8 D2 B7
          go_wp2_with fail
          go_ret
          exact ⟨rfl, unhideR B8⟩
        · rw [hh]
          clear hh
          go_wp2_with fail
          go_ret
          exact ⟨rfl, unhideR B6⟩

end Go.Proofs.YtejipaapbfjooaaDoor
