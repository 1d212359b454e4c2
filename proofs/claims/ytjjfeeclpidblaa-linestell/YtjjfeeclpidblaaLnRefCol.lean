/- The contract of the document's own Col. -/
import Derived.Test.YtjjfeeclpidblaaLnRef
namespace Go.Proofs.Ytjjfeeclpidblaa.Ln
open Go.RowKit
set_option linter.unusedVariables false
set_option linter.unusedSimpArgs false

set_option maxRecDepth 20000 in
set_option maxHeartbeats 1000000 in
theorem refCol_no (a : Option Addr) (len cap : Nat) (w : World) (i tab : Int) (hno : ¬ (plB len i = true ∧ 1 ≤ tab ∧ tab ≤ 16)) :
    Calls Try.prog 21 #[.slice a len cap, .int .i64 i, .int .i64 tab] w fun e w' => e = .returned (.int .i64 (-1)) ∧ Below w.heap.size w w' := by
  have C1 := hideR (fun W => refPlace_any a len cap i W)
  by_cases hp : plB len i = true
  · rw [hp] at C1
    by_cases t1 : tab < 1
    · clear hno hp
      go_enter Try.func21, Try.ntmps21
      go_wp2_with fail
      refine (unhideR C1 _).mono ?_
      rintro e w1 ⟨rfl, hw1⟩
      obtain rfl : w = w1 := hw1.symm
      go_wp2_with fail
      go_ret
      exact ⟨rfl, Below.refl _ _⟩
    · have t2 : 16 < tab := by
        by_cases t2 : 16 < tab
        · exact t2
        · exact absurd ⟨hp, by omega, by omega⟩ hno
      clear hno hp
      go_enter Try.func21, Try.ntmps21
      go_wp2_with fail
      refine (unhideR C1 _).mono ?_
      rintro e w1 ⟨rfl, hw1⟩
      obtain rfl : w = w1 := hw1.symm
      go_wp2_with fail
      go_ret
      exact ⟨rfl, Below.refl _ _⟩
  · have hp' : plB len i = false := by simpa using hp
    rw [hp'] at C1
    clear hp hp' hno
    go_enter Try.func21, Try.ntmps21
    go_wp2_with fail
    refine (unhideR C1 _).mono ?_
    rintro e w1 ⟨rfl, hw1⟩
    obtain rfl : w = w1 := hw1.symm
    go_wp2_with fail
    go_ret
    exact ⟨rfl, Below.refl _ _⟩

theorem next1_9 {tab c : Nat} {z : Int} (h : z = 9) : next1 tab c z = (c / tab + 1) * tab := by unfold next1; rw [if_pos h]
theorem next1_other {tab c : Nat} {z : Int} (h : z ≠ 9) : next1 tab c z = c + 1 := by unfold next1; rw [if_neg h]

set_option maxRecDepth 20000 in
set_option maxHeartbeats 1000000 in
theorem refCol_yes (a : Option Addr) (len cap : Nat) (l : List Int) (w : World) (h : Bs w a len cap l) (hs : len ≤ 10000) (n tab : Nat) (hn : n ≤ len) (t1 : 1 ≤ tab) (t2 : tab ≤ 16) :
    Calls Try.prog 21 #[.slice a len cap, .int .i64 n, .int .i64 tab] w fun e w' => e = .returned (.int .i64 (colN l n tab)) ∧ Below w.heap.size w w' := by
  have hl := h.hlen
  have hmax := h.hmax
  have hcap := h.hcap
  unfold maxLen at hmax
  have C1 := hideR (fun W => refPlace_any a len cap n W)
  have hp : plB len n = true := pl_yes (by omega) (by omega)
  have C2 := hideR (fun W (h : Bs W a len cap l) => refBegin_any a len cap l W h n)
  have eb : beginI l n = (beginN l n : Int) := by unfold beginI; rw [hl, if_pos hp]; rfl
  rw [hp] at C1
  rw [eb] at C2
  have C3 := hideR (fun W (h : Bs W a len cap l) (i : Int) => refNext_any a len cap l W h i)
  have hbl := begin_le l n
  have hst : Hid (cg l n tab (beginN l n) 0 = colN l n tab) := by
    show _ = _
    unfold cg colN
    rw [if_pos hbl]
  have HB := hideR h
  have hbb := hideR h.hbytes
  clear h eb hp
  generalize beginN l n = k0 at *
  generalize hC : colN l n tab = C at *
  have hn1 : (n : Int) ≤ 10000 := by omega
  go_enter Try.func21, Try.ntmps21
  go_wp2_with fail
  refine (unhideR C1 _).mono ?_
  rintro e w1 ⟨rfl, hw1⟩
  obtain rfl : w = w1 := hw1.symm
  clear C1 hw1
  go_wp2_with fail
  refine (unhideR C2 _ (unhideR HB)).mono ?_
  rintro e w2 ⟨rfl, hb2⟩
  clear C2
  go_wp2_with fail
  go_loopw [8, 9] (fun u v wr => ∃ c k : Nat, u = .int .i64 c ∧ v = .int .i64 k ∧ k ≤ n ∧ c ≤ 16 * k ∧ Hid (cg l n tab k c = C) ∧ Below w.heap.size w wr) (fun _ v _ => n - (intOf v).toNat)
  case atStart => exact ⟨0, k0, rfl, rfl, by omega, by omega, hst, hb2⟩
  case round =>
    obtain ⟨c, k, rfl, rfl, hk, hc, hg, hb⟩ := hrel
    clear hst hb2
    by_cases hlt : k < n
    · obtain ⟨s, m, hnx, hnl, m1, m2, m3, hs1⟩ := unit_at (unhideR hbb) (show k < l.length by omega)
      have HB1 := hideR ((unhideR HB).later hb (Nat.le_refl _))
      have CN := hideR (unhideR C3 wr (unhideR HB1) (k : Int))
      rw [hnx] at CN
      simp only at CN
      by_cases hin : k + m ≤ n
      · have hg1 : Hid (cg l n tab (k + m) (next1 tab c (l.getD k 0)) = C) := by
          show _ = _
          rw [← cg_on (unhideR hbb) hlt (by omega) hnl m1 hin]; exact hg.out
        have nb := next1_bd (tab := tab) (c := c) (z := l.getD k 0) t1
        obtain ⟨b, off, rfl, hbo⟩ := (unhideR HB1).open (by omega)
        have HBO := hideR hbo
        clear hbo
        by_cases h9 : l.getD k 0 = 9
        · obtain ⟨q, hq⟩ : ∃ q, c / tab = q := ⟨_, rfl⟩
          have et : Int.tdiv (c : Int) (tab : Int) = (q : Int) := by
            rw [Int.tdiv_eq_ediv_of_nonneg (by omega), ← hq]; rfl
          have e9 := next1_9 (tab := tab) (c := c) h9
          rw [hq] at e9
          have ep : ((q : Int) + 1) * (tab : Int) = ((next1 tab c (l.getD k 0) : Nat) : Int) := by
            rw [e9, Int.natCast_mul]; rfl
          have hqc : q ≤ c := by rw [← hq]; exact Nat.div_le_self _ _
          have HZ := hideR h9
          clear e9 hq hnx hnl hs1 hg C3 HB hbb hC h9
          generalize next1 tab c (l.getD k 0) = c2 at *
          go_wp2_with fail
          refine (unhideR CN).mono ?_
          rintro e w3 ⟨rfl, hb3⟩
          clear CN
          obtain ⟨z, hz, z0, z1, cz0⟩ := bat (unhideR HBO) k (by omega)
          have cz := hb3.cell (p := ⟨b, off + k, none⟩) (block_lt_of_cell cz0)
          rw [cz0] at cz
          rw [unhideR HZ] at hz
          subst hz
          clear HBO HZ cz0
          go_wp2_with fail
          go_roundw
          case rel => exact ⟨c2, k + m, rfl, by go_num, by omega, by omega, hg1, hb.trans (hb3.mono hb.size)⟩
          case measure => simp [intOf]; omega
        · have e9 := next1_other (tab := tab) (c := c) h9
          rw [e9] at hg1
          have HZ := hideR h9
          clear e9 nb hnx hnl hs1 hg C3 HB hbb hC h9
          go_wp2_with fail
          refine (unhideR CN).mono ?_
          rintro e w3 ⟨rfl, hb3⟩
          clear CN
          obtain ⟨z, hz, z0, z1, cz0⟩ := bat (unhideR HBO) k (by omega)
          have cz := hb3.cell (p := ⟨b, off + k, none⟩) (block_lt_of_cell cz0)
          rw [cz0] at cz
          have e1 : (z == 9) = false := by rw [beq_eq_false_iff_ne, ← hz]; exact unhideR HZ
          clear HBO HZ cz0 hz
          go_wp2_with fail
          go_roundw
          case rel => exact ⟨c + 1, k + m, by go_num, by go_num, by omega, by omega, hg1, hb.trans (hb3.mono hb.size)⟩
          case measure => simp [intOf]; omega
      · have hg2 : Hid (C = c) := by
          show _ = _
          have := cg_past (r := 0) (tab := tab) (c := c) hlt (by omega) hnl (by omega)
          rw [← hg.out]; exact this.trans (cg_over (by omega))
        clear hnx hnl hs1 hg C3 HB hbb hC
        go_wp2_with fail
        refine (unhideR CN).mono ?_
        rintro e w3 ⟨rfl, hb3⟩
        clear CN
        go_wp2_with fail
        go_ret
        exact ⟨by rw [hg2.out]; rfl, hb.trans (hb3.mono hb.size)⟩
    · have fin : Hid (C = c) := by
        show _ = _
        rw [← hg.out, cg_over (by omega)]
      clear hg C3 HB hbb hC
      go_wp2_with fail
      go_ret
      exact ⟨by rw [fin.out]; rfl, hb⟩

theorem refCol_any (a : Option Addr) (len cap : Nat) (l : List Int) (w : World) (h : Bs w a len cap l) (hs : len ≤ 10000) (i tab : Int) :
    Calls Try.prog 21 #[.slice a len cap, .int .i64 i, .int .i64 tab] w fun e w' => e = .returned (.int .i64 (colI l i tab)) ∧ Below w.heap.size w w' := by
  have hl := h.hlen
  unfold colI
  rw [hl]
  by_cases hp : plB len i = true ∧ 1 ≤ tab ∧ tab ≤ 16
  · rw [if_pos hp]
    obtain ⟨n, rfl, hn⟩ := place_in hp.1
    obtain ⟨t, rfl⟩ := Int.eq_ofNat_of_zero_le (show 0 ≤ tab by omega)
    exact refCol_yes a len cap l w h hs n t (by omega) (by omega) (by omega)
  · rw [if_neg hp]
    exact refCol_no a len cap w i tab hp

end Go.Proofs.Ytjjfeeclpidblaa.Ln
