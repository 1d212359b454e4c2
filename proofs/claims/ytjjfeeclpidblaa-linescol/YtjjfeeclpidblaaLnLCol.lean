/- The walk of LinesCol. -/
import Derived.Test.YtjjfeeclpidblaaLnAwake
namespace Go.Proofs.Ytjjfeeclpidblaa.Ln
open Go.RowKit
set_option linter.unusedVariables false
set_option linter.unusedSimpArgs false

theorem next1_o {tab c : Nat} {z : Int} (h : z ≠ 9) : next1 tab c z = c + 1 := by unfold next1; rw [if_neg h]

set_option maxRecDepth 20000 in
set_option maxHeartbeats 2000000 in
theorem linesCol_walk (a : Option Addr) (len cap : Nat) (l : List Int) (i tab : Int) (w : World) (h : Bs w a len cap l) (hib : i ≤ 9223372036854775807) :
    Calls Try.prog 4 #[.slice a len cap, .int .i64 i, .int .i64 tab] w fun e w' => e = .returned (.bool true) ∧ Below w.heap.size w w' := by
  have hl := h.hlen
  have hmax := h.hmax
  have hcap := h.hcap
  unfold maxLen at hmax
  have C0 := hideR (awake4_any w)
  by_cases o1 : (300 : Int) < (len : Int)
  · go_enter Try.func4, Try.ntmps4
    go_wp2_with fail
    refine (unhideR C0).mono ?_
    rintro e w1 ⟨rfl, B1⟩
    clear C0
    go_wp2_with fail
    go_ret
    exact ⟨rfl, B1⟩
  · skip
    by_cases o2 : i < 0
    · go_enter Try.func4, Try.ntmps4
      go_wp2_with fail
      refine (unhideR C0).mono ?_
      rintro e w1 ⟨rfl, B1⟩
      clear C0
      go_wp2_with fail
      go_ret
      exact ⟨rfl, B1⟩
    · skip
      by_cases o4 : tab < 1
      · go_enter Try.func4, Try.ntmps4
        go_wp2_with fail
        refine (unhideR C0).mono ?_
        rintro e w1 ⟨rfl, B1⟩
        clear C0
        go_wp2_with fail
        go_ret
        exact ⟨rfl, B1⟩
      · skip
        by_cases o5 : 16 < tab
        · go_enter Try.func4, Try.ntmps4
          go_wp2_with fail
          refine (unhideR C0).mono ?_
          rintro e w1 ⟨rfl, B1⟩
          clear C0
          go_wp2_with fail
          go_ret
          exact ⟨rfl, B1⟩
        · skip
          obtain ⟨t, rfl⟩ := Int.eq_ofNat_of_zero_le (show 0 ≤ tab by omega)
          have t1 : 1 ≤ t := by omega
          have t2 : t ≤ 16 := by omega
          have hs : len ≤ 300 := by omega
          have hi0 : 0 ≤ i := by omega
          clear o1 o2 o4 o5
          have C1 := hideR (fun (k : Int) W (h : Bs W a len cap l) => next_any a len cap l W h k)
          have C2 := hideR (fun (k : Int) W (h : Bs W a len cap l) => col_any a len cap l W h (by omega) k t)
          have C3 := hideR (fun (k : Int) W (h : Bs W a len cap l) => begin_any a len cap l W h k)
          have hbb := hideR h.hbytes
          have HB := hideR h
          clear h
          go_enter Try.func4, Try.ntmps4
          go_wp2_with fail
          refine (unhideR C0).mono ?_
          rintro e w1 ⟨rfl, B1⟩
          clear C0
          have s1 := B1.size
          have F1 := hideR ((unhideR HB).later B1 (Nat.le_refl _))
          clear HB
          go_wp2_with fail
          go_loopw [8, 9] (fun u v wr => ∃ k j : Nat, k ≤ len ∧ (j : Int) ≤ i ∧ u = .int .i64 k ∧ v = .int .i64 j ∧ Hid (U.Bd j l k) ∧ Below w1.heap.size w1 wr) (fun u _ _ => len - (intOf u).toNat)
          case atStart => exact ⟨0, 0, Nat.zero_le _, by omega, rfl, rfl, rfl, Below.refl _ _⟩
          case round =>
            obtain ⟨k, j, hk, hj, rfl, rfl, hB, hbw⟩ := hrel
            have B2 : Below w.heap.size w wr := B1.trans (hbw.mono s1)
            have s2 := B2.size
            have F2 := hideR ((unhideR F1).later hbw (Nat.le_refl _))
            have B2w := hbw
            clear B1 s1 F1 hbw
            by_cases hlt : k < len
            · obtain ⟨s, m, hnx, hnl, m1, m2, m3, hs1⟩ := unit_at (unhideR hbb) (show k < l.length by omega)
              have CN := hideR (unhideR C1 (k : Int) wr (unhideR F2))
              rw [hnx] at CN
              simp only at CN
              by_cases hjm : (j : Int) < i
              · have hB2 : Hid (U.Bd (j + 1) l (k + m)) := by
                  have := U.Bd.step j l k hB.out (by intro e; have := congrArg List.length e; rw [List.length_drop, List.length_nil] at this; omega)
                  rw [hnl] at this
                  exact this
                clear hnx hnl hs1 hB C1 C2 C3 hbb
                go_wp2_with fail
                refine (unhideR CN).mono ?_
                rintro e w3 ⟨rfl, hb3⟩
                clear CN
                go_wp2_with fail
                go_roundw
                case rel => exact ⟨k + m, j + 1, by omega, by omega, by go_num, by go_num, hB2, B2w.trans (hb3.mono B2w.size)⟩
                case measure => simp [intOf]; omega
              · have CB := hideR (unhideR C3 (k : Int))
                have CC := hideR (unhideR C2 (k : Int))
                have CD := hideR (unhideR C2 ((k + m : Nat) : Int))
                have CM := hideR (fun W h => unhideR C1 (k : Int) W h)
                rw [hnx] at CM
                simp only at CM
                have v1 : beginI l (k : Int) = (beginN l k : Int) := by unfold beginI; rw [hl, if_pos (pl_yes (by omega) (by omega))]; rfl
                have v2 : colI l (k : Int) (t : Int) = (colN l k t : Int) := by unfold colI; rw [hl, if_pos ⟨pl_yes (by omega) (by omega), by omega, by omega⟩]; rfl
                have v3 : colI l ((k + m : Nat) : Int) (t : Int) = (colN l (k + m) t : Int) := by unfold colI; rw [hl, if_pos ⟨pl_yes (by omega) (by omega), by omega, by omega⟩]; rfl
                rw [v1] at CB
                rw [v2] at CC
                rw [v3] at CD
                have hb1 := (colN_bound (unhideR hbb) (tab := t) (show k ≤ l.length by omega) t1 t2).1
                have hgk : beginN l k = k → colN l k t = 0 := col_begin l k t
                have hgl := begin_le l k
                have h10 : l.getD k 0 = 10 → colN l (k + m) t = 0 := by
                  intro e
                  have e1 : m = 1 := by
                    have := feed_unit (U.isBytes_drop (unhideR hbb) k) (i := 0) (by rw [hnl]; exact m1) (by simpa [List.getD, List.getElem?_drop] using e)
                    rw [hnl] at this
                    exact this
                  subst e1
                  exact col_begin l (k + 1) t (begin_feed l k e)
                have hnx1 : l.getD k 0 ≠ 10 → colN l (k + m) t = next1 t (colN l k t) (l.getD k 0) := by
                  intro e
                  have := col_next (unhideR hbb) (tab := t) hB.out (show k < l.length by omega) e
                  rw [hnl] at this
                  exact this
                obtain ⟨b, off, rfl, hbo⟩ := (unhideR F2).open (by omega)
                obtain ⟨z, hz, z0, z1, cz⟩ := bat hbo k (by omega)
                rw [hz] at h10 hnx1
                have HZ : Hid (l.getD k 0 = z) := hz
                clear v1 v2 v3 hnx hnl hs1 hB C1 C2 C3 hbb CN hbo hz
                generalize beginN l k = g at *
                generalize colN l k t = c at *
                generalize colN l (k + m) t = c2 at *
                by_cases h1 : z = 10
                · subst h1
                  obtain rfl : c2 = 0 := h10 rfl
                  clear h10 hnx1
                  by_cases hg : g = k
                  · obtain rfl : k = g := hg.symm
                    obtain rfl : c = 0 := hgk rfl
                    clear hgk
                    go_wp2_with fail
                    refine (unhideR CC _ (unhideR F2)).mono ?_
                    rintro e w3 ⟨rfl, hb3⟩
                    have B3 : Below w.heap.size w w3 := B2.trans (hb3.mono s2)
                    have s3 := B3.size
                    have F3 := hideR ((unhideR F2).later hb3 (Nat.le_refl _))
                    clear hb3 B2 s2 F2 CC cz
                    go_wp2_with fail
                    refine (unhideR CM _ (unhideR F3)).mono ?_
                    rintro e w4 ⟨rfl, hb4⟩
                    have B4 : Below w.heap.size w w4 := B3.trans (hb4.mono s3)
                    have s4 := B4.size
                    have F4 := hideR ((unhideR F3).later hb4 (Nat.le_refl _))
                    clear hb4 B3 s3 F3 CM
                    go_wp2_with fail
                    refine (unhideR CD _ (unhideR F4)).mono ?_
                    rintro e w5 ⟨rfl, hb5⟩
                    have B5 : Below w.heap.size w w5 := B4.trans (hb5.mono s4)
                    have s5 := B5.size
                    have F5 := hideR ((unhideR F4).later hb5 (Nat.le_refl _))
                    clear hb5 B4 s4 F4 CD
                    go_wp2_with fail
                    refine (unhideR CB _ (unhideR F5)).mono ?_
                    rintro e w6 ⟨rfl, hb6⟩
                    have B6 : Below w.heap.size w w6 := B5.trans (hb6.mono s5)
                    have s6 := B6.size
                    have F6 := hideR ((unhideR F5).later hb6 (Nat.le_refl _))
                    clear hb6 B5 s5 F5 CB
                    obtain ⟨b', off', hbe, hbo⟩ := (unhideR F6).open (by omega)
                    injection hbe with hbe
                    injection hbe with hbe1 hbe2
                    subst hbe1; subst hbe2
                    obtain ⟨y, hy, _, _, cz⟩ := bat hbo k (by omega)
                    rw [HZ.out] at hy
                    subst hy
                    clear hbo HZ F6
                    go_wp2_with fail
                    go_ret
                    exact ⟨rfl, B6⟩
                  · have eg : ((g : Int) == (k : Int)) = false := by rw [beq_eq_false_iff_ne]; omega
                    clear hgk
                    go_wp2_with fail
                    refine (unhideR CC _ (unhideR F2)).mono ?_
                    rintro e w3 ⟨rfl, hb3⟩
                    have B3 : Below w.heap.size w w3 := B2.trans (hb3.mono s2)
                    have s3 := B3.size
                    have F3 := hideR ((unhideR F2).later hb3 (Nat.le_refl _))
                    clear hb3 B2 s2 F2 CC cz
                    go_wp2_with fail
                    refine (unhideR CM _ (unhideR F3)).mono ?_
                    rintro e w4 ⟨rfl, hb4⟩
                    have B4 : Below w.heap.size w w4 := B3.trans (hb4.mono s3)
                    have s4 := B4.size
                    have F4 := hideR ((unhideR F3).later hb4 (Nat.le_refl _))
                    clear hb4 B3 s3 F3 CM
                    go_wp2_with fail
                    refine (unhideR CD _ (unhideR F4)).mono ?_
                    rintro e w5 ⟨rfl, hb5⟩
                    have B5 : Below w.heap.size w w5 := B4.trans (hb5.mono s4)
                    have s5 := B5.size
                    have F5 := hideR ((unhideR F4).later hb5 (Nat.le_refl _))
                    clear hb5 B4 s4 F4 CD
                    go_wp2_with fail
                    refine (unhideR CB _ (unhideR F5)).mono ?_
                    rintro e w6 ⟨rfl, hb6⟩
                    have B6 : Below w.heap.size w w6 := B5.trans (hb6.mono s5)
                    have s6 := B6.size
                    have F6 := hideR ((unhideR F5).later hb6 (Nat.le_refl _))
                    clear hb6 B5 s5 F5 CB
                    obtain ⟨b', off', hbe, hbo⟩ := (unhideR F6).open (by omega)
                    injection hbe with hbe
                    injection hbe with hbe1 hbe2
                    subst hbe1; subst hbe2
                    obtain ⟨y, hy, _, _, cz⟩ := bat hbo k (by omega)
                    rw [HZ.out] at hy
                    subst hy
                    clear hbo HZ F6
                    go_wp2_with fail
                    go_ret
                    exact ⟨rfl, B6⟩
                · have e1 : (z == 10) = false := by rw [beq_eq_false_iff_ne]; exact h1
                  have hx := hnx1 h1
                  clear hnx1 h10
                  by_cases h2 : z = 9
                  · subst h2
                    have hb2 := next1_bd (tab := t) (c := c) (z := 9) t1
                    have hm2 := next1_tab (tab := t) (c := c)
                    rw [← hx] at hb2 hm2
                    have et : Int.tmod (c2 : Int) (t : Int) = 0 := by rw [Int.tmod_eq_emod_of_nonneg (by omega)]; omega
                    clear hx hm2
                    by_cases hg : g = k
                    · obtain rfl : k = g := hg.symm
                      obtain rfl : c = 0 := hgk rfl
                      clear hgk
                      go_wp2_with fail
                      refine (unhideR CC _ (unhideR F2)).mono ?_
                      rintro e w3 ⟨rfl, hb3⟩
                      have B3 : Below w.heap.size w w3 := B2.trans (hb3.mono s2)
                      have s3 := B3.size
                      have F3 := hideR ((unhideR F2).later hb3 (Nat.le_refl _))
                      clear hb3 B2 s2 F2 CC cz
                      go_wp2_with fail
                      refine (unhideR CM _ (unhideR F3)).mono ?_
                      rintro e w4 ⟨rfl, hb4⟩
                      have B4 : Below w.heap.size w w4 := B3.trans (hb4.mono s3)
                      have s4 := B4.size
                      have F4 := hideR ((unhideR F3).later hb4 (Nat.le_refl _))
                      clear hb4 B3 s3 F3 CM
                      go_wp2_with fail
                      refine (unhideR CD _ (unhideR F4)).mono ?_
                      rintro e w5 ⟨rfl, hb5⟩
                      have B5 : Below w.heap.size w w5 := B4.trans (hb5.mono s4)
                      have s5 := B5.size
                      have F5 := hideR ((unhideR F4).later hb5 (Nat.le_refl _))
                      clear hb5 B4 s4 F4 CD
                      go_wp2_with fail
                      refine (unhideR CB _ (unhideR F5)).mono ?_
                      rintro e w6 ⟨rfl, hb6⟩
                      have B6 : Below w.heap.size w w6 := B5.trans (hb6.mono s5)
                      have s6 := B6.size
                      have F6 := hideR ((unhideR F5).later hb6 (Nat.le_refl _))
                      clear hb6 B5 s5 F5 CB
                      obtain ⟨b', off', hbe, hbo⟩ := (unhideR F6).open (by omega)
                      injection hbe with hbe
                      injection hbe with hbe1 hbe2
                      subst hbe1; subst hbe2
                      obtain ⟨y, hy, _, _, cz⟩ := bat hbo k (by omega)
                      rw [HZ.out] at hy
                      subst hy
                      clear hbo HZ F6
                      go_wp2_with fail
                      go_ret
                      exact ⟨(by first | rfl | exact ret_bool (decide_eq_true (by omega))), B6⟩
                    · have eg : ((g : Int) == (k : Int)) = false := by rw [beq_eq_false_iff_ne]; omega
                      clear hgk
                      go_wp2_with fail
                      refine (unhideR CC _ (unhideR F2)).mono ?_
                      rintro e w3 ⟨rfl, hb3⟩
                      have B3 : Below w.heap.size w w3 := B2.trans (hb3.mono s2)
                      have s3 := B3.size
                      have F3 := hideR ((unhideR F2).later hb3 (Nat.le_refl _))
                      clear hb3 B2 s2 F2 CC cz
                      go_wp2_with fail
                      refine (unhideR CM _ (unhideR F3)).mono ?_
                      rintro e w4 ⟨rfl, hb4⟩
                      have B4 : Below w.heap.size w w4 := B3.trans (hb4.mono s3)
                      have s4 := B4.size
                      have F4 := hideR ((unhideR F3).later hb4 (Nat.le_refl _))
                      clear hb4 B3 s3 F3 CM
                      go_wp2_with fail
                      refine (unhideR CD _ (unhideR F4)).mono ?_
                      rintro e w5 ⟨rfl, hb5⟩
                      have B5 : Below w.heap.size w w5 := B4.trans (hb5.mono s4)
                      have s5 := B5.size
                      have F5 := hideR ((unhideR F4).later hb5 (Nat.le_refl _))
                      clear hb5 B4 s4 F4 CD
                      go_wp2_with fail
                      refine (unhideR CB _ (unhideR F5)).mono ?_
                      rintro e w6 ⟨rfl, hb6⟩
                      have B6 : Below w.heap.size w w6 := B5.trans (hb6.mono s5)
                      have s6 := B6.size
                      have F6 := hideR ((unhideR F5).later hb6 (Nat.le_refl _))
                      clear hb6 B5 s5 F5 CB
                      obtain ⟨b', off', hbe, hbo⟩ := (unhideR F6).open (by omega)
                      injection hbe with hbe
                      injection hbe with hbe1 hbe2
                      subst hbe1; subst hbe2
                      obtain ⟨y, hy, _, _, cz⟩ := bat hbo k (by omega)
                      rw [HZ.out] at hy
                      subst hy
                      clear hbo HZ F6
                      go_wp2_with fail
                      go_ret
                      exact ⟨(by first | rfl | exact ret_bool (decide_eq_true (by omega))), B6⟩
                  · have e2 : (z == 9) = false := by rw [beq_eq_false_iff_ne]; exact h2
                    rw [next1_o h2] at hx
                    subst hx
                    by_cases hg : g = k
                    · obtain rfl : k = g := hg.symm
                      obtain rfl : c = 0 := hgk rfl
                      clear hgk
                      go_wp2_with fail
                      refine (unhideR CC _ (unhideR F2)).mono ?_
                      rintro e w3 ⟨rfl, hb3⟩
                      have B3 : Below w.heap.size w w3 := B2.trans (hb3.mono s2)
                      have s3 := B3.size
                      have F3 := hideR ((unhideR F2).later hb3 (Nat.le_refl _))
                      clear hb3 B2 s2 F2 CC cz
                      go_wp2_with fail
                      refine (unhideR CM _ (unhideR F3)).mono ?_
                      rintro e w4 ⟨rfl, hb4⟩
                      have B4 : Below w.heap.size w w4 := B3.trans (hb4.mono s3)
                      have s4 := B4.size
                      have F4 := hideR ((unhideR F3).later hb4 (Nat.le_refl _))
                      clear hb4 B3 s3 F3 CM
                      go_wp2_with fail
                      refine (unhideR CD _ (unhideR F4)).mono ?_
                      rintro e w5 ⟨rfl, hb5⟩
                      have B5 : Below w.heap.size w w5 := B4.trans (hb5.mono s4)
                      have s5 := B5.size
                      have F5 := hideR ((unhideR F4).later hb5 (Nat.le_refl _))
                      clear hb5 B4 s4 F4 CD
                      go_wp2_with fail
                      refine (unhideR CB _ (unhideR F5)).mono ?_
                      rintro e w6 ⟨rfl, hb6⟩
                      have B6 : Below w.heap.size w w6 := B5.trans (hb6.mono s5)
                      have s6 := B6.size
                      have F6 := hideR ((unhideR F5).later hb6 (Nat.le_refl _))
                      clear hb6 B5 s5 F5 CB
                      obtain ⟨b', off', hbe, hbo⟩ := (unhideR F6).open (by omega)
                      injection hbe with hbe
                      injection hbe with hbe1 hbe2
                      subst hbe1; subst hbe2
                      obtain ⟨y, hy, _, _, cz⟩ := bat hbo k (by omega)
                      rw [HZ.out] at hy
                      subst hy
                      clear hbo HZ F6
                      go_wp2_with fail
                      go_ret
                      exact ⟨rfl, B6⟩
                    · have eg : ((g : Int) == (k : Int)) = false := by rw [beq_eq_false_iff_ne]; omega
                      clear hgk
                      go_wp2_with fail
                      refine (unhideR CC _ (unhideR F2)).mono ?_
                      rintro e w3 ⟨rfl, hb3⟩
                      have B3 : Below w.heap.size w w3 := B2.trans (hb3.mono s2)
                      have s3 := B3.size
                      have F3 := hideR ((unhideR F2).later hb3 (Nat.le_refl _))
                      clear hb3 B2 s2 F2 CC cz
                      go_wp2_with fail
                      refine (unhideR CM _ (unhideR F3)).mono ?_
                      rintro e w4 ⟨rfl, hb4⟩
                      have B4 : Below w.heap.size w w4 := B3.trans (hb4.mono s3)
                      have s4 := B4.size
                      have F4 := hideR ((unhideR F3).later hb4 (Nat.le_refl _))
                      clear hb4 B3 s3 F3 CM
                      go_wp2_with fail
                      refine (unhideR CD _ (unhideR F4)).mono ?_
                      rintro e w5 ⟨rfl, hb5⟩
                      have B5 : Below w.heap.size w w5 := B4.trans (hb5.mono s4)
                      have s5 := B5.size
                      have F5 := hideR ((unhideR F4).later hb5 (Nat.le_refl _))
                      clear hb5 B4 s4 F4 CD
                      go_wp2_with fail
                      refine (unhideR CB _ (unhideR F5)).mono ?_
                      rintro e w6 ⟨rfl, hb6⟩
                      have B6 : Below w.heap.size w w6 := B5.trans (hb6.mono s5)
                      have s6 := B6.size
                      have F6 := hideR ((unhideR F5).later hb6 (Nat.le_refl _))
                      clear hb6 B5 s5 F5 CB
                      obtain ⟨b', off', hbe, hbo⟩ := (unhideR F6).open (by omega)
                      injection hbe with hbe
                      injection hbe with hbe1 hbe2
                      subst hbe1; subst hbe2
                      obtain ⟨y, hy, _, _, cz⟩ := bat hbo k (by omega)
                      rw [HZ.out] at hy
                      subst hy
                      clear hbo HZ F6
                      go_wp2_with fail
                      go_ret
                      exact ⟨rfl, B6⟩
            · obtain rfl : k = len := by omega
              clear C1 C2 C3 hbb hB F2
              by_cases hjm : (j : Int) < i
              · go_wp2_with fail
                go_ret
                exact ⟨rfl, B2⟩
              · go_wp2_with fail
                go_ret
                exact ⟨rfl, B2⟩

end Go.Proofs.Ytjjfeeclpidblaa.Ln
