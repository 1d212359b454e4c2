/- The walk of LinesTabs. -/
import Derived.Test.YtjjfeeclpidblaaLnAwake
namespace Go.Proofs.Ytjjfeeclpidblaa.Ln
open Go.RowKit
set_option linter.unusedVariables false
set_option linter.unusedSimpArgs false

theorem tabs_step {l : List Int} {s k : Nat} (hs : s ≤ k) (hk : k < l.length) : tabsN ((l.drop s).take (k + 1 - s)) = tabsN ((l.drop s).take (k - s)) + if l.getD k 0 = 9 then 1 else 0 := by
  have e : k + 1 - s = (k - s) + 1 := by omega
  have hk' : k - s < (l.drop s).length := by rw [List.length_drop]; omega
  have eg : (l.drop s)[k - s] = l.getD k 0 := by
    simp [List.getD, List.getElem_drop, show s + (k - s) = k by omega, hk]
  unfold tabsN
  rw [e, List.take_succ_eq_append_getElem hk', List.countP_append, eg]
  by_cases c : l.getD k 0 = 9 <;> simp [c]
theorem tabs_bd {l : List Int} {s k : Nat} (hs : s ≤ k) : tabsN ((l.drop s).take (k - s)) ≤ k := by
  unfold tabsN
  exact Nat.le_trans List.countP_le_length (by rw [List.length_take]; omega)

set_option maxRecDepth 20000 in
set_option maxHeartbeats 2000000 in
theorem linesTabs_walk (a : Option Addr) (len cap : Nat) (l : List Int) (i tab : Int) (w : World) (h : Bs w a len cap l) :
    Calls Try.prog 8 #[.slice a len cap, .int .i64 i, .int .i64 tab] w fun e w' => e = .returned (.bool true) ∧ Below w.heap.size w w' := by
  have hl := h.hlen
  have hmax := h.hmax
  have hcap := h.hcap
  unfold maxLen at hmax
  have C0 := hideR (awake4_any w)
  by_cases o1 : (300 : Int) < (len : Int)
  · go_enter Try.func8, Try.ntmps8
    go_wp2_with fail
    refine (unhideR C0).mono ?_
    rintro e w1 ⟨rfl, B1⟩
    clear C0
    go_wp2_with fail
    go_ret
    exact ⟨rfl, B1⟩
  · skip
    by_cases o2 : i < 0
    · go_enter Try.func8, Try.ntmps8
      go_wp2_with fail
      refine (unhideR C0).mono ?_
      rintro e w1 ⟨rfl, B1⟩
      clear C0
      go_wp2_with fail
      go_ret
      exact ⟨rfl, B1⟩
    · skip
      by_cases o3 : (len : Int) < i
      · go_enter Try.func8, Try.ntmps8
        go_wp2_with fail
        refine (unhideR C0).mono ?_
        rintro e w1 ⟨rfl, B1⟩
        clear C0
        go_wp2_with fail
        go_ret
        exact ⟨rfl, B1⟩
      · skip
        by_cases o4 : tab < 1
        · go_enter Try.func8, Try.ntmps8
          go_wp2_with fail
          refine (unhideR C0).mono ?_
          rintro e w1 ⟨rfl, B1⟩
          clear C0
          go_wp2_with fail
          go_ret
          exact ⟨rfl, B1⟩
        · skip
          by_cases o5 : 16 < tab
          · go_enter Try.func8, Try.ntmps8
            go_wp2_with fail
            refine (unhideR C0).mono ?_
            rintro e w1 ⟨rfl, B1⟩
            clear C0
            go_wp2_with fail
            go_ret
            exact ⟨rfl, B1⟩
          · skip
            obtain ⟨n, rfl⟩ := Int.eq_ofNat_of_zero_le (show 0 ≤ i by omega)
            obtain ⟨t, rfl⟩ := Int.eq_ofNat_of_zero_le (show 0 ≤ tab by omega)
            have hn : n ≤ len := by omega
            have t1 : 1 ≤ t := by omega
            have t2 : t ≤ 16 := by omega
            have hs : len ≤ 300 := by omega
            clear o1 o2 o3 o4 o5
            have eb : beginI l (n : Int) = (beginN l n : Int) := by unfold beginI; rw [hl, if_pos (pl_yes (by omega) (by omega))]; rfl
            have ec : colI l (n : Int) (t : Int) = (colN l n t : Int) := by unfold colI; rw [hl, if_pos ⟨pl_yes (by omega) (by omega), by omega, by omega⟩]; rfl
            have ec1 : colI l (n : Int) ((1 : Nat) : Int) = (colN l n (1 : Nat) : Int) := by unfold colI; rw [hl, if_pos ⟨pl_yes (by omega) (by omega), by omega, by omega⟩]; rfl
            have C1 := hideR (fun W (h : Bs W a len cap l) => col_any a len cap l W h (by omega) n 1)
            have C2 := hideR (fun W (h : Bs W a len cap l) => col_any a len cap l W h (by omega) n t)
            have C3 := hideR (fun W (h : Bs W a len cap l) => begin_any a len cap l W h n)
            rw [eb] at C3
            rw [ec] at C2
            rw [show (1 : Int) = ((1 : Nat) : Int) from rfl] at C1
            rw [ec1] at C1
            rw [show ((1 : Nat) : Int) = (1 : Int) from rfl] at C1
            have hle := begin_le l n
            have hct := col_tabs (tab := t) t1 (n - beginN l n) (l.drop (beginN l n)) (n - beginN l n) 0 0 (U.isBytes_drop h.hbytes _) (by rw [List.length_drop]; omega) (Nat.le_refl _)
            have hct1 : colN l n 1 ≤ colN l n t := hct.1
            have hct2 : colN l n t ≤ colN l n 1 + tabsN ((l.drop (beginN l n)).take (n - beginN l n)) * (t - 1) := hct.2.2.2
            have hbd := (colN_bound h.hbytes (tab := t) (show n ≤ l.length by omega) t1 t2).1
            have HB := hideR h
            have H2 := hideR hct2
            clear h eb ec ec1 hct hct2
            generalize colN l n 1 = c1 at *
            generalize colN l n t = c at *
            generalize beginN l n = s at *
            obtain ⟨u, rfl⟩ : ∃ u, t = u + 1 := ⟨t - 1, by omega⟩
            rw [show u + 1 - 1 = u by omega] at H2
            have hc4 : c ≤ 4800 := by omega
            go_enter Try.func8, Try.ntmps8
            go_wp2_with fail
            refine (unhideR C0).mono ?_
            rintro e w1 ⟨rfl, B1⟩
            clear C0
            have s1 := B1.size
            have F1 := hideR ((unhideR HB).later B1 (Nat.le_refl _))
            clear HB
            go_wp2_with fail
            refine (unhideR C1 _ (unhideR F1)).mono ?_
            rintro e w2 ⟨rfl, hb2⟩
            have B2 : Below w.heap.size w w2 := B1.trans (hb2.mono s1)
            have s2 := B2.size
            have F2 := hideR ((unhideR F1).later hb2 (Nat.le_refl _))
            clear hb2 B1 s1 F1 C1
            go_wp2_with fail
            refine (unhideR C2 _ (unhideR F2)).mono ?_
            rintro e w3 ⟨rfl, hb3⟩
            have B3 : Below w.heap.size w w3 := B2.trans (hb3.mono s2)
            have s3 := B3.size
            have F3 := hideR ((unhideR F2).later hb3 (Nat.le_refl _))
            clear hb3 B2 s2 F2 C2
            go_wp2_with fail
            refine (unhideR C3 _ (unhideR F3)).mono ?_
            rintro e w4 ⟨rfl, hb4⟩
            have B4 : Below w.heap.size w w4 := B3.trans (hb4.mono s3)
            have s4 := B4.size
            have F4 := hideR ((unhideR F3).later hb4 (Nat.le_refl _))
            clear hb4 B3 s3 F3 C3
            go_wp2_with fail
            go_loopw [10, 11] (fun v j wr => ∃ T k : Nat, s ≤ k ∧ k ≤ n ∧ T ≤ k ∧ v = .int .i64 T ∧ j = .int .i64 k ∧ Hid (T = tabsN ((l.drop s).take (k - s))) ∧ wr = w4) (fun _ j _ => n - (intOf j).toNat)
            case atStart => exact ⟨0, s, Nat.le_refl _, hle, Nat.zero_le _, rfl, rfl, by show _ = _; simp [tabsN], by trivial⟩
            case round =>
              obtain ⟨T, k, hk0, hk, hT, rfl, rfl, hg, hw⟩ := hrel
              obtain rfl : wr = w4 := hw
              by_cases hlt : k < n
              · obtain ⟨b, off, rfl, hb⟩ := (unhideR F4).open (by omega)
                obtain ⟨z, hz, z0, z1, cz⟩ := bat hb k (by omega)
                have st := tabs_step (l := l) hk0 (show k < l.length by omega)
                rw [hz] at st
                by_cases h9 : z = 9
                · subst h9
                  rw [if_pos rfl] at st
                  have hg2 : Hid (T + 1 = tabsN ((l.drop s).take (k + 1 - s))) := by show _ = _; rw [st, hg.out]
                  clear hb hz st hg H2
                  go_wp2_with fail
                  go_roundw
                  case rel => exact ⟨T + 1, k + 1, by omega, by omega, by omega, by go_num, by go_num, hg2, by trivial⟩
                  case measure => simp [intOf]; omega
                · rw [if_neg h9] at st
                  have hg2 : Hid (T = tabsN ((l.drop s).take (k + 1 - s))) := by show _ = _; rw [st, hg.out]; rfl
                  have ez : (z == 9) = false := by rw [beq_eq_false_iff_ne]; exact h9
                  clear hb hz st hg H2
                  go_wp2_with fail
                  go_roundw
                  case rel => exact ⟨T, k + 1, by omega, by omega, by omega, rfl, by go_num, hg2, by trivial⟩
                  case measure => simp [intOf]; omega
              · have e : k = n := by omega
                subst e
                have h2 := unhideR H2
                rw [← hg.out] at h2
                clear hg H2
                by_cases hT0 : T = 0
                · subst hT0
                  rw [Nat.zero_mul, Nat.add_zero] at h2
                  obtain rfl : c = c1 := by omega
                  go_wp2_with fail
                  go_ret
                  exact ⟨rfl, B4⟩
                · obtain ⟨P, hP⟩ : ∃ P, T * u = P := ⟨_, rfl⟩
                  rw [hP] at h2
                  have eP : (T : Int) * (u : Int) = (P : Int) := by rw [← hP, Int.natCast_mul]
                  have hPb : P ≤ 300 * 16 := by rw [← hP]; exact Nat.mul_le_mul (by omega) (by omega)
                  clear hP
                  go_wp2_with fail
                  go_ret
                  exact ⟨rfl, B4⟩

end Go.Proofs.Ytjjfeeclpidblaa.Ln
