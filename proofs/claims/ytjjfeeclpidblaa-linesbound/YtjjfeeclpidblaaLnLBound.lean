/- The walk of LinesBound. -/
import Derived.Test.YtjjfeeclpidblaaLnAwake
namespace Go.Proofs.Ytjjfeeclpidblaa.Ln
open Go.RowKit
set_option linter.unusedVariables false
set_option linter.unusedSimpArgs false

set_option maxRecDepth 20000 in
set_option maxHeartbeats 2000000 in
theorem linesBound_walk (a : Option Addr) (len cap : Nat) (l : List Int) (i tab : Int) (w : World) (h : Bs w a len cap l) :
    Calls Try.prog 5 #[.slice a len cap, .int .i64 i, .int .i64 tab] w fun e w' => e = .returned (.bool true) ∧ Below w.heap.size w w' := by
  have hl := h.hlen
  have hmax := h.hmax
  have hcap := h.hcap
  unfold maxLen at hmax
  have C0 := hideR (awake4_any w)
  by_cases o1 : (300 : Int) < (len : Int)
  · go_enter Try.func5, Try.ntmps5
    go_wp2_with fail
    refine (unhideR C0).mono ?_
    rintro e w1 ⟨rfl, B1⟩
    clear C0
    go_wp2_with fail
    go_ret
    exact ⟨rfl, B1⟩
  · skip
    by_cases o2 : i < 0
    · go_enter Try.func5, Try.ntmps5
      go_wp2_with fail
      refine (unhideR C0).mono ?_
      rintro e w1 ⟨rfl, B1⟩
      clear C0
      go_wp2_with fail
      go_ret
      exact ⟨rfl, B1⟩
    · skip
      by_cases o3 : (len : Int) < i
      · go_enter Try.func5, Try.ntmps5
        go_wp2_with fail
        refine (unhideR C0).mono ?_
        rintro e w1 ⟨rfl, B1⟩
        clear C0
        go_wp2_with fail
        go_ret
        exact ⟨rfl, B1⟩
      · skip
        by_cases o4 : tab < 1
        · go_enter Try.func5, Try.ntmps5
          go_wp2_with fail
          refine (unhideR C0).mono ?_
          rintro e w1 ⟨rfl, B1⟩
          clear C0
          go_wp2_with fail
          go_ret
          exact ⟨rfl, B1⟩
        · skip
          by_cases o5 : 16 < tab
          · go_enter Try.func5, Try.ntmps5
            go_wp2_with fail
            refine (unhideR C0).mono ?_
            rintro e w1 ⟨rfl, B1⟩
            clear C0
            go_wp2_with fail
            go_ret
            exact ⟨rfl, B1⟩
          · skip
            obtain ⟨n, rfl⟩ := Int.eq_ofNat_of_zero_le (show 0 ≤ i by omega)
            obtain ⟨t, rfl⟩ := Int.eq_ofNat_of_zero_le (show 0 ≤ tab by omega)
            have hn : n ≤ len := by omega
            have t1 : 1 ≤ t := by omega
            have t2 : t ≤ 16 := by omega
            have hs : len ≤ 300 := by omega
            clear o1 o2 o3 o4 o5
            have eb : beginI l (n : Int) = (beginN l n : Int) := by unfold beginI; rw [hl, if_pos (pl_yes (by omega) (by omega))]; rfl
            have ec : colI l (n : Int) (t : Int) = (colN l n t : Int) := by unfold colI; rw [hl, if_pos ⟨pl_yes (by omega) (by omega), by omega, by omega⟩]; rfl
            have C1 := hideR (fun W (h : Bs W a len cap l) => begin_any a len cap l W h n)
            have C2 := hideR (fun W (h : Bs W a len cap l) => col_any a len cap l W h (by omega) n t)
            rw [eb] at C1
            rw [ec] at C2
            have hbd := colN_bound h.hbytes (tab := t) (show n ≤ l.length by omega) t1 t2
            have hle := begin_le l n
            have HB := hideR h
            clear h eb ec
            generalize beginN l n = s at *
            generalize colN l n t = c at *
            obtain ⟨d, rfl⟩ : ∃ d, n = s + d := ⟨n - s, by omega⟩
            rw [show s + d - s = d by omega] at hbd
            obtain ⟨b1, b2⟩ := hbd
            have ed : ((s + d : Nat) : Int) - (s : Int) = (d : Int) := by omega
            have b0 : c ≤ 4800 := by omega
            go_enter Try.func5, Try.ntmps5
            go_wp2_with fail
            refine (unhideR C0).mono ?_
            rintro e w1 ⟨rfl, B1⟩
            clear C0
            have s1 := B1.size
            have F1 := hideR ((unhideR HB).later B1 (Nat.le_refl _))
            clear HB
            go_wp2_with fail
            refine (unhideR C1 _ (unhideR F1)).mono ?_
            rintro e w2 ⟨rfl, hb2⟩
            have B2 : Below w.heap.size w w2 := B1.trans (hb2.mono s1)
            have s2 := B2.size
            have F2 := hideR ((unhideR F1).later hb2 (Nat.le_refl _))
            clear hb2 B1 s1 F1 C1
            go_wp2_with fail
            refine (unhideR C2 _ (unhideR F2)).mono ?_
            rintro e w3 ⟨rfl, hb3⟩
            have B3 : Below w.heap.size w w3 := B2.trans (hb3.mono s2)
            have s3 := B3.size
            have F3 := hideR ((unhideR F2).later hb3 (Nat.le_refl _))
            clear hb3 B2 s2 F2 C2
            go_wp2_with fail
            go_ret
            exact ⟨ret_bool (decide_eq_true (by omega)), B3⟩

end Go.Proofs.Ytjjfeeclpidblaa.Ln
