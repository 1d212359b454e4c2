/- The walk of TokenLit. -/
import Derived.Test.YtlofickahemlfaaGreatDoorTkV
import Derived.Test.YtlofickahemlfaaGreatDoorTkLaws
import Derived.Deep.RegionHeld3
namespace Go.Proofs.YtlofickahemlfaaGreatDoor.T
open Go.RowKit
set_option linter.unusedVariables false
set_option linter.unusedSimpArgs false

theorem may_lit (sh : Int → List Int) (b : List Int) : mayW sh (1, b, []) = mayL (1, b, []) ∧ wrL sh (1, b, []) = textL (1, b, []) := by
  have e : wrL sh (1, b, []) = textL (1, b, []) := by
    unfold wrL textL
    simp
  refine ⟨?_, e⟩
  unfold mayW mayL
  rw [e]
  rw [show partsB (1, b, []) = true from by simp [partsB, G.mayB, G.mayFrom]]
  rw [Bool.true_and]
  rfl
set_option maxRecDepth 20000 in
set_option maxHeartbeats 4000000 in
theorem may_long (k : Int) (S : ByteArray) (hS : 3000 < S.size) (a : Option Addr) (n c : Nat) (p : Int) (w : World) :
    Calls Tryz.prog 15 #[.agg #[.int .i64 k, .string S, .slice a n c, .int .i64 p]] w fun e w' => e = .returned (.bool false) ∧ Below w.heap.size w w' := by
  have t1 : (3000 : Int) < (S.size : Int) := by omega
  go_enter Tryz.func15, Tryz.ntmps15
  go_wp2_with fail
  go_ret
  exact ⟨rfl, Below.new1 _⟩
set_option maxRecDepth 20000 in
set_option maxHeartbeats 4000000 in
theorem text_long (k : Int) (S : ByteArray) (hS : 3000 < S.size) (a : Option Addr) (n c : Nat) (p : Int) (w : World) :
    Calls Tryz.prog 16 #[.agg #[.int .i64 k, .string S, .slice a n c, .int .i64 p]] w fun e w' => e = .returned (.string ⟨#[]⟩) ∧ Below w.heap.size w w' := by
  have CM := hideR (fun W => may_long k S hS a n c p W)
  clear hS
  go_enter Tryz.func16, Tryz.ntmps16
  go_wp2_with fail
  refine (unhideR CM _).mono ?_
  rintro e w1 ⟨rfl, b1⟩
  clear CM
  go_wp2_with fail
  go_ret
  exact ⟨rfl, bthen (Below.new1 _) b1⟩
theorem oneL_lit {b : List Int} (hb : U.isBytes b) (h : b ≠ []) (hl : b.length ≤ 300) : allL (textL (1, b, [])) = .inr [((1, b, []), 0)] := all_text (lit_ok hb h) (by have := lit_len b; omega)
set_option maxRecDepth 20000 in
set_option maxHeartbeats 8000000 in
theorem tokenLit_walk (a : Option Addr) (len cap : Nat) (l : List Int) (w : World) (h : Bs w a len cap l) (hn : a = none → cap = 0) :
    Calls Tryz.prog 7 #[.slice a len cap] w fun e w' => e = .returned (.bool true) ∧ Below w.heap.size w w' := by
  have hlen := h.hlen
  have CU := hideR (awake5_any w)
  have HB := hideR h
  have hbb := h.hbytes
  have hsz : (strOfNums l).size = len := by rw [strOfNums_size, hlen]
  clear h hn
  by_cases big : 3000 < len
  · have CT := hideR (fun W => text_long 1 (strOfNums l) (by rw [hsz]; exact big) none 0 0 0 W)
    have t1 : (300 : Int) < (len : Int) := by omega
    generalize hS : strOfNums l = S at *
    go_enter Tryz.func7, Tryz.ntmps7
    go_wp2_with fail
    refine (unhideR CU).mono ?_
    rintro e w1 ⟨rfl, b1⟩
    have cv := (Bs.later (unhideR HB) b1 (Nat.le_refl _)).str
    rw [hS] at cv
    clear CU HB
    go_wp2_with fail
    refine (unhideR CT _).mono ?_
    rintro e w2 ⟨rfl, b2⟩
    clear CT
    go_wp2_with fail
    go_ret
    exact ⟨rfl, bthen (bthen b1 (Below.new1 _)) b2⟩
  · have TA : ∀ W, TokA W (1, l, []) none 0 := fun W => ⟨by unfold fits; omega, hbb, by simp only; omega, Rs.nil W, by simp⟩
    have CT := hideR (fun W => text_l (showO false) (1, l, []) none 0 0 W (TA W) (ender_nil _ _))
    have CM := hideR (fun W => may_l (showO false) (1, l, []) none 0 0 W (TA W) (ender_nil _ _))
    obtain ⟨m1, m2⟩ := may_lit (showO false) l
    have tx : txtW (showO false) (1, l, []) = if mayL (1, l, []) then textL (1, l, []) else [] := by unfold txtW; rw [m1, m2]
    rw [tx] at CT
    rw [m1] at CM
    clear TA tx m1 m2
    unfold tokAgg at CT CM
    simp only [List.length_nil] at CT CM
    by_cases mid : 300 < len
    · have t1 : (300 : Int) < (len : Int) := by omega
      generalize strOfNums (if mayL (1, l, []) then textL (1, l, []) else []) = X at *
      generalize hS : strOfNums l = S at *
      go_enter Tryz.func7, Tryz.ntmps7
      go_wp2_with fail
      refine (unhideR CU).mono ?_
      rintro e w1 ⟨rfl, b1⟩
      have cv := (Bs.later (unhideR HB) b1 (Nat.le_refl _)).str
      rw [hS] at cv
      clear CU HB CM
      go_wp2_with fail
      refine (unhideR CT _).mono ?_
      rintro e w2 ⟨rfl, b2⟩
      clear CT
      go_wp2_with fail
      go_ret
      exact ⟨rfl, bthen (bthen b1 (Below.new1 _)) b2⟩
    · have t1 : (len : Int) ≤ 300 := by omega
      by_cases zero : len = 0
      · subst zero
        obtain rfl : l = [] := List.eq_nil_of_length_eq_zero hlen
        rw [lit_none] at CT CM
        simp only [Bool.false_eq_true, if_false] at CT
        have e0 : strOfNums [] = ⟨#[]⟩ := rfl
        rw [e0] at CT CM
        clear e0
        go_enter Tryz.func7, Tryz.ntmps7
        go_wp2_with fail
        refine (unhideR CU).mono ?_
        rintro e w1 ⟨rfl, b1⟩
        have cv : _ = _ := (Bs.later (unhideR HB) b1 (Nat.le_refl _)).str
        have e0 : strOfNums [] = ⟨#[]⟩ := rfl
        rw [e0] at cv
        clear CU HB e0
        go_wp2_with fail
        refine (unhideR CT _).mono ?_
        rintro e w2 ⟨rfl, b2⟩
        clear CT
        obtain ⟨q0, q1, q2, q3⟩ := (cells4 (kept_new b2)).1
        go_wp2_with fail
        refine (unhideR CM _).mono ?_
        rintro e w3 ⟨rfl, b3⟩
        clear CM
        go_wp2_with fail
        go_ret
        exact ⟨retB (by first | rfl | simp), bthen (bthen (bthen b1 (Below.new1 _)) b2) b3⟩
      · have hne : l ≠ [] := by intro c; rw [c] at hlen; simp at hlen; omega
        have hm : mayL (1, l, []) = true := (may_iff (text_facts (lit_ok hbb hne)).2.2).2 ⟨lit_ok hbb hne, by have := lit_len l; omega⟩
        rw [hm] at CT CM
        simp only [if_true] at CT
        have tl := lit_len l
        have tb := (text_facts (lit_ok hbb hne)).2.2
        have pr := lit_print hbb
        have al := oneL_lit hbb hne (by omega)
        have CA := hideR (fun W => all_l _ _ (St.of tb) (by omega) W)
        have z0 : ((len : Int) == 0) = false := beq_eq_false_iff_ne.2 (by omega)
        have STX := hideR (St.of tb)
        have HPR := hideR pr
        have HAL := hideR al
        have hxs : (strOfNums (textL (1, l, []))).size = (textL (1, l, [])).length := strOfNums_size _
        have HXS := hideR hxs
        generalize hTX : textL (1, l, []) = TX at *
        generalize hX : strOfNums TX = X at *
        generalize hS : strOfNums l = S at *
        clear pr al hm hxs tb
        go_enter Tryz.func7, Tryz.ntmps7
        go_wp2_with fail
        refine (unhideR CU).mono ?_
        rintro e w1 ⟨rfl, b1⟩
        have cv : _ = _ := (Bs.later (unhideR HB) b1 (Nat.le_refl _)).str
        rw [hS] at cv
        clear CU
        go_wp2_with fail
        refine (unhideR CT _).mono ?_
        rintro e w2 ⟨rfl, b2⟩
        clear CT
        go_wp2_with fail
        go_loopw [6] (fun j wr => ∃ k : Nat, k ≤ X.size ∧ j = .int .i64 (k : Int) ∧ wr = w2) (fun j _ => X.size - (intOf j).toNat)
        case atStart => exact ⟨0, Nat.zero_le _, rfl, by trivial⟩
        case round =>
          obtain ⟨k, hk, rfl, hww⟩ := hrel
          obtain rfl : wr = w2 := hww
          by_cases hlt : k < X.size
          · have hkl : k < TX.length := by rw [← unhideR HXS]; exact hlt
            have x0 := (unhideR STX).ix hkl
            have pz := unhideR HPR (TX.getD k 0) (by rw [List.getD, List.getElem?_eq_getElem hkl]; exact List.getElem_mem hkl)
            obtain ⟨z1, z2⟩ := pz
            generalize TX.getD k 0 = z at *
            clear CA CM STX HPR HAL HXS HB
            go_wp2_with fail
            go_roundw
            case rel => exact ⟨k + 1, by omega, by go_num, by trivial⟩
            case measure => simp [intOf]; omega
          · obtain rfl : k = X.size := by omega
            have C3 := hideR (unhideR CA wr)
            have t4 : ¬ ((X.size : Int) < (X.size : Int)) := by omega
            have HXL : X.size = TX.length := unhideR HXS
            have HBW := Bs.later (unhideR HB) (bthen (bthen b1 (Below.new1 (.cells #[.int .i64 1, .string S, .slice none 0 0, .int .i64 0] 24))) b2) (Nat.le_refl _)
            have HB3 := hideR HBW
            have KT := hideR (kept_new b2)
            clear CA STX HPR HXS HB HBW cv
            go_wp2_with fail
            refine (unhideR C3).mono ?_
            rintro e w3 ⟨ar, b3⟩
            clear C3
            rcases ar with ⟨pa, er, ea, rfl⟩ | ⟨ts, v, ea, rfl, tk⟩
            · rw [unhideR HAL] at ea; cases ea
            · obtain rfl : ts = [((1, l, []), 0)] := by rw [unhideR HAL] at ea; injection ea with ea; exact ea.symm
              obtain ⟨g, cp, a', c', rfl, g1, g2, g3, y0, y1, y2, y3, hr0⟩ := tks_at tk (i := 0) rfl
              simp only [Nat.mul_zero, Nat.zero_add, List.length_singleton] at g1 y0 y1 y2 y3
              rw [hS] at y1
              have b3k : w3.heap[w1.heap.size]? = some (.cells #[.int .i64 1, .string S, .slice none 0 0, .int .i64 0] 24) := (b3.block _ (Array.getElem?_eq_some_iff.1 (unhideR KT)).1).trans (unhideR KT)
              obtain ⟨q0, q1, q2, q3⟩ := (cells4 b3k).1
              have cv3 : (convert 43 9 (.slice a len cap)).run Tryz.prog w3.drew = .ok (.string (strOfNums l)) w3.drew := (Bs.later (Bs.later (unhideR HB3) b3 (Nat.le_refl _)) (draws_b (k := 1)) (Nat.le_refl _)).str
              have HBD : Hid (Bs w3.drew a len cap l) := Bs.later (Bs.later (unhideR HB3) b3 (Nat.le_refl _)) (draws_b (k := 1)) (Nat.le_refl _)
              rw [hS] at cv3
              have B0 := bthen (bthen (bthen b1 (Below.new1 (.cells #[.int .i64 1, .string S, .slice none 0 0, .int .i64 0] 24))) b2) b3
              have gl := block_lt' y0
              have tl1 := block_lt' q0
              clear tk hr0 y2 y3 KT HB3 HAL ea b3k
              rw [← HXL]
              go_wp2_with fail
              go_region_held3 (fun w' => w'.cell? ⟨g, 0, none⟩ = some (.int .i64 1) ∧ w'.cell? ⟨g, 1, none⟩ = some (.string S) ∧ w'.cell? ⟨w1.heap.size, 0, none⟩ = some (.int .i64 1) ∧ w'.cell? ⟨w1.heap.size, 1, none⟩ = some (.string S) ∧ w'.cell? ⟨w1.heap.size, 2, none⟩ = some (.slice none 0 0) ∧ w'.cell? ⟨w1.heap.size, 3, none⟩ = some (.int .i64 0) ∧ (convert 43 9 (.slice a len cap)).run Tryz.prog w' = .ok (.string S) w')
                (first
                  | exact ⟨y0, y1, q0, q1, q2, q3, cv3⟩
                  | exact ⟨(b4.cell gl).trans y0, (b4.cell gl).trans y1, (b4.cell tl1).trans q0, (b4.cell tl1).trans q1, (b4.cell tl1).trans q2, (b4.cell tl1).trans q3, by have hcv := (Bs.later (unhideR HBD) b4 (Nat.le_refl _)).str; rw [hS] at hcv; exact hcv⟩)
                ((go_at_call 15; refine (unhideR CM _).mono ?_; rintro e w4 ⟨rfl, b4⟩))
              all_goals (go_wp2_with fail)
              all_goals go_ret
              all_goals exact ⟨retB (by first | rfl | simp), (B0.trans draws_b).trans (b4.mono (by have := B0.size; show _ ≤ w3.heap.size; omega))⟩
end Go.Proofs.YtlofickahemlfaaGreatDoor.T
