/- The walk of TokenName. -/
import Derived.Test.YtlofickahemlfaaGreatDoorTkV
import Derived.Test.YtlofickahemlfaaGreatDoorTkLaws
namespace Go.Proofs.YtlofickahemlfaaGreatDoor.T
open Go.RowKit
set_option linter.unusedVariables false
set_option linter.unusedSimpArgs false

theorem st_of (s : ByteArray) : ∃ l, St s l := by
  refine ⟨s.data.toList.map fun b => (b.toNat : Int), ?_, ?_⟩
  · apply ByteArray.ext
    apply Array.ext'
    rw [strOfNums_data, List.map_map]
    symm
    conv => rhs; rw [← List.map_id s.data.toList]
    refine List.map_congr_left fun b _ => ?_
    simp
  · intro z hz
    obtain ⟨b, _, rfl⟩ := List.mem_map.1 hz
    have := b.toNat_lt
    omega
theorem may_name (sh : Int → List Int) (b : List Int) : mayW sh (0, b, []) = mayL (0, b, []) := by
  have e : wrL sh (0, b, []) = textL (0, b, []) := by
    unfold wrL textL
    simp
  unfold mayW mayL
  rw [e, show partsB (0, b, []) = true from by simp [partsB, G.mayB, G.mayFrom], Bool.true_and]
  rfl
def nmP (i : Nat) (z : Int) : Bool := isLet z || (decide (0 < i) && (isDig z || decide (z = 95)))
def okN (s : List Int) : Nat → Bool
  | 0 => decide (1 ≤ s.length) && decide (s.length ≤ 12)
  | k + 1 => okN s k && nmP k (s.getD k 0)
theorem okN_iff (s : List Int) : ∀ k, okN s k = true ↔ (1 ≤ s.length ∧ s.length ≤ 12) ∧ ∀ i, i < k → nmP i (s.getD i 0) = true := by
  intro k
  induction k with
  | zero => simp [okN]
  | succ k ih =>
    simp only [okN, Bool.and_eq_true, ih]
    constructor
    · rintro ⟨⟨h1, h2⟩, h3⟩
      refine ⟨h1, fun i hi => ?_⟩
      by_cases e : i = k
      · subst e; exact h3
      · exact h2 i (by omega)
    · rintro ⟨h1, h2⟩
      exact ⟨⟨h1, fun i hi => h2 i (by omega)⟩, h2 k (by omega)⟩
theorem okN_name (s : List Int) : okN s s.length = (nameB s && decide (s.length ≤ 12)) := by
  rw [Bool.eq_iff_iff, okN_iff, Bool.and_eq_true, name_iff, decide_eq_true_eq]
  constructor
  · rintro ⟨⟨h1, h2⟩, h3⟩
    refine ⟨⟨?_, fun z hz => ?_⟩, h2⟩
    · have := h3 0 (by omega)
      simpa [nmP] using this
    · obtain ⟨i, hi, rfl⟩ := List.mem_iff_getElem.1 hz
      have := h3 i hi
      have e : s.getD i 0 = s[i] := by simp [List.getD, hi]
      rw [e] at this
      unfold nmP at this
      unfold isW
      simp only [Bool.or_eq_true, Bool.and_eq_true] at this ⊢
      rcases this with h | ⟨_, h | h⟩
      · exact .inl (.inl h)
      · exact .inl (.inr h)
      · exact .inr h
  · rintro ⟨⟨h1, h2⟩, h3⟩
    have h0 : s ≠ [] := by intro c; rw [c] at h1; exact absurd h1 (by decide)
    have hl : 1 ≤ s.length := by cases s <;> simp_all
    refine ⟨⟨hl, h3⟩, fun i hi => ?_⟩
    have e : s.getD i 0 = s[i] := by simp [List.getD, hi]
    have hw := h2 s[i] (List.getElem_mem hi)
    by_cases hi0 : i = 0
    · subst hi0
      unfold nmP
      rw [h1]
      rfl
    · rw [e]
      unfold isW at hw
      unfold nmP
      rw [decide_eq_true (show 0 < i by omega), Bool.true_and, ← Bool.or_assoc]
      exact hw
set_option maxRecDepth 20000 in
set_option maxHeartbeats 16000000 in
theorem tokenName_walk (s u : ByteArray) (w : World) (hs0 : s.size ≤ maxLen) (hu0 : u.size ≤ maxLen) :
    Calls Tryz.prog 8 #[.string s, .string u] w fun e w' => e = .returned (.bool true) ∧ Below w.heap.size w w' := by
  have CU := hideR (awake5_any w)
  by_cases b1 : 100 < s.size
  · have t1 : (100 : Int) < (s.size : Int) := by omega
    go_enter Tryz.func8, Tryz.ntmps8
    go_wp2_with fail
    refine (unhideR CU).mono ?_
    rintro e w1 ⟨rfl, b1⟩
    clear CU
    go_wp2_with fail
    go_ret
    exact ⟨rfl, b1⟩
  have t1 : (s.size : Int) ≤ 100 := by omega
  by_cases b2 : 100 < u.size
  · have t2 : (100 : Int) < (u.size : Int) := by omega
    go_enter Tryz.func8, Tryz.ntmps8
    go_wp2_with fail
    refine (unhideR CU).mono ?_
    rintro e w1 ⟨rfl, b1⟩
    clear CU
    go_wp2_with fail
    go_ret
    exact ⟨rfl, b1⟩
  have t2 : (u.size : Int) ≤ 100 := by omega
  obtain ⟨ls, hs⟩ := st_of s
  obtain ⟨lu, hu⟩ := st_of u
  have zs := hs.size
  have zu := hu.size
  have TA : ∀ W (l : List Int), U.isBytes l → l.length ≤ 100 → TokA W (0, l, []) none 0 := fun W l h1 h2 => ⟨by unfold fits; omega, h1, by simp only; omega, Rs.nil W, by simp⟩
  have C1 := hideR (fun W => may_l (showO false) (0, ls, []) none 0 0 W (TA W ls hs.2 (by omega)) (ender_nil _ _))
  have C2 := hideR (fun W => may_l (showO false) (0, lu, []) none 0 0 W (TA W lu hu.2 (by omega)) (ender_nil _ _))
  rw [may_name, name_may hs.2 (by omega)] at C1
  rw [may_name, name_may hu.2 (by omega)] at C2
  have C3 := hideR (fun W => all_l _ _ (St.app hs hu) (by rw [List.length_append]; omega) W)
  unfold tokAgg at C1 C2
  simp only [List.length_nil] at C1 C2
  rw [← hs.1] at C1
  rw [← hu.1] at C2
  have FIN := okN_name ls
  have NA : nameB ls = true → nameB lu = true → allL (ls ++ lu) = if s.size + u.size ≤ 12 then .inr [((0, ls ++ lu, []), 0)] else .inl (0, 2) := by
    intro h1 h2
    rw [zs, zu, name_all (name_app h1 h2) (by rw [List.length_append]; omega), List.length_append]
  have HN := hideR NA
  have HS := hideR hs
  have HZ := hideR zs
  have HF := hideR FIN
  have hz1 : s.size ≤ 100 := by omega
  have hz2 : u.size ≤ 100 := by omega
  have hz3 : ¬ ((9223372036854775807 : Int) < (s.size : Int) + (u.size : Int)) := by omega
  have q1 := wrapI ((s.size : Int) + (u.size : Int)) (by omega)
  have o0 : okN ls 0 = (decide (1 ≤ (s.size : Int)) && decide ((s.size : Int) ≤ 12)) := by
    show (decide (1 ≤ ls.length) && decide (ls.length ≤ 12)) = _
    rw [← zs]
    congr 1 <;> simp <;> omega
  have HO := hideR o0
  clear NA hs hu FIN TA o0 zs zu
  by_cases e0 : s.size = 0
  · have HO0 : Hid (okN ls 0 = false) := by show _ = _; rw [unhideR HO]; simp; omega
    have c1 : ¬ (1 ≤ (s.size : Int)) := by omega
    go_enter Tryz.func8, Tryz.ntmps8
    go_wp2_with fail
    refine (unhideR CU).mono ?_
    rintro e w1 ⟨rfl, b1⟩
    clear CU
    go_wp2_with fail
    go_loopw [6, 7] (fun v j wr => ∃ k : Nat, k ≤ s.size ∧ v = .bool (okN ls k) ∧ j = .int .i64 (k : Int) ∧ wr = w1) (fun _ j _ => s.size - (intOf j).toNat)
    case atStart => exact ⟨0, Nat.zero_le _, by rw [unhideR HO0]; try (first | rfl | (simp; omega)), rfl, by trivial⟩
    case round =>
      obtain ⟨k, hk, rfl, rfl, hww⟩ := hrel
      obtain rfl : wr = w1 := hww
      by_cases hlt : k < s.size
      · have x0 := (unhideR HS).ix (k := k) (by rw [← unhideR HZ]; exact hlt)
        obtain ⟨z0, z1⟩ := (unhideR HS).byte k
        have HKF : ∀ y, y = okN ls k → okN ls (k + 1) = (y && nmP k (ls.getD k 0)) := by intro y hy; subst hy; rfl
        generalize ls.getD k 0 = z at *
        clear C1 C2 C3 HN HS HZ HF HO0
        exact absurd hlt (by omega)
      · obtain rfl : k = s.size := by omega
        have HB1 : okN ls s.size = (nameB ls && decide (ls.length ≤ 12)) := by rw [unhideR HZ]; exact unhideR HF
        rw [← HB1] at C1
        have HB1H := hideR HB1
        clear HB1 HS HF HO0 HO HZ
        generalize okN ls s.size = B at *
        generalize hM2 : (nameB lu && decide (lu.length ≤ 12)) = M2 at *
        have HM2 := hideR hM2
        clear hM2
        have t9 : ¬ ((s.size : Int) < (s.size : Int)) := by omega
        go_wp2_with fail
        refine (unhideR C1 _).mono ?_
        rintro e w2 ⟨rfl, b2⟩
        go_wp2_with fail
        refine (unhideR C2 _).mono ?_
        rintro e w3 ⟨rfl, b3⟩
        go_wp2_with fail
        refine (unhideR C3 _).mono ?_
        rintro e w4 ⟨ar, b4⟩
        clear C1 C2 C3
        have BB := bthen (bthen (bthen b1 b2) b3) b4
        cases B with
        | false =>
          rcases ar with ⟨pa, er, ea, rfl⟩ | ⟨ts, v, ea, rfl, tk⟩
          · clear ea HN HB1H HM2
            go_wp2_with fail
            go_ret
            exact ⟨retB (by first | rfl | (simp; done) | (simp; omega)), BB⟩
          · clear ea HN HB1H HM2 tk
            go_wp2_with fail
            go_ret
            exact ⟨retB (by first | rfl | (simp; done) | (simp; omega)), BB⟩
        | true =>
          cases M2 with
          | false =>
            rcases ar with ⟨pa, er, ea, rfl⟩ | ⟨ts, v, ea, rfl, tk⟩
            · clear ea HN HB1H HM2
              go_wp2_with fail
              go_ret
              exact ⟨retB (by first | rfl | (simp; done) | (simp; omega)), BB⟩
            · clear ea HN HB1H HM2 tk
              go_wp2_with fail
              go_ret
              exact ⟨retB (by first | rfl | (simp; done) | (simp; omega)), BB⟩
          | true =>
            have n1 : nameB ls = true := by have := (unhideR HB1H).symm; simp only [Bool.and_eq_true] at this; exact this.1
            have n2 : nameB lu = true := by have := unhideR HM2; simp only [Bool.and_eq_true] at this; exact this.1
            have na := unhideR HN n1 n2
            by_cases c12 : s.size + u.size ≤ 12
            · rw [if_pos c12] at na
              have c13 : (s.size : Int) + (u.size : Int) ≤ 12 := by omega
              rcases ar with ⟨pa, er, ea, rfl⟩ | ⟨ts, v, ea, rfl, tk⟩
              · rw [na] at ea; cases ea
              · have hts : ts = [((0, ls ++ lu, []), 0)] := by rw [na] at ea; injection ea with ea; exact ea.symm
                obtain ⟨cs, ho, -⟩ := tk
                obtain ⟨p7, c7, e7⟩ := own_form ho
                rw [hts] at e7
                simp only [List.length_singleton] at e7
                clear ea HN HB1H HM2 ho na n1 n2 hts
                subst e7
                go_wp2_with fail
                go_ret
                exact ⟨retB (by first | rfl | (simp; done) | (simp; omega)), BB⟩
            · rw [if_neg c12] at na
              have c13 : (12 : Int) < (s.size : Int) + (u.size : Int) := by omega
              rcases ar with ⟨pa, er, ea, rfl⟩ | ⟨ts, v, ea, rfl, tk⟩
              · have hp : pa = 0 ∧ er = 2 := by rw [na] at ea; injection ea with ea; injection ea with e1 e2; exact ⟨e1.symm, e2.symm⟩
                obtain ⟨rfl, rfl⟩ := hp
                clear ea HN HB1H HM2 na n1 n2
                go_wp2_with fail
                go_ret
                exact ⟨retB (by first | rfl | (simp; done) | (simp; omega)), BB⟩
              · rw [na] at ea; cases ea
  · by_cases e1 : s.size ≤ 12
    · have HO0 : Hid (okN ls 0 = true) := by show _ = _; rw [unhideR HO]; simp; omega
      have c1 : 1 ≤ (s.size : Int) := by omega
      have c2 : (s.size : Int) ≤ 12 := by omega
      go_enter Tryz.func8, Tryz.ntmps8
      go_wp2_with fail
      refine (unhideR CU).mono ?_
      rintro e w1 ⟨rfl, b1⟩
      clear CU
      go_wp2_with fail
      go_loopw [6, 7] (fun v j wr => ∃ k : Nat, k ≤ s.size ∧ v = .bool (okN ls k) ∧ j = .int .i64 (k : Int) ∧ wr = w1) (fun _ j _ => s.size - (intOf j).toNat)
      case atStart => exact ⟨0, Nat.zero_le _, by rw [unhideR HO0]; try (first | rfl | (simp; omega)), rfl, by trivial⟩
      case round =>
        obtain ⟨k, hk, rfl, rfl, hww⟩ := hrel
        obtain rfl : wr = w1 := hww
        by_cases hlt : k < s.size
        · have x0 := (unhideR HS).ix (k := k) (by rw [← unhideR HZ]; exact hlt)
          obtain ⟨z0, z1⟩ := (unhideR HS).byte k
          have HKF : ∀ y, y = okN ls k → okN ls (k + 1) = (y && nmP k (ls.getD k 0)) := by intro y hy; subst hy; rfl
          generalize ls.getD k 0 = z at *
          clear C1 C2 C3 HN HS HZ HF HO0
          have cls : (97 ≤ z ∧ z ≤ 122) ∨ (48 ≤ z ∧ z ≤ 57) ∨ (z = 95) ∨ (z < 48) ∨ (57 < z ∧ z < 97 ∧ z ≠ 95) ∨ (122 < z) := by omega
          cases hB : okN ls k with
          | false =>
            rcases cls with ⟨d1, d2⟩ | ⟨d1, d2⟩ | d1 | d1 | ⟨d1, d2, d3⟩ | d1
            · have i1 : isLet z = true := by simp [isLet, d1, d2]
              by_cases k0 : k = 0
              · subst k0
                replace x0 : ∀ W, (Instr.index 9 (.string s) (.int .i64 0)).run Tryz.prog W = .ok (.int .u8 z) W := x0
                have HK := HKF _ rfl
                rw [hB] at HK
                simp [nmP, i1] at HK
                have HKH := hideR HK
                clear HK HKF
              
                go_wp2_with fail
                go_roundw
                case rel => exact ⟨1, by omega, by (first | rw [unhideR HKH] | (show _ = Value.bool (okN ls (0 + 1)); rw [unhideR HKH])); try (first | rfl | (congr 1; rw [Bool.eq_iff_iff]; simp; omega) | (simp; omega) | (simp; done)), by go_num, by trivial⟩
                case measure => simp [intOf]; omega
              · have k1 : (0 : Int) < (k : Int) := by omega
                have HK := HKF _ rfl
                rw [hB] at HK
                simp [nmP, i1, show 0 < k by omega] at HK
                have HKH := hideR HK
                clear HK HKF
              
                go_wp2_with fail
                go_roundw
                case rel => exact ⟨k + 1, by omega, by rw [unhideR HKH]; try (first | rfl | (congr 1; rw [Bool.eq_iff_iff]; simp; omega) | (simp; omega) | (simp; done)), by go_num, by trivial⟩
                case measure => simp [intOf]; omega
            · have i1 : isLet z = false := by simp [isLet]; omega
              have i2 : isDig z = true := by simp [isDig, d1, d2]
              have d4 : z < 97 := by omega
              by_cases k0 : k = 0
              · subst k0
                replace x0 : ∀ W, (Instr.index 9 (.string s) (.int .i64 0)).run Tryz.prog W = .ok (.int .u8 z) W := x0
                have HK := HKF _ rfl
                rw [hB] at HK
                simp [nmP, i1, i2] at HK
                have HKH := hideR HK
                clear HK HKF
              
                go_wp2_with fail
                go_roundw
                case rel => exact ⟨1, by omega, by (first | rw [unhideR HKH] | (show _ = Value.bool (okN ls (0 + 1)); rw [unhideR HKH])); try (first | rfl | (congr 1; rw [Bool.eq_iff_iff]; simp; omega) | (simp; omega) | (simp; done)), by go_num, by trivial⟩
                case measure => simp [intOf]; omega
              · have k1 : (0 : Int) < (k : Int) := by omega
                have HK := HKF _ rfl
                rw [hB] at HK
                simp [nmP, i1, i2, show 0 < k by omega] at HK
                have HKH := hideR HK
                clear HK HKF
              
                go_wp2_with fail
                go_roundw
                case rel => exact ⟨k + 1, by omega, by rw [unhideR HKH]; try (first | rfl | (congr 1; rw [Bool.eq_iff_iff]; simp; omega) | (simp; omega) | (simp; done)), by go_num, by trivial⟩
                case measure => simp [intOf]; omega
            · subst d1
              have i1 : isLet 95 = false := by decide
              have i2 : isDig 95 = false := by decide
              by_cases k0 : k = 0
              · subst k0
                replace x0 : ∀ W, (Instr.index 9 (.string s) (.int .i64 0)).run Tryz.prog W = .ok (.int .u8 95) W := x0
                have HK := HKF _ rfl
                rw [hB] at HK
                simp [nmP, i1, i2] at HK
                have HKH := hideR HK
                clear HK HKF
              
                go_wp2_with fail
                go_roundw
                case rel => exact ⟨1, by omega, by (first | rw [unhideR HKH] | (show _ = Value.bool (okN ls (0 + 1)); rw [unhideR HKH])); try (first | rfl | (congr 1; rw [Bool.eq_iff_iff]; simp; omega) | (simp; omega) | (simp; done)), by go_num, by trivial⟩
                case measure => simp [intOf]; omega
              · have k1 : (0 : Int) < (k : Int) := by omega
                have HK := HKF _ rfl
                rw [hB] at HK
                simp [nmP, i1, i2, show 0 < k by omega] at HK
                have HKH := hideR HK
                clear HK HKF
              
                go_wp2_with fail
                go_roundw
                case rel => exact ⟨k + 1, by omega, by rw [unhideR HKH]; try (first | rfl | (congr 1; rw [Bool.eq_iff_iff]; simp; omega) | (simp; omega) | (simp; done)), by go_num, by trivial⟩
                case measure => simp [intOf]; omega
            · have i1 : isLet z = false := by simp [isLet]; omega
              have i2 : isDig z = false := by simp [isDig]; omega
              have i3 : ¬ z = 95 := by omega
              have i4 : (z == 95) = false := beq_eq_false_iff_ne.2 i3
              have d4 : z < 97 := by omega
              by_cases k0 : k = 0
              · subst k0
                replace x0 : ∀ W, (Instr.index 9 (.string s) (.int .i64 0)).run Tryz.prog W = .ok (.int .u8 z) W := x0
                have HK := HKF _ rfl
                rw [hB] at HK
                simp [nmP, i1, i2] at HK
                have HKH := hideR HK
                clear HK HKF
              
                go_wp2_with fail
                go_roundw
                case rel => exact ⟨1, by omega, by (first | rw [unhideR HKH] | (show _ = Value.bool (okN ls (0 + 1)); rw [unhideR HKH])); try (first | rfl | (congr 1; rw [Bool.eq_iff_iff]; simp; omega) | (simp; omega) | (simp; done)), by go_num, by trivial⟩
                case measure => simp [intOf]; omega
              · have k1 : (0 : Int) < (k : Int) := by omega
                have HK := HKF _ rfl
                rw [hB] at HK
                simp [nmP, i1, i2, show 0 < k by omega] at HK
                have HKH := hideR HK
                clear HK HKF
              
                go_wp2_with fail
                go_roundw
                case rel => exact ⟨k + 1, by omega, by rw [unhideR HKH]; try (first | rfl | (congr 1; rw [Bool.eq_iff_iff]; simp; omega) | (simp; omega) | (simp; done)), by go_num, by trivial⟩
                case measure => simp [intOf]; omega
            · have i1 : isLet z = false := by simp [isLet]; omega
              have i2 : isDig z = false := by simp [isDig]; omega
              have i4 : (z == 95) = false := beq_eq_false_iff_ne.2 d3
              have d4 : 48 ≤ z := by omega
              by_cases k0 : k = 0
              · subst k0
                replace x0 : ∀ W, (Instr.index 9 (.string s) (.int .i64 0)).run Tryz.prog W = .ok (.int .u8 z) W := x0
                have HK := HKF _ rfl
                rw [hB] at HK
                simp [nmP, i1, i2] at HK
                have HKH := hideR HK
                clear HK HKF
              
                go_wp2_with fail
                go_roundw
                case rel => exact ⟨1, by omega, by (first | rw [unhideR HKH] | (show _ = Value.bool (okN ls (0 + 1)); rw [unhideR HKH])); try (first | rfl | (congr 1; rw [Bool.eq_iff_iff]; simp; omega) | (simp; omega) | (simp; done)), by go_num, by trivial⟩
                case measure => simp [intOf]; omega
              · have k1 : (0 : Int) < (k : Int) := by omega
                have HK := HKF _ rfl
                rw [hB] at HK
                simp [nmP, i1, i2, show 0 < k by omega] at HK
                have HKH := hideR HK
                clear HK HKF
              
                go_wp2_with fail
                go_roundw
                case rel => exact ⟨k + 1, by omega, by rw [unhideR HKH]; try (first | rfl | (congr 1; rw [Bool.eq_iff_iff]; simp; omega) | (simp; omega) | (simp; done)), by go_num, by trivial⟩
                case measure => simp [intOf]; omega
            · have i1 : isLet z = false := by simp [isLet]; omega
              have i2 : isDig z = false := by simp [isDig]; omega
              have i3 : ¬ z = 95 := by omega
              have i4 : (z == 95) = false := beq_eq_false_iff_ne.2 i3
              have d4 : 48 ≤ z := by omega
              have d5 : 57 < z := by omega
              have d6 : 97 ≤ z := by omega
              by_cases k0 : k = 0
              · subst k0
                replace x0 : ∀ W, (Instr.index 9 (.string s) (.int .i64 0)).run Tryz.prog W = .ok (.int .u8 z) W := x0
                have HK := HKF _ rfl
                rw [hB] at HK
                simp [nmP, i1, i2] at HK
                have HKH := hideR HK
                clear HK HKF
              
                go_wp2_with fail
                go_roundw
                case rel => exact ⟨1, by omega, by (first | rw [unhideR HKH] | (show _ = Value.bool (okN ls (0 + 1)); rw [unhideR HKH])); try (first | rfl | (congr 1; rw [Bool.eq_iff_iff]; simp; omega) | (simp; omega) | (simp; done)), by go_num, by trivial⟩
                case measure => simp [intOf]; omega
              · have k1 : (0 : Int) < (k : Int) := by omega
                have HK := HKF _ rfl
                rw [hB] at HK
                simp [nmP, i1, i2, show 0 < k by omega] at HK
                have HKH := hideR HK
                clear HK HKF
              
                go_wp2_with fail
                go_roundw
                case rel => exact ⟨k + 1, by omega, by rw [unhideR HKH]; try (first | rfl | (congr 1; rw [Bool.eq_iff_iff]; simp; omega) | (simp; omega) | (simp; done)), by go_num, by trivial⟩
                case measure => simp [intOf]; omega
          | true =>
            rcases cls with ⟨d1, d2⟩ | ⟨d1, d2⟩ | d1 | d1 | ⟨d1, d2, d3⟩ | d1
            · have i1 : isLet z = true := by simp [isLet, d1, d2]
              by_cases k0 : k = 0
              · subst k0
                replace x0 : ∀ W, (Instr.index 9 (.string s) (.int .i64 0)).run Tryz.prog W = .ok (.int .u8 z) W := x0
                have HK := HKF _ rfl
                rw [hB] at HK
                simp [nmP, i1] at HK
                have HKH := hideR HK
                clear HK HKF
              
                go_wp2_with fail
                go_roundw
                case rel => exact ⟨1, by omega, by (first | rw [unhideR HKH] | (show _ = Value.bool (okN ls (0 + 1)); rw [unhideR HKH])); try (first | rfl | (congr 1; rw [Bool.eq_iff_iff]; simp; omega) | (simp; omega) | (simp; done)), by go_num, by trivial⟩
                case measure => simp [intOf]; omega
              · have k1 : (0 : Int) < (k : Int) := by omega
                have HK := HKF _ rfl
                rw [hB] at HK
                simp [nmP, i1, show 0 < k by omega] at HK
                have HKH := hideR HK
                clear HK HKF
              
                go_wp2_with fail
                go_roundw
                case rel => exact ⟨k + 1, by omega, by rw [unhideR HKH]; try (first | rfl | (congr 1; rw [Bool.eq_iff_iff]; simp; omega) | (simp; omega) | (simp; done)), by go_num, by trivial⟩
                case measure => simp [intOf]; omega
            · have i1 : isLet z = false := by simp [isLet]; omega
              have i2 : isDig z = true := by simp [isDig, d1, d2]
              have d4 : z < 97 := by omega
              by_cases k0 : k = 0
              · subst k0
                replace x0 : ∀ W, (Instr.index 9 (.string s) (.int .i64 0)).run Tryz.prog W = .ok (.int .u8 z) W := x0
                have HK := HKF _ rfl
                rw [hB] at HK
                simp [nmP, i1, i2] at HK
                have HKH := hideR HK
                clear HK HKF
              
                go_wp2_with fail
                go_roundw
                case rel => exact ⟨1, by omega, by (first | rw [unhideR HKH] | (show _ = Value.bool (okN ls (0 + 1)); rw [unhideR HKH])); try (first | rfl | (congr 1; rw [Bool.eq_iff_iff]; simp; omega) | (simp; omega) | (simp; done)), by go_num, by trivial⟩
                case measure => simp [intOf]; omega
              · have k1 : (0 : Int) < (k : Int) := by omega
                have HK := HKF _ rfl
                rw [hB] at HK
                simp [nmP, i1, i2, show 0 < k by omega] at HK
                have HKH := hideR HK
                clear HK HKF
              
                go_wp2_with fail
                go_roundw
                case rel => exact ⟨k + 1, by omega, by rw [unhideR HKH]; try (first | rfl | (congr 1; rw [Bool.eq_iff_iff]; simp; omega) | (simp; omega) | (simp; done)), by go_num, by trivial⟩
                case measure => simp [intOf]; omega
            · subst d1
              have i1 : isLet 95 = false := by decide
              have i2 : isDig 95 = false := by decide
              by_cases k0 : k = 0
              · subst k0
                replace x0 : ∀ W, (Instr.index 9 (.string s) (.int .i64 0)).run Tryz.prog W = .ok (.int .u8 95) W := x0
                have HK := HKF _ rfl
                rw [hB] at HK
                simp [nmP, i1, i2] at HK
                have HKH := hideR HK
                clear HK HKF
              
                go_wp2_with fail
                go_roundw
                case rel => exact ⟨1, by omega, by (first | rw [unhideR HKH] | (show _ = Value.bool (okN ls (0 + 1)); rw [unhideR HKH])); try (first | rfl | (congr 1; rw [Bool.eq_iff_iff]; simp; omega) | (simp; omega) | (simp; done)), by go_num, by trivial⟩
                case measure => simp [intOf]; omega
              · have k1 : (0 : Int) < (k : Int) := by omega
                have HK := HKF _ rfl
                rw [hB] at HK
                simp [nmP, i1, i2, show 0 < k by omega] at HK
                have HKH := hideR HK
                clear HK HKF
              
                go_wp2_with fail
                go_roundw
                case rel => exact ⟨k + 1, by omega, by rw [unhideR HKH]; try (first | rfl | (congr 1; rw [Bool.eq_iff_iff]; simp; omega) | (simp; omega) | (simp; done)), by go_num, by trivial⟩
                case measure => simp [intOf]; omega
            · have i1 : isLet z = false := by simp [isLet]; omega
              have i2 : isDig z = false := by simp [isDig]; omega
              have i3 : ¬ z = 95 := by omega
              have i4 : (z == 95) = false := beq_eq_false_iff_ne.2 i3
              have d4 : z < 97 := by omega
              by_cases k0 : k = 0
              · subst k0
                replace x0 : ∀ W, (Instr.index 9 (.string s) (.int .i64 0)).run Tryz.prog W = .ok (.int .u8 z) W := x0
                have HK := HKF _ rfl
                rw [hB] at HK
                simp [nmP, i1, i2] at HK
                have HKH := hideR HK
                clear HK HKF
              
                go_wp2_with fail
                go_roundw
                case rel => exact ⟨1, by omega, by (first | rw [unhideR HKH] | (show _ = Value.bool (okN ls (0 + 1)); rw [unhideR HKH])); try (first | rfl | (congr 1; rw [Bool.eq_iff_iff]; simp; omega) | (simp; omega) | (simp; done)), by go_num, by trivial⟩
                case measure => simp [intOf]; omega
              · have k1 : (0 : Int) < (k : Int) := by omega
                have HK := HKF _ rfl
                rw [hB] at HK
                simp [nmP, i1, i2, show 0 < k by omega] at HK
                have HKH := hideR HK
                clear HK HKF
              
                go_wp2_with fail
                go_roundw
                case rel => exact ⟨k + 1, by omega, by rw [unhideR HKH]; try (first | rfl | (congr 1; rw [Bool.eq_iff_iff]; simp; omega) | (simp; omega) | (simp; done)), by go_num, by trivial⟩
                case measure => simp [intOf]; omega
            · have i1 : isLet z = false := by simp [isLet]; omega
              have i2 : isDig z = false := by simp [isDig]; omega
              have i4 : (z == 95) = false := beq_eq_false_iff_ne.2 d3
              have d4 : 48 ≤ z := by omega
              by_cases k0 : k = 0
              · subst k0
                replace x0 : ∀ W, (Instr.index 9 (.string s) (.int .i64 0)).run Tryz.prog W = .ok (.int .u8 z) W := x0
                have HK := HKF _ rfl
                rw [hB] at HK
                simp [nmP, i1, i2] at HK
                have HKH := hideR HK
                clear HK HKF
              
                go_wp2_with fail
                go_roundw
                case rel => exact ⟨1, by omega, by (first | rw [unhideR HKH] | (show _ = Value.bool (okN ls (0 + 1)); rw [unhideR HKH])); try (first | rfl | (congr 1; rw [Bool.eq_iff_iff]; simp; omega) | (simp; omega) | (simp; done)), by go_num, by trivial⟩
                case measure => simp [intOf]; omega
              · have k1 : (0 : Int) < (k : Int) := by omega
                have HK := HKF _ rfl
                rw [hB] at HK
                simp [nmP, i1, i2, show 0 < k by omega] at HK
                have HKH := hideR HK
                clear HK HKF
              
                go_wp2_with fail
                go_roundw
                case rel => exact ⟨k + 1, by omega, by rw [unhideR HKH]; try (first | rfl | (congr 1; rw [Bool.eq_iff_iff]; simp; omega) | (simp; omega) | (simp; done)), by go_num, by trivial⟩
                case measure => simp [intOf]; omega
            · have i1 : isLet z = false := by simp [isLet]; omega
              have i2 : isDig z = false := by simp [isDig]; omega
              have i3 : ¬ z = 95 := by omega
              have i4 : (z == 95) = false := beq_eq_false_iff_ne.2 i3
              have d4 : 48 ≤ z := by omega
              have d5 : 57 < z := by omega
              have d6 : 97 ≤ z := by omega
              by_cases k0 : k = 0
              · subst k0
                replace x0 : ∀ W, (Instr.index 9 (.string s) (.int .i64 0)).run Tryz.prog W = .ok (.int .u8 z) W := x0
                have HK := HKF _ rfl
                rw [hB] at HK
                simp [nmP, i1, i2] at HK
                have HKH := hideR HK
                clear HK HKF
              
                go_wp2_with fail
                go_roundw
                case rel => exact ⟨1, by omega, by (first | rw [unhideR HKH] | (show _ = Value.bool (okN ls (0 + 1)); rw [unhideR HKH])); try (first | rfl | (congr 1; rw [Bool.eq_iff_iff]; simp; omega) | (simp; omega) | (simp; done)), by go_num, by trivial⟩
                case measure => simp [intOf]; omega
              · have k1 : (0 : Int) < (k : Int) := by omega
                have HK := HKF _ rfl
                rw [hB] at HK
                simp [nmP, i1, i2, show 0 < k by omega] at HK
                have HKH := hideR HK
                clear HK HKF
              
                go_wp2_with fail
                go_roundw
                case rel => exact ⟨k + 1, by omega, by rw [unhideR HKH]; try (first | rfl | (congr 1; rw [Bool.eq_iff_iff]; simp; omega) | (simp; omega) | (simp; done)), by go_num, by trivial⟩
                case measure => simp [intOf]; omega
        · obtain rfl : k = s.size := by omega
          have HB1 : okN ls s.size = (nameB ls && decide (ls.length ≤ 12)) := by rw [unhideR HZ]; exact unhideR HF
          rw [← HB1] at C1
          have HB1H := hideR HB1
          clear HB1 HS HF HO0 HO HZ
          generalize okN ls s.size = B at *
          generalize hM2 : (nameB lu && decide (lu.length ≤ 12)) = M2 at *
          have HM2 := hideR hM2
          clear hM2
          have t9 : ¬ ((s.size : Int) < (s.size : Int)) := by omega
          go_wp2_with fail
          refine (unhideR C1 _).mono ?_
          rintro e w2 ⟨rfl, b2⟩
          go_wp2_with fail
          refine (unhideR C2 _).mono ?_
          rintro e w3 ⟨rfl, b3⟩
          go_wp2_with fail
          refine (unhideR C3 _).mono ?_
          rintro e w4 ⟨ar, b4⟩
          clear C1 C2 C3
          have BB := bthen (bthen (bthen b1 b2) b3) b4
          cases B with
          | false =>
            rcases ar with ⟨pa, er, ea, rfl⟩ | ⟨ts, v, ea, rfl, tk⟩
            · clear ea HN HB1H HM2
              go_wp2_with fail
              go_ret
              exact ⟨retB (by first | rfl | (simp; done) | (simp; omega)), BB⟩
            · clear ea HN HB1H HM2 tk
              go_wp2_with fail
              go_ret
              exact ⟨retB (by first | rfl | (simp; done) | (simp; omega)), BB⟩
          | true =>
            cases M2 with
            | false =>
              rcases ar with ⟨pa, er, ea, rfl⟩ | ⟨ts, v, ea, rfl, tk⟩
              · clear ea HN HB1H HM2
                go_wp2_with fail
                go_ret
                exact ⟨retB (by first | rfl | (simp; done) | (simp; omega)), BB⟩
              · clear ea HN HB1H HM2 tk
                go_wp2_with fail
                go_ret
                exact ⟨retB (by first | rfl | (simp; done) | (simp; omega)), BB⟩
            | true =>
              have n1 : nameB ls = true := by have := (unhideR HB1H).symm; simp only [Bool.and_eq_true] at this; exact this.1
              have n2 : nameB lu = true := by have := unhideR HM2; simp only [Bool.and_eq_true] at this; exact this.1
              have na := unhideR HN n1 n2
              by_cases c12 : s.size + u.size ≤ 12
              · rw [if_pos c12] at na
                have c13 : (s.size : Int) + (u.size : Int) ≤ 12 := by omega
                rcases ar with ⟨pa, er, ea, rfl⟩ | ⟨ts, v, ea, rfl, tk⟩
                · rw [na] at ea; cases ea
                · have hts : ts = [((0, ls ++ lu, []), 0)] := by rw [na] at ea; injection ea with ea; exact ea.symm
                  obtain ⟨cs, ho, -⟩ := tk
                  obtain ⟨p7, c7, e7⟩ := own_form ho
                  rw [hts] at e7
                  simp only [List.length_singleton] at e7
                  clear ea HN HB1H HM2 ho na n1 n2 hts
                  subst e7
                  go_wp2_with fail
                  go_ret
                  exact ⟨retB (by first | rfl | (simp; done) | (simp; omega)), BB⟩
              · rw [if_neg c12] at na
                have c13 : (12 : Int) < (s.size : Int) + (u.size : Int) := by omega
                rcases ar with ⟨pa, er, ea, rfl⟩ | ⟨ts, v, ea, rfl, tk⟩
                · have hp : pa = 0 ∧ er = 2 := by rw [na] at ea; injection ea with ea; injection ea with e1 e2; exact ⟨e1.symm, e2.symm⟩
                  obtain ⟨rfl, rfl⟩ := hp
                  clear ea HN HB1H HM2 na n1 n2
                  go_wp2_with fail
                  go_ret
                  exact ⟨retB (by first | rfl | (simp; done) | (simp; omega)), BB⟩
                · rw [na] at ea; cases ea
    · have HO0 : Hid (okN ls 0 = false) := by show _ = _; rw [unhideR HO]; simp; omega
      have c1 : 1 ≤ (s.size : Int) := by omega
      have c2 : 12 < (s.size : Int) := by omega
      go_enter Tryz.func8, Tryz.ntmps8
      go_wp2_with fail
      refine (unhideR CU).mono ?_
      rintro e w1 ⟨rfl, b1⟩
      clear CU
      go_wp2_with fail
      go_loopw [6, 7] (fun v j wr => ∃ k : Nat, k ≤ s.size ∧ v = .bool (okN ls k) ∧ j = .int .i64 (k : Int) ∧ wr = w1) (fun _ j _ => s.size - (intOf j).toNat)
      case atStart => exact ⟨0, Nat.zero_le _, by rw [unhideR HO0]; try (first | rfl | (simp; omega)), rfl, by trivial⟩
      case round =>
        obtain ⟨k, hk, rfl, rfl, hww⟩ := hrel
        obtain rfl : wr = w1 := hww
        by_cases hlt : k < s.size
        · have x0 := (unhideR HS).ix (k := k) (by rw [← unhideR HZ]; exact hlt)
          obtain ⟨z0, z1⟩ := (unhideR HS).byte k
          have HKF : ∀ y, y = okN ls k → okN ls (k + 1) = (y && nmP k (ls.getD k 0)) := by intro y hy; subst hy; rfl
          generalize ls.getD k 0 = z at *
          clear C1 C2 C3 HN HS HZ HF HO0
          have cls : (97 ≤ z ∧ z ≤ 122) ∨ (48 ≤ z ∧ z ≤ 57) ∨ (z = 95) ∨ (z < 48) ∨ (57 < z ∧ z < 97 ∧ z ≠ 95) ∨ (122 < z) := by omega
          cases hB : okN ls k with
          | false =>
            rcases cls with ⟨d1, d2⟩ | ⟨d1, d2⟩ | d1 | d1 | ⟨d1, d2, d3⟩ | d1
            · have i1 : isLet z = true := by simp [isLet, d1, d2]
              by_cases k0 : k = 0
              · subst k0
                replace x0 : ∀ W, (Instr.index 9 (.string s) (.int .i64 0)).run Tryz.prog W = .ok (.int .u8 z) W := x0
                have HK := HKF _ rfl
                rw [hB] at HK
                simp [nmP, i1] at HK
                have HKH := hideR HK
                clear HK HKF
              
                go_wp2_with fail
                go_roundw
                case rel => exact ⟨1, by omega, by (first | rw [unhideR HKH] | (show _ = Value.bool (okN ls (0 + 1)); rw [unhideR HKH])); try (first | rfl | (congr 1; rw [Bool.eq_iff_iff]; simp; omega) | (simp; omega) | (simp; done)), by go_num, by trivial⟩
                case measure => simp [intOf]; omega
              · have k1 : (0 : Int) < (k : Int) := by omega
                have HK := HKF _ rfl
                rw [hB] at HK
                simp [nmP, i1, show 0 < k by omega] at HK
                have HKH := hideR HK
                clear HK HKF
              
                go_wp2_with fail
                go_roundw
                case rel => exact ⟨k + 1, by omega, by rw [unhideR HKH]; try (first | rfl | (congr 1; rw [Bool.eq_iff_iff]; simp; omega) | (simp; omega) | (simp; done)), by go_num, by trivial⟩
                case measure => simp [intOf]; omega
            · have i1 : isLet z = false := by simp [isLet]; omega
              have i2 : isDig z = true := by simp [isDig, d1, d2]
              have d4 : z < 97 := by omega
              by_cases k0 : k = 0
              · subst k0
                replace x0 : ∀ W, (Instr.index 9 (.string s) (.int .i64 0)).run Tryz.prog W = .ok (.int .u8 z) W := x0
                have HK := HKF _ rfl
                rw [hB] at HK
                simp [nmP, i1, i2] at HK
                have HKH := hideR HK
                clear HK HKF
              
                go_wp2_with fail
                go_roundw
                case rel => exact ⟨1, by omega, by (first | rw [unhideR HKH] | (show _ = Value.bool (okN ls (0 + 1)); rw [unhideR HKH])); try (first | rfl | (congr 1; rw [Bool.eq_iff_iff]; simp; omega) | (simp; omega) | (simp; done)), by go_num, by trivial⟩
                case measure => simp [intOf]; omega
              · have k1 : (0 : Int) < (k : Int) := by omega
                have HK := HKF _ rfl
                rw [hB] at HK
                simp [nmP, i1, i2, show 0 < k by omega] at HK
                have HKH := hideR HK
                clear HK HKF
              
                go_wp2_with fail
                go_roundw
                case rel => exact ⟨k + 1, by omega, by rw [unhideR HKH]; try (first | rfl | (congr 1; rw [Bool.eq_iff_iff]; simp; omega) | (simp; omega) | (simp; done)), by go_num, by trivial⟩
                case measure => simp [intOf]; omega
            · subst d1
              have i1 : isLet 95 = false := by decide
              have i2 : isDig 95 = false := by decide
              by_cases k0 : k = 0
              · subst k0
                replace x0 : ∀ W, (Instr.index 9 (.string s) (.int .i64 0)).run Tryz.prog W = .ok (.int .u8 95) W := x0
                have HK := HKF _ rfl
                rw [hB] at HK
                simp [nmP, i1, i2] at HK
                have HKH := hideR HK
                clear HK HKF
              
                go_wp2_with fail
                go_roundw
                case rel => exact ⟨1, by omega, by (first | rw [unhideR HKH] | (show _ = Value.bool (okN ls (0 + 1)); rw [unhideR HKH])); try (first | rfl | (congr 1; rw [Bool.eq_iff_iff]; simp; omega) | (simp; omega) | (simp; done)), by go_num, by trivial⟩
                case measure => simp [intOf]; omega
              · have k1 : (0 : Int) < (k : Int) := by omega
                have HK := HKF _ rfl
                rw [hB] at HK
                simp [nmP, i1, i2, show 0 < k by omega] at HK
                have HKH := hideR HK
                clear HK HKF
              
                go_wp2_with fail
                go_roundw
                case rel => exact ⟨k + 1, by omega, by rw [unhideR HKH]; try (first | rfl | (congr 1; rw [Bool.eq_iff_iff]; simp; omega) | (simp; omega) | (simp; done)), by go_num, by trivial⟩
                case measure => simp [intOf]; omega
            · have i1 : isLet z = false := by simp [isLet]; omega
              have i2 : isDig z = false := by simp [isDig]; omega
              have i3 : ¬ z = 95 := by omega
              have i4 : (z == 95) = false := beq_eq_false_iff_ne.2 i3
              have d4 : z < 97 := by omega
              by_cases k0 : k = 0
              · subst k0
                replace x0 : ∀ W, (Instr.index 9 (.string s) (.int .i64 0)).run Tryz.prog W = .ok (.int .u8 z) W := x0
                have HK := HKF _ rfl
                rw [hB] at HK
                simp [nmP, i1, i2] at HK
                have HKH := hideR HK
                clear HK HKF
              
                go_wp2_with fail
                go_roundw
                case rel => exact ⟨1, by omega, by (first | rw [unhideR HKH] | (show _ = Value.bool (okN ls (0 + 1)); rw [unhideR HKH])); try (first | rfl | (congr 1; rw [Bool.eq_iff_iff]; simp; omega) | (simp; omega) | (simp; done)), by go_num, by trivial⟩
                case measure => simp [intOf]; omega
              · have k1 : (0 : Int) < (k : Int) := by omega
                have HK := HKF _ rfl
                rw [hB] at HK
                simp [nmP, i1, i2, show 0 < k by omega] at HK
                have HKH := hideR HK
                clear HK HKF
              
                go_wp2_with fail
                go_roundw
                case rel => exact ⟨k + 1, by omega, by rw [unhideR HKH]; try (first | rfl | (congr 1; rw [Bool.eq_iff_iff]; simp; omega) | (simp; omega) | (simp; done)), by go_num, by trivial⟩
                case measure => simp [intOf]; omega
            · have i1 : isLet z = false := by simp [isLet]; omega
              have i2 : isDig z = false := by simp [isDig]; omega
              have i4 : (z == 95) = false := beq_eq_false_iff_ne.2 d3
              have d4 : 48 ≤ z := by omega
              by_cases k0 : k = 0
              · subst k0
                replace x0 : ∀ W, (Instr.index 9 (.string s) (.int .i64 0)).run Tryz.prog W = .ok (.int .u8 z) W := x0
                have HK := HKF _ rfl
                rw [hB] at HK
                simp [nmP, i1, i2] at HK
                have HKH := hideR HK
                clear HK HKF
              
                go_wp2_with fail
                go_roundw
                case rel => exact ⟨1, by omega, by (first | rw [unhideR HKH] | (show _ = Value.bool (okN ls (0 + 1)); rw [unhideR HKH])); try (first | rfl | (congr 1; rw [Bool.eq_iff_iff]; simp; omega) | (simp; omega) | (simp; done)), by go_num, by trivial⟩
                case measure => simp [intOf]; omega
              · have k1 : (0 : Int) < (k : Int) := by omega
                have HK := HKF _ rfl
                rw [hB] at HK
                simp [nmP, i1, i2, show 0 < k by omega] at HK
                have HKH := hideR HK
                clear HK HKF
              
                go_wp2_with fail
                go_roundw
                case rel => exact ⟨k + 1, by omega, by rw [unhideR HKH]; try (first | rfl | (congr 1; rw [Bool.eq_iff_iff]; simp; omega) | (simp; omega) | (simp; done)), by go_num, by trivial⟩
                case measure => simp [intOf]; omega
            · have i1 : isLet z = false := by simp [isLet]; omega
              have i2 : isDig z = false := by simp [isDig]; omega
              have i3 : ¬ z = 95 := by omega
              have i4 : (z == 95) = false := beq_eq_false_iff_ne.2 i3
              have d4 : 48 ≤ z := by omega
              have d5 : 57 < z := by omega
              have d6 : 97 ≤ z := by omega
              by_cases k0 : k = 0
              · subst k0
                replace x0 : ∀ W, (Instr.index 9 (.string s) (.int .i64 0)).run Tryz.prog W = .ok (.int .u8 z) W := x0
                have HK := HKF _ rfl
                rw [hB] at HK
                simp [nmP, i1, i2] at HK
                have HKH := hideR HK
                clear HK HKF
              
                go_wp2_with fail
                go_roundw
                case rel => exact ⟨1, by omega, by (first | rw [unhideR HKH] | (show _ = Value.bool (okN ls (0 + 1)); rw [unhideR HKH])); try (first | rfl | (congr 1; rw [Bool.eq_iff_iff]; simp; omega) | (simp; omega) | (simp; done)), by go_num, by trivial⟩
                case measure => simp [intOf]; omega
              · have k1 : (0 : Int) < (k : Int) := by omega
                have HK := HKF _ rfl
                rw [hB] at HK
                simp [nmP, i1, i2, show 0 < k by omega] at HK
                have HKH := hideR HK
                clear HK HKF
              
                go_wp2_with fail
                go_roundw
                case rel => exact ⟨k + 1, by omega, by rw [unhideR HKH]; try (first | rfl | (congr 1; rw [Bool.eq_iff_iff]; simp; omega) | (simp; omega) | (simp; done)), by go_num, by trivial⟩
                case measure => simp [intOf]; omega
          | true =>
            rcases cls with ⟨d1, d2⟩ | ⟨d1, d2⟩ | d1 | d1 | ⟨d1, d2, d3⟩ | d1
            · have i1 : isLet z = true := by simp [isLet, d1, d2]
              by_cases k0 : k = 0
              · subst k0
                replace x0 : ∀ W, (Instr.index 9 (.string s) (.int .i64 0)).run Tryz.prog W = .ok (.int .u8 z) W := x0
                have HK := HKF _ rfl
                rw [hB] at HK
                simp [nmP, i1] at HK
                have HKH := hideR HK
                clear HK HKF
              
                go_wp2_with fail
                go_roundw
                case rel => exact ⟨1, by omega, by (first | rw [unhideR HKH] | (show _ = Value.bool (okN ls (0 + 1)); rw [unhideR HKH])); try (first | rfl | (congr 1; rw [Bool.eq_iff_iff]; simp; omega) | (simp; omega) | (simp; done)), by go_num, by trivial⟩
                case measure => simp [intOf]; omega
              · have k1 : (0 : Int) < (k : Int) := by omega
                have HK := HKF _ rfl
                rw [hB] at HK
                simp [nmP, i1, show 0 < k by omega] at HK
                have HKH := hideR HK
                clear HK HKF
              
                go_wp2_with fail
                go_roundw
                case rel => exact ⟨k + 1, by omega, by rw [unhideR HKH]; try (first | rfl | (congr 1; rw [Bool.eq_iff_iff]; simp; omega) | (simp; omega) | (simp; done)), by go_num, by trivial⟩
                case measure => simp [intOf]; omega
            · have i1 : isLet z = false := by simp [isLet]; omega
              have i2 : isDig z = true := by simp [isDig, d1, d2]
              have d4 : z < 97 := by omega
              by_cases k0 : k = 0
              · subst k0
                replace x0 : ∀ W, (Instr.index 9 (.string s) (.int .i64 0)).run Tryz.prog W = .ok (.int .u8 z) W := x0
                have HK := HKF _ rfl
                rw [hB] at HK
                simp [nmP, i1, i2] at HK
                have HKH := hideR HK
                clear HK HKF
              
                go_wp2_with fail
                go_roundw
                case rel => exact ⟨1, by omega, by (first | rw [unhideR HKH] | (show _ = Value.bool (okN ls (0 + 1)); rw [unhideR HKH])); try (first | rfl | (congr 1; rw [Bool.eq_iff_iff]; simp; omega) | (simp; omega) | (simp; done)), by go_num, by trivial⟩
                case measure => simp [intOf]; omega
              · have k1 : (0 : Int) < (k : Int) := by omega
                have HK := HKF _ rfl
                rw [hB] at HK
                simp [nmP, i1, i2, show 0 < k by omega] at HK
                have HKH := hideR HK
                clear HK HKF
              
                go_wp2_with fail
                go_roundw
                case rel => exact ⟨k + 1, by omega, by rw [unhideR HKH]; try (first | rfl | (congr 1; rw [Bool.eq_iff_iff]; simp; omega) | (simp; omega) | (simp; done)), by go_num, by trivial⟩
                case measure => simp [intOf]; omega
            · subst d1
              have i1 : isLet 95 = false := by decide
              have i2 : isDig 95 = false := by decide
              by_cases k0 : k = 0
              · subst k0
                replace x0 : ∀ W, (Instr.index 9 (.string s) (.int .i64 0)).run Tryz.prog W = .ok (.int .u8 95) W := x0
                have HK := HKF _ rfl
                rw [hB] at HK
                simp [nmP, i1, i2] at HK
                have HKH := hideR HK
                clear HK HKF
              
                go_wp2_with fail
                go_roundw
                case rel => exact ⟨1, by omega, by (first | rw [unhideR HKH] | (show _ = Value.bool (okN ls (0 + 1)); rw [unhideR HKH])); try (first | rfl | (congr 1; rw [Bool.eq_iff_iff]; simp; omega) | (simp; omega) | (simp; done)), by go_num, by trivial⟩
                case measure => simp [intOf]; omega
              · have k1 : (0 : Int) < (k : Int) := by omega
                have HK := HKF _ rfl
                rw [hB] at HK
                simp [nmP, i1, i2, show 0 < k by omega] at HK
                have HKH := hideR HK
                clear HK HKF
              
                go_wp2_with fail
                go_roundw
                case rel => exact ⟨k + 1, by omega, by rw [unhideR HKH]; try (first | rfl | (congr 1; rw [Bool.eq_iff_iff]; simp; omega) | (simp; omega) | (simp; done)), by go_num, by trivial⟩
                case measure => simp [intOf]; omega
            · have i1 : isLet z = false := by simp [isLet]; omega
              have i2 : isDig z = false := by simp [isDig]; omega
              have i3 : ¬ z = 95 := by omega
              have i4 : (z == 95) = false := beq_eq_false_iff_ne.2 i3
              have d4 : z < 97 := by omega
              by_cases k0 : k = 0
              · subst k0
                replace x0 : ∀ W, (Instr.index 9 (.string s) (.int .i64 0)).run Tryz.prog W = .ok (.int .u8 z) W := x0
                have HK := HKF _ rfl
                rw [hB] at HK
                simp [nmP, i1, i2] at HK
                have HKH := hideR HK
                clear HK HKF
              
                go_wp2_with fail
                go_roundw
                case rel => exact ⟨1, by omega, by (first | rw [unhideR HKH] | (show _ = Value.bool (okN ls (0 + 1)); rw [unhideR HKH])); try (first | rfl | (congr 1; rw [Bool.eq_iff_iff]; simp; omega) | (simp; omega) | (simp; done)), by go_num, by trivial⟩
                case measure => simp [intOf]; omega
              · have k1 : (0 : Int) < (k : Int) := by omega
                have HK := HKF _ rfl
                rw [hB] at HK
                simp [nmP, i1, i2, show 0 < k by omega] at HK
                have HKH := hideR HK
                clear HK HKF
              
                go_wp2_with fail
                go_roundw
                case rel => exact ⟨k + 1, by omega, by rw [unhideR HKH]; try (first | rfl | (congr 1; rw [Bool.eq_iff_iff]; simp; omega) | (simp; omega) | (simp; done)), by go_num, by trivial⟩
                case measure => simp [intOf]; omega
            · have i1 : isLet z = false := by simp [isLet]; omega
              have i2 : isDig z = false := by simp [isDig]; omega
              have i4 : (z == 95) = false := beq_eq_false_iff_ne.2 d3
              have d4 : 48 ≤ z := by omega
              by_cases k0 : k = 0
              · subst k0
                replace x0 : ∀ W, (Instr.index 9 (.string s) (.int .i64 0)).run Tryz.prog W = .ok (.int .u8 z) W := x0
                have HK := HKF _ rfl
                rw [hB] at HK
                simp [nmP, i1, i2] at HK
                have HKH := hideR HK
                clear HK HKF
              
                go_wp2_with fail
                go_roundw
                case rel => exact ⟨1, by omega, by (first | rw [unhideR HKH] | (show _ = Value.bool (okN ls (0 + 1)); rw [unhideR HKH])); try (first | rfl | (congr 1; rw [Bool.eq_iff_iff]; simp; omega) | (simp; omega) | (simp; done)), by go_num, by trivial⟩
                case measure => simp [intOf]; omega
              · have k1 : (0 : Int) < (k : Int) := by omega
                have HK := HKF _ rfl
                rw [hB] at HK
                simp [nmP, i1, i2, show 0 < k by omega] at HK
                have HKH := hideR HK
                clear HK HKF
              
                go_wp2_with fail
                go_roundw
                case rel => exact ⟨k + 1, by omega, by rw [unhideR HKH]; try (first | rfl | (congr 1; rw [Bool.eq_iff_iff]; simp; omega) | (simp; omega) | (simp; done)), by go_num, by trivial⟩
                case measure => simp [intOf]; omega
            · have i1 : isLet z = false := by simp [isLet]; omega
              have i2 : isDig z = false := by simp [isDig]; omega
              have i3 : ¬ z = 95 := by omega
              have i4 : (z == 95) = false := beq_eq_false_iff_ne.2 i3
              have d4 : 48 ≤ z := by omega
              have d5 : 57 < z := by omega
              have d6 : 97 ≤ z := by omega
              by_cases k0 : k = 0
              · subst k0
                replace x0 : ∀ W, (Instr.index 9 (.string s) (.int .i64 0)).run Tryz.prog W = .ok (.int .u8 z) W := x0
                have HK := HKF _ rfl
                rw [hB] at HK
                simp [nmP, i1, i2] at HK
                have HKH := hideR HK
                clear HK HKF
              
                go_wp2_with fail
                go_roundw
                case rel => exact ⟨1, by omega, by (first | rw [unhideR HKH] | (show _ = Value.bool (okN ls (0 + 1)); rw [unhideR HKH])); try (first | rfl | (congr 1; rw [Bool.eq_iff_iff]; simp; omega) | (simp; omega) | (simp; done)), by go_num, by trivial⟩
                case measure => simp [intOf]; omega
              · have k1 : (0 : Int) < (k : Int) := by omega
                have HK := HKF _ rfl
                rw [hB] at HK
                simp [nmP, i1, i2, show 0 < k by omega] at HK
                have HKH := hideR HK
                clear HK HKF
              
                go_wp2_with fail
                go_roundw
                case rel => exact ⟨k + 1, by omega, by rw [unhideR HKH]; try (first | rfl | (congr 1; rw [Bool.eq_iff_iff]; simp; omega) | (simp; omega) | (simp; done)), by go_num, by trivial⟩
                case measure => simp [intOf]; omega
        · obtain rfl : k = s.size := by omega
          have HB1 : okN ls s.size = (nameB ls && decide (ls.length ≤ 12)) := by rw [unhideR HZ]; exact unhideR HF
          rw [← HB1] at C1
          have HB1H := hideR HB1
          clear HB1 HS HF HO0 HO HZ
          generalize okN ls s.size = B at *
          generalize hM2 : (nameB lu && decide (lu.length ≤ 12)) = M2 at *
          have HM2 := hideR hM2
          clear hM2
          have t9 : ¬ ((s.size : Int) < (s.size : Int)) := by omega
          go_wp2_with fail
          refine (unhideR C1 _).mono ?_
          rintro e w2 ⟨rfl, b2⟩
          go_wp2_with fail
          refine (unhideR C2 _).mono ?_
          rintro e w3 ⟨rfl, b3⟩
          go_wp2_with fail
          refine (unhideR C3 _).mono ?_
          rintro e w4 ⟨ar, b4⟩
          clear C1 C2 C3
          have BB := bthen (bthen (bthen b1 b2) b3) b4
          cases B with
          | false =>
            rcases ar with ⟨pa, er, ea, rfl⟩ | ⟨ts, v, ea, rfl, tk⟩
            · clear ea HN HB1H HM2
              go_wp2_with fail
              go_ret
              exact ⟨retB (by first | rfl | (simp; done) | (simp; omega)), BB⟩
            · clear ea HN HB1H HM2 tk
              go_wp2_with fail
              go_ret
              exact ⟨retB (by first | rfl | (simp; done) | (simp; omega)), BB⟩
          | true =>
            cases M2 with
            | false =>
              rcases ar with ⟨pa, er, ea, rfl⟩ | ⟨ts, v, ea, rfl, tk⟩
              · clear ea HN HB1H HM2
                go_wp2_with fail
                go_ret
                exact ⟨retB (by first | rfl | (simp; done) | (simp; omega)), BB⟩
              · clear ea HN HB1H HM2 tk
                go_wp2_with fail
                go_ret
                exact ⟨retB (by first | rfl | (simp; done) | (simp; omega)), BB⟩
            | true =>
              have n1 : nameB ls = true := by have := (unhideR HB1H).symm; simp only [Bool.and_eq_true] at this; exact this.1
              have n2 : nameB lu = true := by have := unhideR HM2; simp only [Bool.and_eq_true] at this; exact this.1
              have na := unhideR HN n1 n2
              by_cases c12 : s.size + u.size ≤ 12
              · rw [if_pos c12] at na
                have c13 : (s.size : Int) + (u.size : Int) ≤ 12 := by omega
                rcases ar with ⟨pa, er, ea, rfl⟩ | ⟨ts, v, ea, rfl, tk⟩
                · rw [na] at ea; cases ea
                · have hts : ts = [((0, ls ++ lu, []), 0)] := by rw [na] at ea; injection ea with ea; exact ea.symm
                  obtain ⟨cs, ho, -⟩ := tk
                  obtain ⟨p7, c7, e7⟩ := own_form ho
                  rw [hts] at e7
                  simp only [List.length_singleton] at e7
                  clear ea HN HB1H HM2 ho na n1 n2 hts
                  subst e7
                  go_wp2_with fail
                  go_ret
                  exact ⟨retB (by first | rfl | (simp; done) | (simp; omega)), BB⟩
              · rw [if_neg c12] at na
                have c13 : (12 : Int) < (s.size : Int) + (u.size : Int) := by omega
                rcases ar with ⟨pa, er, ea, rfl⟩ | ⟨ts, v, ea, rfl, tk⟩
                · have hp : pa = 0 ∧ er = 2 := by rw [na] at ea; injection ea with ea; injection ea with e1 e2; exact ⟨e1.symm, e2.symm⟩
                  obtain ⟨rfl, rfl⟩ := hp
                  clear ea HN HB1H HM2 na n1 n2
                  go_wp2_with fail
                  go_ret
                  exact ⟨retB (by first | rfl | (simp; done) | (simp; omega)), BB⟩
                · rw [na] at ea; cases ea
end Go.Proofs.YtlofickahemlfaaGreatDoor.T
