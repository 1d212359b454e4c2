/- The walk of LinesLine. -/
import Derived.Test.YtjjfeeclpidblaaLnAwake
namespace Go.Proofs.Ytjjfeeclpidblaa.Ln
open Go.RowKit
set_option linter.unusedVariables false
set_option linter.unusedSimpArgs false

set_option maxRecDepth 20000 in
set_option maxHeartbeats 2000000 in
theorem linesLine_walk (a : Option Addr) (len cap : Nat) (l : List Int) (i : Int) (w : World) (h : Bs w a len cap l) :
    Calls Try.prog 7 #[.slice a len cap, .int .i64 i] w fun e w' => e = .returned (.bool true) ∧ Below w.heap.size w w' := by
  have hl := h.hlen
  have hmax := h.hmax
  have hcap := h.hcap
  unfold maxLen at hmax
  have C0 := hideR (awake4_any w)
  by_cases o1 : (300 : Int) < (len : Int)
  · go_enter Try.func7, Try.ntmps7
    go_wp2_with fail
    refine (unhideR C0).mono ?_
    rintro e w1 ⟨rfl, B1⟩
    clear C0
    go_wp2_with fail
    go_ret
    exact ⟨rfl, B1⟩
  · skip
    by_cases o2 : i < 0
    · go_enter Try.func7, Try.ntmps7
      go_wp2_with fail
      refine (unhideR C0).mono ?_
      rintro e w1 ⟨rfl, B1⟩
      clear C0
      go_wp2_with fail
      go_ret
      exact ⟨rfl, B1⟩
    · skip
      by_cases o3 : (len : Int) < i
      · go_enter Try.func7, Try.ntmps7
        go_wp2_with fail
        refine (unhideR C0).mono ?_
        rintro e w1 ⟨rfl, B1⟩
        clear C0
        go_wp2_with fail
        go_ret
        exact ⟨rfl, B1⟩
      · skip
        obtain ⟨n, rfl⟩ := Int.eq_ofNat_of_zero_le (show 0 ≤ i by omega)
        have hn : n ≤ len := by omega
        have hs : len ≤ 300 := by omega
        clear o1 o2 o3
        have hle := begin_le l n
        have his := begin_is l n
        have hno := hideR (begin_no l n)
        have hid := begin_idem l n
        have hln := line_begin l n (by omega)
        have hf1 := first_ge l n
        have hf2 := first_le l n (by omega)
        have hf3 := first_idem l n
        have hll := line_le l n
        have e1 : beginI l (n : Int) = (beginN l n : Int) := by unfold beginI; rw [hl, if_pos (pl_yes (by omega) (by omega))]; rfl
        have e2 : beginI l ((beginN l n : Nat) : Int) = (beginN l n : Int) := by unfold beginI; rw [hl, if_pos (pl_yes (by omega) (by omega))]; simp [hid]
        have e3 : lineI l (n : Int) = (lineN l n : Int) := by unfold lineI; rw [hl, if_pos (pl_yes (by omega) (by omega))]; rfl
        have e4 : lineI l ((beginN l n : Nat) : Int) = (lineN l n : Int) := by unfold lineI; rw [hl, if_pos (pl_yes (by omega) (by omega))]; simp [hln]
        have e5 : firstI l (n : Int) = (firstN l n : Int) := by unfold firstI; rw [hl, if_pos (pl_yes (by omega) (by omega))]; rfl
        have e6 : firstI l ((firstN l n : Nat) : Int) = (firstN l n : Int) := by unfold firstI; rw [hl, if_pos (pl_yes (by omega) (by omega))]; simp [hf3]
        have C1 := hideR (fun W (h : Bs W a len cap l) => begin_any a len cap l W h n)
        have C2 := hideR (fun W (h : Bs W a len cap l) => begin_any a len cap l W h (beginN l n : Nat))
        have C3 := hideR (fun W (h : Bs W a len cap l) => line_any a len cap l W h (beginN l n : Nat))
        have C4 := hideR (fun W (h : Bs W a len cap l) => line_any a len cap l W h n)
        have C5 := hideR (fun W (h : Bs W a len cap l) => first_any a len cap l W h n)
        have C6 := hideR (fun W (h : Bs W a len cap l) => first_any a len cap l W h (firstN l n : Nat))
        have C7 := hideR (fun (p : Nat) W (h : Bs W a len cap l) => line_any a len cap l W h p)
        rw [e1] at C1
        rw [e2] at C2
        rw [e4] at C3
        rw [e3] at C4
        rw [e5] at C5
        rw [e6] at C6
        have HB := hideR h
        by_cases h0 : beginN l n = 0
        · have hl0 : lineN l n = 0 := by rw [← hln, h0]; exact line_zero l
          rw [h0] at C1 C2 C3 hno hle
          rw [hl0] at C3 C4
          clear h e1 e2 e3 e4 e5 e6 his hid hln hf3 hll hl0 h0 C7
          generalize firstN l n = f at *
          go_enter Try.func7, Try.ntmps7
          go_wp2_with fail
          refine (unhideR C0).mono ?_
          rintro e w1 ⟨rfl, B1⟩
          clear C0
          have s1 := B1.size
          have F1 := hideR ((unhideR HB).later B1 (Nat.le_refl _))
          clear HB
          go_wp2_with fail
          refine (unhideR C1 _ (unhideR F1)).mono ?_
          rintro e w2 ⟨rfl, hb2⟩
          have B2 : Below w.heap.size w w2 := B1.trans (hb2.mono s1)
          have s2 := B2.size
          have F2 := hideR ((unhideR F1).later hb2 (Nat.le_refl _))
          clear hb2 B1 s1 F1 C1
          go_wp2_with fail
          refine (unhideR C2 _ (unhideR F2)).mono ?_
          rintro e w3 ⟨rfl, hb3⟩
          have B3 : Below w.heap.size w w3 := B2.trans (hb3.mono s2)
          have s3 := B3.size
          have F3 := hideR ((unhideR F2).later hb3 (Nat.le_refl _))
          clear hb3 B2 s2 F2 C2
          go_wp2_with fail
          refine (unhideR C3 _ (unhideR F3)).mono ?_
          rintro e w4 ⟨rfl, hb4⟩
          have B4 : Below w.heap.size w w4 := B3.trans (hb4.mono s3)
          have s4 := B4.size
          have F4 := hideR ((unhideR F3).later hb4 (Nat.le_refl _))
          clear hb4 B3 s3 F3 C3
          go_wp2_with fail
          refine (unhideR C4 _ (unhideR F4)).mono ?_
          rintro e w5 ⟨rfl, hb5⟩
          have B5 : Below w.heap.size w w5 := B4.trans (hb5.mono s4)
          have s5 := B5.size
          have F5 := hideR ((unhideR F4).later hb5 (Nat.le_refl _))
          clear hb5 B4 s4 F4
          go_wp2_with fail
          go_loopw [7] (fun j wr => ∃ k : Nat, 0 ≤ k ∧ k ≤ n ∧ j = .int .i64 k ∧ wr = w5) (fun j _ => n - (intOf j).toNat)
          case atStart => exact ⟨0, Nat.le_refl _, hle, rfl, by trivial⟩
          case round =>
            obtain ⟨k, hk0, hk, rfl, hw⟩ := hrel
            obtain rfl : wr = w5 := hw
            by_cases hlt : k < n
            · obtain ⟨b, off, rfl, hb⟩ := (unhideR F5).open (by omega)
              obtain ⟨z, hz, z0, z1, cz⟩ := bat hb k (by omega)
              have ez : (z == 10) = false := by rw [beq_eq_false_iff_ne, ← hz]; exact unhideR hno k hk0 hlt
              clear hb hz C4 C5 C6
              go_wp2_with fail
              go_roundw
              case rel => exact ⟨k + 1, by omega, by omega, by go_num, by trivial⟩
              case measure => simp [intOf]; omega
            · skip
              clear hno
              go_wp2_with fail
              refine (unhideR C5 _ (unhideR F5)).mono ?_
              rintro e w6 ⟨rfl, hb6⟩
              have B6 : Below w.heap.size w w6 := B5.trans (hb6.mono s5)
              have s6 := B6.size
              have F6 := hideR ((unhideR F5).later hb6 (Nat.le_refl _))
              clear hb6 B5 s5 F5 C5
              go_wp2_with fail
              refine (unhideR C6 _ (unhideR F6)).mono ?_
              rintro e w7 ⟨rfl, hb7⟩
              have B7 : Below w.heap.size w w7 := B6.trans (hb7.mono s6)
              have s7 := B7.size
              have F7 := hideR ((unhideR F6).later hb7 (Nat.le_refl _))
              clear hb7 B6 s6 F6 C6
              go_wp2_with fail
              refine (unhideR C4 _ (unhideR F7)).mono ?_
              rintro e w8 ⟨rfl, hb8⟩
              have B8 : Below w.heap.size w w8 := B7.trans (hb8.mono s7)
              have s8 := B8.size
              have F8 := hideR ((unhideR F7).later hb8 (Nat.le_refl _))
              clear hb8 B7 s7 F7 C4
              go_wp2_with fail
              go_ret
              exact ⟨rfl, B8⟩
        · obtain ⟨p, hp⟩ : ∃ p, beginN l n = p + 1 := ⟨beginN l n - 1, by omega⟩
          have h10 : l.getD p 0 = 10 := by rcases his with e | e; exact absurd e h0; rw [hp] at e; exact e
          have hlp : lineN l n = lineN l p + 1 := by rw [← hln, hp, line_step l p (by omega), if_pos h10]
          have e7 : lineI l (p : Int) = (lineN l p : Int) := by unfold lineI; rw [hl, if_pos (pl_yes (by omega) (by omega))]; rfl
          have C8 := hideR (fun W h => unhideR C7 p W h)
          rw [e7] at C8
          rw [hp] at C1 C2 C3 hno hle
          rw [hlp] at C3 C4 hll
          have H10 := hideR h10
          clear h e1 e2 e3 e4 e5 e6 e7 his hid hln hf3 hlp h0 C7 hp h10
          generalize firstN l n = f at *
          generalize lineN l p = m at *
          go_enter Try.func7, Try.ntmps7
          go_wp2_with fail
          refine (unhideR C0).mono ?_
          rintro e w1 ⟨rfl, B1⟩
          clear C0
          have s1 := B1.size
          have F1 := hideR ((unhideR HB).later B1 (Nat.le_refl _))
          clear HB
          go_wp2_with fail
          refine (unhideR C1 _ (unhideR F1)).mono ?_
          rintro e w2 ⟨rfl, hb2⟩
          have B2 : Below w.heap.size w w2 := B1.trans (hb2.mono s1)
          have s2 := B2.size
          have F2 := hideR ((unhideR F1).later hb2 (Nat.le_refl _))
          clear hb2 B1 s1 F1 C1
          obtain ⟨b, off, rfl, hbb⟩ := (unhideR F2).open (by omega)
          obtain ⟨z, hz, z0, z1, cz⟩ := bat hbb p (by omega)
          rw [unhideR H10] at hz
          subst hz
          clear hbb H10
          go_wp2_with fail
          refine (unhideR C2 _ (unhideR F2)).mono ?_
          rintro e w3 ⟨rfl, hb3⟩
          have B3 : Below w.heap.size w w3 := B2.trans (hb3.mono s2)
          have s3 := B3.size
          have F3 := hideR ((unhideR F2).later hb3 (Nat.le_refl _))
          clear hb3 B2 s2 F2 C2
          go_wp2_with fail
          refine (unhideR C3 _ (unhideR F3)).mono ?_
          rintro e w4 ⟨rfl, hb4⟩
          have B4 : Below w.heap.size w w4 := B3.trans (hb4.mono s3)
          have s4 := B4.size
          have F4 := hideR ((unhideR F3).later hb4 (Nat.le_refl _))
          clear hb4 B3 s3 F3 C3
          go_wp2_with fail
          refine (unhideR C4 _ (unhideR F4)).mono ?_
          rintro e w5 ⟨rfl, hb5⟩
          have B5 : Below w.heap.size w w5 := B4.trans (hb5.mono s4)
          have s5 := B5.size
          have F5 := hideR ((unhideR F4).later hb5 (Nat.le_refl _))
          clear hb5 B4 s4 F4
          go_wp2_with fail
          go_loopw [7] (fun j wr => ∃ k : Nat, (p + 1) ≤ k ∧ k ≤ n ∧ j = .int .i64 k ∧ wr = w5) (fun j _ => n - (intOf j).toNat)
          case atStart => exact ⟨(p + 1), Nat.le_refl _, hle, by go_num, by trivial⟩
          case round =>
            obtain ⟨k, hk0, hk, rfl, hw⟩ := hrel
            obtain rfl : wr = w5 := hw
            by_cases hlt : k < n
            · obtain ⟨b', off', hbe, hb⟩ := (unhideR F5).open (by omega)
              injection hbe with hbe
              injection hbe with hbe1 hbe2
              subst hbe1; subst hbe2
              obtain ⟨z, hz, z0, z1, cz⟩ := bat hb k (by omega)
              have ez : (z == 10) = false := by rw [beq_eq_false_iff_ne, ← hz]; exact unhideR hno k hk0 hlt
              clear hb hz C4 C5 C6 C8
              go_wp2_with fail
              go_roundw
              case rel => exact ⟨k + 1, by omega, by omega, by go_num, by trivial⟩
              case measure => simp [intOf]; omega
            · skip
              clear hno
              go_wp2_with fail
              refine (unhideR C5 _ (unhideR F5)).mono ?_
              rintro e w6 ⟨rfl, hb6⟩
              have B6 : Below w.heap.size w w6 := B5.trans (hb6.mono s5)
              have s6 := B6.size
              have F6 := hideR ((unhideR F5).later hb6 (Nat.le_refl _))
              clear hb6 B5 s5 F5 C5
              go_wp2_with fail
              refine (unhideR C6 _ (unhideR F6)).mono ?_
              rintro e w7 ⟨rfl, hb7⟩
              have B7 : Below w.heap.size w w7 := B6.trans (hb7.mono s6)
              have s7 := B7.size
              have F7 := hideR ((unhideR F6).later hb7 (Nat.le_refl _))
              clear hb7 B6 s6 F6 C6
              go_wp2_with fail
              refine (unhideR C4 _ (unhideR F7)).mono ?_
              rintro e w8 ⟨rfl, hb8⟩
              have B8 : Below w.heap.size w w8 := B7.trans (hb8.mono s7)
              have s8 := B8.size
              have F8 := hideR ((unhideR F7).later hb8 (Nat.le_refl _))
              clear hb8 B7 s7 F7 C4
              go_wp2_with fail
              refine (unhideR C8 _ (unhideR F8)).mono ?_
              rintro e w9 ⟨rfl, hb9⟩
              have B9 : Below w.heap.size w w9 := B8.trans (hb9.mono s8)
              have s9 := B9.size
              have F9 := hideR ((unhideR F8).later hb9 (Nat.le_refl _))
              clear hb9 B8 s8 F8 C8
              go_wp2_with fail
              go_ret
              exact ⟨rfl, B9⟩

end Go.Proofs.Ytjjfeeclpidblaa.Ln
