/- The contracts of lines.First and lines.Col. -/
import Derived.Test.YtjjfeeclpidblaaLnBegin
namespace Go.Proofs.Ytjjfeeclpidblaa.Ln
open Go.RowKit
set_option linter.unusedVariables false
set_option linter.unusedSimpArgs false

def firstI (l : List Int) (i : Int) : Int := if plB l.length i = true then (firstN l i.toNat : Int) else -1
def colI (l : List Int) (i tab : Int) : Int := if plB l.length i = true ∧ 1 ≤ tab ∧ tab ≤ 16 then (colN l i.toNat tab.toNat : Int) else -1

theorem first_end {l : List Int} {k : Nat} (h : l.length ≤ k) : firstN l k = k := by
  unfold firstN; rw [List.drop_of_length_le h]; rfl
theorem first_no {l : List Int} {k : Nat} (h : k < l.length) (hz : ¬ (l.getD k 0 = 32 ∨ l.getD k 0 = 9 ∨ l.getD k 0 = 13)) : firstN l k = k := by
  unfold firstN
  rw [bat_drop h]
  simp only [blanks]
  rw [if_neg hz]; rfl
theorem first_yes {l : List Int} {k : Nat} (h : k < l.length) (hz : l.getD k 0 = 32 ∨ l.getD k 0 = 9 ∨ l.getD k 0 = 13) : firstN l k = firstN l (k + 1) := by
  unfold firstN
  rw [bat_drop h]
  simp only [blanks]
  rw [if_pos hz]; omega

theorem nx_in {l : List Int} {k : Nat} (h : k < l.length) : nx l (k : Int) = U.nextL (l.drop k) := by
  unfold nx; rw [if_neg (by omega)]; rfl

/-- a unit is a tab just where its first byte is one -/
theorem tab_sc {r : List Int} (hb : U.isBytes r) (hne : r ≠ []) : (U.nextL r).1 = 9 ↔ r.getD 0 0 = 9 := by
  constructor
  · intro h
    rcases U.next_cases hb with ⟨e, _⟩ | ⟨_, e⟩ | ⟨q, hm, e, t, d⟩
    · exact absurd e hne
    · rw [e] at h; simp at h
    · rw [e] at h
      simp only at h
      subst h
      have e9 : U.putL 9 = [9] := by decide
      rw [e9] at t
      cases r with
      | nil => exact absurd rfl hne
      | cons z r => simpa using t
  · intro h
    rw [U.next_ascii hb hne (by omega)]
    exact h
theorem next1_sc {r : List Int} (hb : U.isBytes r) (hne : r ≠ []) (tab c : Nat) : next1 tab c (U.nextL r).1 = next1 tab c (r.getD 0 0) := by
  unfold next1
  by_cases h : r.getD 0 0 = 9
  · rw [if_pos h, if_pos ((tab_sc hb hne).2 h)]
  · rw [if_neg h, if_neg (fun e => h ((tab_sc hb hne).1 e))]

/-- what the column comes to, from a place on -/
def cg (l : List Int) (n tab k c : Nat) : Nat := if k ≤ n then colF tab (n - k) (l.drop k) (n - k) c else c
theorem cg_over {l : List Int} {n tab k c : Nat} (h : n ≤ k) : cg l n tab k c = c := by
  unfold cg
  split
  · rw [show n - k = 0 by omega, colF_zero]
  · rfl
theorem cg_past {l : List Int} {n tab k c r m : Nat} {s : Int} (hk : k < n) (hn : n ≤ l.length) (e : U.nextL (l.drop k) = (s, m)) (h : n < k + m) : cg l n tab k c = cg l n tab (k + m) c := by
  have e2 : cg l n tab (k + m) c = c := cg_over (by omega)
  rw [e2]
  unfold cg
  rw [if_pos (by omega)]
  obtain ⟨p, hp⟩ : ∃ p, n - k = p + 1 := ⟨n - k - 1, by omega⟩
  rw [hp]
  simp only [colF, e]
  rw [if_neg (by omega), if_pos (by omega)]
theorem cg_on {l : List Int} (hb : U.isBytes l) {n tab k c m : Nat} {s : Int} (hk : k < n) (hn : n ≤ l.length) (e : U.nextL (l.drop k) = (s, m)) (hm : 1 ≤ m) (h : k + m ≤ n) : cg l n tab k c = cg l n tab (k + m) (next1 tab c (l.getD k 0)) := by
  unfold cg
  rw [if_pos (by omega), if_pos h]
  obtain ⟨p, hp⟩ : ∃ p, n - k = p + 1 := ⟨n - k - 1, by omega⟩
  rw [hp]
  simp only [colF, e]
  rw [if_neg (by omega), if_neg (by omega), List.drop_drop, ← hp, show n - k - m = n - (k + m) by omega]
  have e0 : (l.drop k).getD 0 0 = l.getD k 0 := by simp [List.getD, List.getElem?_drop]
  rw [e0]
  exact colF_fuel _ _ _ _ _ (U.isBytes_drop hb _) (by rw [List.length_drop]; omega) (by omega) (by omega)

/-- the unit at a place -/
theorem unit_at {l : List Int} (hb : U.isBytes l) {k : Nat} (hk : k < l.length) : ∃ (s : Int) (m : Nat), nx l (k : Int) = (s, m) ∧ U.nextL (l.drop k) = (s, m) ∧ 1 ≤ m ∧ m ≤ 4 ∧ k + m ≤ l.length ∧ ∀ tab c, next1 tab c s = next1 tab c (l.getD k 0) := by
  have hne : l.drop k ≠ [] := by intro e; have := congrArg List.length e; rw [List.length_drop, List.length_nil] at this; omega
  have nb := U.next_bound (U.isBytes_drop hb k) hne
  rw [List.length_drop] at nb
  refine ⟨(U.nextL (l.drop k)).1, (U.nextL (l.drop k)).2, nx_in hk, rfl, by omega, by omega, by omega, fun tab c => ?_⟩
  rw [next1_sc (U.isBytes_drop hb k) hne]
  congr 1
  simp [List.getD, List.getElem?_drop]

set_option maxRecDepth 20000 in
set_option maxHeartbeats 1000000 in
theorem first_any (a : Option Addr) (len cap : Nat) (l : List Int) (w : World) (h : Bs w a len cap l) (i : Int) :
    Calls Try.prog 18 #[.slice a len cap, .int .i64 i] w fun e w' => e = .returned (.int .i64 (firstI l i)) ∧ Below w.heap.size w w' := by
  have hl := h.hlen
  have hmax := h.hmax
  have hcap := h.hcap
  unfold maxLen at hmax
  have C1 := hideR (fun W => isPlace_any a len cap i W)
  have CB := hideR (fun z h1 h2 W => isBlank_any z h1 h2 W)
  by_cases hp : plB len i = true
  · have hp' := hp
    unfold plB at hp'
    simp only [Bool.and_eq_true, decide_eq_true_eq] at hp'
    obtain ⟨n, rfl⟩ := Int.eq_ofNat_of_zero_le hp'.1
    have hn : n ≤ len := by omega
    have fin : firstI l (n : Int) = (firstN l n : Int) := by unfold firstI; rw [hl, if_pos hp]; rfl
    rw [fin]
    rw [hp] at C1
    clear fin hp hp'
    have HB := hideR h
    clear h
    go_enter Try.func18, Try.ntmps18
    go_wp2_with fail
    refine (unhideR C1 _).mono ?_
    rintro e w1 ⟨rfl, hw1⟩
    obtain rfl : w = w1 := hw1.symm
    clear C1 hw1
    go_wp2_with fail
    go_loopw [1] (fun j wr => ∃ k : Nat, k ≤ len ∧ j = .int .i64 k ∧ Hid (firstN l k = firstN l n) ∧ wr = w) (fun j _ => len - (intOf j).toNat)
    case atStart => exact ⟨n, hn, rfl, rfl, rfl⟩
    case round =>
      obtain ⟨k, hk, rfl, hf, hw⟩ := hrel
      obtain rfl : wr = w := hw
      by_cases hlt : k < len
      · obtain ⟨b, off, rfl, hb⟩ := (unhideR HB).open (by omega)
        obtain ⟨z, hz, z0, z1, cz⟩ := bat hb k hlt
        by_cases hbl : z = 32 ∨ z = 9 ∨ z = 13
        · have e1 := bl_yes hbl
          have hf2 : Hid (firstN l (k + 1) = firstN l n) := by
            show _ = _
            exact (first_yes (k := k) (by omega) (by rw [hz]; exact hbl)).symm.trans hf.out
          clear hb hbl hz hf HB
          go_wp2_with fail
          refine (unhideR CB z z0 z1 _).mono ?_
          rintro e w1 ⟨rfl, hw1⟩
          obtain rfl : wr = w1 := hw1.symm
          rw [e1]
          clear CB hw1
          go_wp2_with fail
          go_roundw
          case rel => exact ⟨k + 1, by omega, by go_num, hf2, by trivial⟩
          case measure => simp [intOf]; omega
        · have e1 := bl_no hbl
          have hf2 : Hid (firstN l n = k) := by
            show _ = _
            rw [← hf.out, first_no (by omega) (by rw [hz]; exact hbl)]
          clear hb hbl hz hf HB
          go_wp2_with fail
          refine (unhideR CB z z0 z1 _).mono ?_
          rintro e w1 ⟨rfl, hw1⟩
          obtain rfl : wr = w1 := hw1.symm
          rw [e1]
          clear CB hw1
          go_wp2_with fail
          go_ret
          exact ⟨by rw [hf2.out]; rfl, Below.refl _ _⟩
      · have hf2 : Hid (firstN l n = k) := by
          show _ = _
          rw [← hf.out, first_end (by omega)]
        clear HB CB hf
        go_wp2_with fail
        go_ret
        exact ⟨by rw [hf2.out]; rfl, Below.refl _ _⟩
  · have hp' : plB len i = false := by simpa using hp
    have fin : firstI l i = -1 := by unfold firstI; rw [hl, if_neg hp]
    rw [fin]
    rw [hp'] at C1
    clear hp hp' fin h CB
    go_enter Try.func18, Try.ntmps18
    go_wp2_with fail
    refine (unhideR C1 _).mono ?_
    rintro e w1 ⟨rfl, hw1⟩
    obtain rfl : w = w1 := hw1.symm
    go_wp2_with fail
    go_ret
    exact ⟨rfl, Below.refl _ _⟩

set_option maxRecDepth 20000 in
set_option maxHeartbeats 1000000 in
theorem col_no (a : Option Addr) (len cap : Nat) (w : World) (i tab : Int) (hno : ¬ (plB len i = true ∧ 1 ≤ tab ∧ tab ≤ 16)) :
    Calls Try.prog 20 #[.slice a len cap, .int .i64 i, .int .i64 tab] w fun e w' => e = .returned (.int .i64 (-1)) ∧ Below w.heap.size w w' := by
  have C1 := hideR (fun W => isPlace_any a len cap i W)
  by_cases hp : plB len i = true
  · rw [hp] at C1
    by_cases t1 : tab < 1
    · clear hno hp
      go_enter Try.func20, Try.ntmps20
      go_wp2_with fail
      refine (unhideR C1 _).mono ?_
      rintro e w1 ⟨rfl, hw1⟩
      obtain rfl : w = w1 := hw1.symm
      go_wp2_with fail
      go_ret
      exact ⟨rfl, Below.refl _ _⟩
    · have t2 : 16 < tab := by
        by_cases t2 : 16 < tab
        · exact t2
        · exact absurd ⟨hp, by omega, by omega⟩ hno
      clear hno hp
      go_enter Try.func20, Try.ntmps20
      go_wp2_with fail
      refine (unhideR C1 _).mono ?_
      rintro e w1 ⟨rfl, hw1⟩
      obtain rfl : w = w1 := hw1.symm
      go_wp2_with fail
      go_ret
      exact ⟨rfl, Below.refl _ _⟩
  · have hp' : plB len i = false := by simpa using hp
    rw [hp'] at C1
    clear hp hp' hno
    go_enter Try.func20, Try.ntmps20
    go_wp2_with fail
    refine (unhideR C1 _).mono ?_
    rintro e w1 ⟨rfl, hw1⟩
    obtain rfl : w = w1 := hw1.symm
    go_wp2_with fail
    go_ret
    exact ⟨rfl, Below.refl _ _⟩

set_option maxRecDepth 20000 in
set_option maxHeartbeats 1000000 in
theorem col_yes (a : Option Addr) (len cap : Nat) (l : List Int) (w : World) (h : Bs w a len cap l) (hs : len ≤ 10000) (n tab : Nat) (hn : n ≤ len) (t1 : 1 ≤ tab) (t2 : tab ≤ 16) :
    Calls Try.prog 20 #[.slice a len cap, .int .i64 n, .int .i64 tab] w fun e w' => e = .returned (.int .i64 (colN l n tab)) ∧ Below w.heap.size w w' := by
  have hl := h.hlen
  have hmax := h.hmax
  have hcap := h.hcap
  unfold maxLen at hmax
  have C1 := hideR (fun W => isPlace_any a len cap n W)
  have hp : plB len n = true := pl_yes (by omega) (by omega)
  have C2 := hideR (fun W (h : Bs W a len cap l) => begin_any a len cap l W h n)
  have eb : beginI l n = (beginN l n : Int) := by unfold beginI; rw [hl, if_pos hp]; rfl
  rw [hp] at C1
  rw [eb] at C2
  have C3 := hideR (fun W (h : Bs W a len cap l) (i : Int) => next_any a len cap l W h i)
  have C4 := hideR (fun c r (hc : c ≤ 1000000) W => nextCol_any c tab r hc t1 t2 W)
  have hbl := begin_le l n
  have hst : Hid (cg l n tab (beginN l n) 0 = colN l n tab) := by
    show _ = _
    unfold cg colN
    rw [if_pos hbl]
  have HB := hideR h
  have hbb := hideR h.hbytes
  clear h eb hp
  generalize beginN l n = k0 at *
  generalize hC : colN l n tab = C at *
  have hn1 : (n : Int) ≤ 10000 := by omega
  go_enter Try.func20, Try.ntmps20
  go_wp2_with fail
  refine (unhideR C1 _).mono ?_
  rintro e w1 ⟨rfl, hw1⟩
  obtain rfl : w = w1 := hw1.symm
  clear C1 hw1
  go_wp2_with fail
  refine (unhideR C2 _ (unhideR HB)).mono ?_
  rintro e w2 ⟨rfl, hb2⟩
  clear C2
  go_wp2_with fail
  go_loopw [7, 8] (fun u v wr => ∃ c k : Nat, u = .int .i64 c ∧ v = .int .i64 k ∧ k ≤ len ∧ c ≤ 16 * k ∧ Hid (cg l n tab k c = C) ∧ Below w.heap.size w wr) (fun _ v _ => len - (intOf v).toNat)
  case atStart => exact ⟨0, k0, rfl, rfl, by omega, by omega, hst, hb2⟩
  case round =>
    obtain ⟨c, k, rfl, rfl, hk, hc, hg, hb⟩ := hrel
    clear hst hb2
    by_cases hlt : k < n
    · obtain ⟨s, m, hnx, hnl, m1, m2, m3, hs1⟩ := unit_at (unhideR hbb) (show k < l.length by omega)
      have HB1 := hideR ((unhideR HB).later hb (Nat.le_refl _))
      have CN := hideR (unhideR C3 wr (unhideR HB1) (k : Int))
      rw [hnx] at CN
      simp only at CN
      by_cases hin : k + m ≤ n
      · have hg2 : Hid (cg l n tab (k + m) (next1 tab c s) = C) := by
          show _ = _
          rw [hs1, ← cg_on (unhideR hbb) hlt (by omega) hnl m1 hin]; exact hg.out
        have nb := next1_bd (tab := tab) (c := c) (z := s) t1
        have C5 := hideR (unhideR C4 c s (by omega))
        generalize next1 tab c s = c2 at *
        clear hnx hnl hs1 hg C3 C4 HB hbb hC
        go_wp2_with fail
        refine (unhideR CN).mono ?_
        rintro e w3 ⟨rfl, hb3⟩
        clear CN
        go_wp2_with fail
        refine (unhideR C5 _).mono ?_
        rintro e w4 ⟨rfl, hw4⟩
        obtain rfl : w3 = w4 := hw4.symm
        clear C5 hw4
        go_wp2_with fail
        go_roundw
        case rel => exact ⟨c2, k + m, rfl, by go_num, by omega, by omega, hg2, hb.trans (hb3.mono hb.size)⟩
        case measure => simp [intOf]; omega
      · have hg2 : Hid (cg l n tab (k + m) c = C) := by
          show _ = _
          rw [← cg_past (r := 0) hlt (by omega) hnl (by omega)]; exact hg.out
        clear hnx hnl hs1 hg C3 C4 HB hbb hC
        go_wp2_with fail
        refine (unhideR CN).mono ?_
        rintro e w3 ⟨rfl, hb3⟩
        clear CN
        go_wp2_with fail
        go_roundw
        case rel => exact ⟨c, k + m, rfl, by go_num, by omega, by omega, hg2, hb.trans (hb3.mono hb.size)⟩
        case measure => simp [intOf]; omega
    · have fin : Hid (c = C) := by
        show _ = _
        rw [← hg.out, cg_over (by omega)]
      clear hg C3 C4 HB hbb hC
      go_wp2_with fail
      go_ret
      exact ⟨by rw [fin.out]; rfl, hb⟩

theorem col_any (a : Option Addr) (len cap : Nat) (l : List Int) (w : World) (h : Bs w a len cap l) (hs : len ≤ 10000) (i tab : Int) :
    Calls Try.prog 20 #[.slice a len cap, .int .i64 i, .int .i64 tab] w fun e w' => e = .returned (.int .i64 (colI l i tab)) ∧ Below w.heap.size w w' := by
  have hl := h.hlen
  unfold colI
  rw [hl]
  by_cases hp : plB len i = true ∧ 1 ≤ tab ∧ tab ≤ 16
  · rw [if_pos hp]
    have hp' := hp.1
    unfold plB at hp'
    simp only [Bool.and_eq_true, decide_eq_true_eq] at hp'
    obtain ⟨n, rfl⟩ := Int.eq_ofNat_of_zero_le hp'.1
    obtain ⟨t, rfl⟩ := Int.eq_ofNat_of_zero_le (show 0 ≤ tab by omega)
    exact col_yes a len cap l w h hs n t (by omega) (by omega) (by omega)
  · rw [if_neg hp]
    exact col_no a len cap w i tab hp

end Go.Proofs.Ytjjfeeclpidblaa.Ln
