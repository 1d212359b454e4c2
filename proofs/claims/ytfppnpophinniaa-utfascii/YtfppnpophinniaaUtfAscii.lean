/- The walk of the statement UtfAscii. -/
import Derived.Test.YtfppnpophinniaaUtfAwake
namespace Go.Proofs.Ytfppnpophinniaa
open Go.RowKit
set_option linter.unusedVariables false

/-- a cell that was there is there behind what only makes memory -/
theorem cell_below {w w' : World} {p : Addr} {v : Value} (hc : w.cell? p = some v) {B : Nat} (hb : Below B w w') (hB : w.heap.size ≤ B) : w'.cell? p = some v := by
  rw [hb.cell (Nat.lt_of_lt_of_le (block_lt_of_cell hc) hB)]; exact hc

set_option maxHeartbeats 1000000 in
theorem utfAscii_walk (a : Option Addr) (len cap : Nat) (l : List Int) (at' : Int) (w : World) (h : Bs w a len cap l) :
    Calls Try.prog 5 #[.slice a len cap, .int .i64 at'] w fun e w' => e = .returned (.bool true) ∧ Below w.heap.size w w' := by
  have hl := h.hlen
  have hcap := h.hcap
  have hmax := h.hmax
  unfold maxLen at hmax
  have AW := hideC awake_any
  by_cases h1 : 300 < len
  · clear hl
    go_enter Try.func5, Try.ntmps5
    go_wp2_with fail
    refine (unhideC AW _).mono ?_
    rintro e w1 ⟨rfl, hb1⟩
    go_wp2_with fail
    go_ret
    exact ⟨rfl, hb1⟩
  by_cases h2 : at' < 0
  · clear hl
    go_enter Try.func5, Try.ntmps5
    go_wp2_with fail
    refine (unhideC AW _).mono ?_
    rintro e w1 ⟨rfl, hb1⟩
    go_wp2_with fail
    go_ret
    exact ⟨rfl, hb1⟩
  by_cases h3 : (len : Int) ≤ at'
  · clear hl
    go_enter Try.func5, Try.ntmps5
    go_wp2_with fail
    refine (unhideC AW _).mono ?_
    rintro e w1 ⟨rfl, hb1⟩
    go_wp2_with fail
    go_ret
    exact ⟨rfl, hb1⟩
  obtain ⟨n, rfl⟩ := Int.eq_ofNat_of_zero_le (by omega : 0 ≤ at')
  have hn : n < len := by omega
  obtain ⟨b, off, rfl, hb⟩ := h.open (by omega)
  have ex : nx l (n : Int) = U.nextL (l.drop n) := by unfold nx; rw [if_neg (by omega)]; simp
  have hne : l.drop n ≠ [] := by intro e; have := congrArg List.length e; rw [List.length_drop] at this; simp at this; omega
  have hbd := U.next_bound (U.isBytes_drop h.hbytes n) hne
  have hg : (l.drop n).getD 0 0 = l.getD n 0 := by simp [List.getD]
  have m1 := U.next_ascii (U.isBytes_drop h.hbytes n) hne
  have m2 := U.next_high (U.isBytes_drop h.hbytes n) hne
  have hc := hb.hcell n hn
  have hcb := U.isBytes_getD h.hbytes n
  rw [hg] at m1 m2
  have NX := hideC (fun w' (hw : Below w.heap.size w w') => next_any _ _ _ l w' (h.later hw (Nat.le_refl _)) (n : Int))
  rw [ex] at NX
  clear ex hg hne h2 hb h
  generalize l.getD n 0 = c at *
  generalize U.nextL (l.drop n) = p at *
  clear hl
  obtain ⟨r, m⟩ := p
  simp only [Prod.mk.injEq] at m1 m2 hbd
  by_cases c1 : c < 128
  · obtain ⟨rfl, rfl⟩ := m1 c1
    clear m1 m2
    go_enter Try.func5, Try.ntmps5
    go_wp2_with fail
    refine (unhideC AW _).mono ?_
    rintro e w1 ⟨rfl, hb1⟩
    go_wp2_with fail
    refine (unhideC NX _ hb1).mono ?_
    rintro e w2 ⟨rfl, hb2⟩
    have hb3 := hb1.trans (hb2.mono hb1.size)
    have hc2 := cell_below hc hb3 (Nat.le_refl _)
    go_wp2_with fail
    go_ret
    exact ⟨rfl, hb3⟩
  · have m2' := m2 (by omega)
    clear m1 m2
    by_cases c2 : 193 < c
    · by_cases c3 : c < 245
      · go_enter Try.func5, Try.ntmps5
        go_wp2_with fail
        refine (unhideC AW _).mono ?_
        rintro e w1 ⟨rfl, hb1⟩
        go_wp2_with fail
        refine (unhideC NX _ hb1).mono ?_
        rintro e w2 ⟨rfl, hb2⟩
        have hb3 := hb1.trans (hb2.mono hb1.size)
        have hc2 := cell_below hc hb3 (Nat.le_refl _)
        go_wp2_with fail
        go_ret
        exact ⟨rfl, hb3⟩
      · have : r = -1 := by omega
        subst this
        go_enter Try.func5, Try.ntmps5
        go_wp2_with fail
        refine (unhideC AW _).mono ?_
        rintro e w1 ⟨rfl, hb1⟩
        go_wp2_with fail
        refine (unhideC NX _ hb1).mono ?_
        rintro e w2 ⟨rfl, hb2⟩
        have hb3 := hb1.trans (hb2.mono hb1.size)
        have hc2 := cell_below hc hb3 (Nat.le_refl _)
        go_wp2_with fail
        go_ret
        exact ⟨rfl, hb3⟩
    · have : r = -1 := by omega
      subst this
      go_enter Try.func5, Try.ntmps5
      go_wp2_with fail
      refine (unhideC AW _).mono ?_
      rintro e w1 ⟨rfl, hb1⟩
      go_wp2_with fail
      refine (unhideC NX _ hb1).mono ?_
      rintro e w2 ⟨rfl, hb2⟩
      have hb3 := hb1.trans (hb2.mono hb1.size)
      have hc2 := cell_below hc hb3 (Nat.le_refl _)
      go_wp2_with fail
      go_ret
      exact ⟨rfl, hb3⟩

end Go.Proofs.Ytfppnpophinniaa
