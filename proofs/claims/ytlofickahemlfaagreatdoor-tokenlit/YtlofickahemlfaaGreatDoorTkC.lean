/- Contracts of package token: digits, HEXes, names, pieces. -/
import Derived.Test.YtlofickahemlfaaGreatDoorTkB
import Derived.Test.YtlofickahemlfaaGreatDoorUtfUnits
namespace Go.Proofs.YtlofickahemlfaaGreatDoor.T
open Go.RowKit
set_option linter.unusedVariables false
set_option linter.unusedSimpArgs false

theorem bat {w : World} {b off len cap : Nat} {l : List Int} (h : Bb w b off len cap l) (k : Nat) (hk : k < len) :
    ∃ z, l.getD k 0 = z ∧ 0 ≤ z ∧ z ≤ 255 ∧ w.cell? ⟨b, off + k, none⟩ = some (.int .u8 z) :=
  ⟨_, rfl, (U.isBytes_getD h.hbytes k).1, (U.isBytes_getD h.hbytes k).2, h.hcell k hk⟩
theorem ret_two {a b c d : Int} (h : a = c) (h2 : b = d) : Ending.returned (.tuple #[.int .i64 a, .int .i64 b]) = .returned (.tuple #[.int .i64 c, .int .i64 d]) := by rw [h, h2]
theorem bnd_pow {j : Nat} (h : j ≤ 6) : 0 ≤ bnd j ∧ bnd j ≤ 16777215 := bnd_le j (by omega)

set_option maxRecDepth 20000 in
set_option maxHeartbeats 2000000 in
theorem number_l (a : Option Addr) (len cap : Nat) (l : List Int) (w : World) (h : Bs w a len cap l) (hl : len ≤ 1000000) (M : Nat) (hM : M ≤ 6) :
    Calls Tryz.prog 95 #[.slice a len cap, .int .i64 M] w fun e w' => e = .returned (.tuple #[.int .i64 (digF M 0 l).1, .int .i64 ((digF M 0 l).2 : Nat)]) ∧ w' = w := by
  have CD := hideR digit_l
  have hlen := h.hlen
  have HB := hideR h
  clear h
  go_enter Tryz.func95, Tryz.ntmps95
  go_wp2_with fail
  go_loopw [6, 7] (fun u q wr => ∃ (v : Int) (j : Nat), j ≤ M ∧ j ≤ len ∧ 0 ≤ v ∧ v ≤ bnd j ∧ u = .int .i64 v ∧ q = .int .i64 (j : Int) ∧ Hid (digF M 0 l = ((digF (M - j) v (l.drop j)).1, (digF (M - j) v (l.drop j)).2 + j)) ∧ wr = w) (fun _ q _ => len - (intOf q).toNat)
  case atStart => exact ⟨0, 0, by omega, by omega, by omega, by decide, rfl, rfl, rfl, by trivial⟩
  case round =>
    obtain ⟨v, j, hj, hjl, v0, v1, rfl, rfl, hg, hww⟩ := hrel
    obtain rfl : wr = w := hww
    have hbj := bnd_pow (j := j) (by omega)
    by_cases i1 : j < len
    · by_cases i2 : j < M
      · obtain ⟨b, off, rfl, hb⟩ := (unhideR HB).open (by omega)
        obtain ⟨z, hz, z0, z1, cz⟩ := bat hb j i1
        have vr := val_range z
        have C1 := hideR (unhideR CD z z0 z1)
        by_cases i3 : 0 ≤ valI z
        · have dy := dig_yes (m := M - (j + 1)) (v := v) (l := l) (k := j) (by omega) (by rw [hz]; exact i3)
          rw [show M - (j + 1) + 1 = M - j by omega, hz] at dy
          have hg2 : Hid (digF M 0 l = ((digF (M - (j + 1)) (16 * v + valI z) (l.drop (j + 1))).1, (digF (M - (j + 1)) (16 * v + valI z) (l.drop (j + 1))).2 + (j + 1))) := by
            show _ = _
            rw [hg.out, dy]
            simp only [Prod.mk.injEq, true_and]
            omega
          have hb2 : 16 * v + valI z ≤ bnd (j + 1) := by
            show _ ≤ 16 * bnd j + 15
            omega
          clear CD HB hb dy hg hz
          generalize valI z = d at *
          have t1 : ¬ d < 0 := by omega
          go_wp2_with fail
          refine (unhideR C1 _).mono ?_
          rintro e w1 ⟨rfl, hw1⟩
          obtain rfl : wr = w1 := hw1.symm
          clear hw1 C1
          go_wp2_with fail
          go_roundw
          case rel => exact ⟨16 * v + d, j + 1, by omega, by omega, by omega, hb2, by go_num, by go_num, hg2, by trivial⟩
          case measure => simp [intOf]; omega
        · have dn := dig_no (m := M - j) (v := v) (l := l) (k := j) (by rw [hz]; omega)
          have hg2 : digF M 0 l = (v, j) := by
            rw [hg.out, dn]
            simp only [Nat.zero_add]
          clear CD HB hb dn hg hz
          have HG := hideR hg2
          clear hg2
          generalize valI z = d at *
          have t1 : d < 0 := by omega
          go_wp2_with fail
          refine (unhideR C1 _).mono ?_
          rintro e w1 ⟨rfl, hw1⟩
          obtain rfl : wr = w1 := hw1.symm
          clear hw1 C1
          go_wp2_with fail
          go_ret2
          exact ⟨ret_two (by rw [unhideR HG]) (by rw [unhideR HG]), rfl⟩
      · have hg2 : digF M 0 l = (v, j) := by
          rw [hg.out, show M - j = 0 by omega]
          simp only [digF, Nat.zero_add]
        clear CD HB hg
        have HG := hideR hg2
        clear hg2
        obtain rfl : j = M := by omega
        go_wp2_with fail
        go_ret2
        exact ⟨ret_two (by rw [unhideR HG]) (by rw [unhideR HG]), rfl⟩
    · have hg2 : digF M 0 l = (v, j) := by
        rw [hg.out, dig_over (by omega)]
        simp only [Nat.zero_add]
      clear CD HB hg
      have HG := hideR hg2
      clear hg2
      obtain rfl : j = len := by omega
      go_wp2_with fail
      go_ret2
      exact ⟨ret_two (by rw [unhideR HG]) (by rw [unhideR HG]), rfl⟩

/-! ### HEXes -/
theorem dig_two (l : List Int) : pairR (oneL true l) = if (digF 2 0 l).2 < 2 then (0, 0) else ((digF 2 0 l).1, (digF 2 0 l).2) := by
  unfold oneL hexI pairR
  simp only [if_true]
  have zz : valI 0 = -1 := by decide
  match l with
  | [] => simp [digF, List.getD, zz]
  | [x] =>
    have := val_range x
    by_cases h : 0 ≤ valI x
    · simp [digF, List.getD, zz, h]
    · simp [digF, List.getD, zz, h]
  | x :: y :: t =>
    have h1 := val_range x
    have h2 := val_range y
    by_cases h : 0 ≤ valI x
    · by_cases h' : 0 ≤ valI y
      · have e : ¬ (valI x < 0 ∨ valI y < 0) := by omega
        have e2 : ¬ (16 * valI x + valI y < 0) := by omega
        simp [digF, List.getD, h, h', e, e2]
      · have e : (valI x < 0 ∨ valI y < 0) := by omega
        simp [digF, List.getD, h, h', e]
    · have e : (valI x < 0 ∨ valI y < 0) := by omega
      simp [digF, List.getD, h, e]
theorem dig_bound : ∀ (m : Nat) (l : List Int) (v : Int), (digF m v l).2 ≤ m ∧ (digF m v l).2 ≤ l.length := by
  intro m
  induction m with
  | zero => intro l v; simp [digF]
  | succ m ih =>
    intro l v
    cases l with
    | nil => simp [digF]
    | cons z t =>
      simp only [digF]
      split
      · have := ih t (16 * v + valI z)
        simp only [List.length_cons]
        omega
      · simp
set_option maxRecDepth 20000 in
set_option maxHeartbeats 2000000 in
theorem hex_l (a : Option Addr) (len cap : Nat) (l : List Int) (w : World) (h : Bs w a len cap l) (hl : len ≤ 1000000) :
    Calls Tryz.prog 65 #[.slice a len cap] w fun e w' => e = .returned (.tuple #[.int .i64 (pairR (oneL true l)).1, .int .i64 ((pairR (oneL true l)).2 : Nat)]) ∧ w' = w := by
  have C := hideR (number_l a len cap l w h hl 2 (by omega))
  have hd := dig_bound 2 l 0
  rw [dig_two]
  clear h
  generalize (digF 2 0 l).1 = x at *
  generalize (digF 2 0 l).2 = n at *
  by_cases c : n < 2
  · rw [if_pos c]
    simp only
    go_enter Tryz.func65, Tryz.ntmps65
    go_wp2_with fail
    refine (unhideR C).mono ?_
    rintro e w1 ⟨rfl, hw1⟩
    obtain rfl : w = w1 := hw1.symm
    clear hw1 C
    go_wp2_with fail
    go_ret2
    exact ⟨rfl, rfl⟩
  · rw [if_neg c]
    obtain rfl : n = 2 := by omega
    simp only
    go_enter Tryz.func65, Tryz.ntmps65
    go_wp2_with fail
    refine (unhideR C).mono ?_
    rintro e w1 ⟨rfl, hw1⟩
    obtain rfl : w = w1 := hw1.symm
    clear hw1 C
    go_wp2_with fail
    go_ret2
    exact ⟨rfl, rfl⟩
end Go.Proofs.YtlofickahemlfaaGreatDoor.T
