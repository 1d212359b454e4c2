/- Contracts of package token: digits, HEXes, names, pieces. -/
import Derived.Test.YtdaadeohamkoiaaGreatDoorTkB
import Derived.Test.YtdaadeohamkoiaaGreatDoorUtfUnits
namespace Go.Proofs.YtdaadeohamkoiaaGreatDoor.T
open Go.RowKit
set_option linter.unusedVariables false
set_option linter.unusedSimpArgs false

theorem bat {w : World} {b off len cap : Nat} {l : List Int} (h : Bb w b off len cap l) (k : Nat) (hk : k < len) :
    ∃ z, l.getD k 0 = z ∧ 0 ≤ z ∧ z ≤ 255 ∧ w.cell? ⟨b, off + k, none⟩ = some (.int .u8 z) :=
  ⟨_, rfl, (U.isBytes_getD h.hbytes k).1, (U.isBytes_getD h.hbytes k).2, h.hcell k hk⟩
theorem ret_two {a b c d : Int} (h : a = c) (h2 : b = d) : Ending.returned (.tuple #[.int .i64 a, .int .i64 b]) = .returned (.tuple #[.int .i64 c, .int .i64 d]) := by rw [h, h2]
theorem bnd_pow {j : Nat} (h : j ≤ 6) : 0 ≤ bnd j ∧ bnd j ≤ 16777215 := bnd_le j (by omega)

set_option maxRecDepth 20000 in
set_option maxHeartbeats 2000000 in
theorem number_l (a : Option Addr) (len cap : Nat) (l : List Int) (w : World) (h : Bs w a len cap l) (hl : len ≤ 1000000) (M : Nat) (hM : M ≤ 6) :
    Calls Tryz.prog 134 #[.slice a len cap, .int .i64 M] w fun e w' => e = .returned (.tuple #[.int .i64 (digF M 0 l).1, .int .i64 ((digF M 0 l).2 : Nat)]) ∧ w' = w := by
  have CD := hideR digit_l
  have hlen := h.hlen
  have HB := hideR h
  clear h
  go_enter Tryz.func134, Tryz.ntmps134
  go_wp2_with fail
  go_loopw [6, 7] (fun u q wr => ∃ (v : Int) (j : Nat), j ≤ M ∧ j ≤ len ∧ 0 ≤ v ∧ v ≤ bnd j ∧ u = .int .i64 v ∧ q = .int .i64 (j : Int) ∧ Hid (digF M 0 l = ((digF (M - j) v (l.drop j)).1, (digF (M - j) v (l.drop j)).2 + j)) ∧ wr = w) (fun _ q _ => len - (intOf q).toNat)
  case atStart => exact ⟨0, 0, by omega, by omega, by omega, by decide, rfl, rfl, rfl, by trivial⟩
  case round =>
    obtain ⟨v, j, hj, hjl, v0, v1, rfl, rfl, hg, hww⟩ := hrel
    obtain rfl : wr = w := hww
    have hbj := bnd_pow (j := j) (by omega)
    by_cases i1 : j < len
    · by_cases i2 : j < M
      · obtain ⟨b, off, rfl, hb⟩ := (unhideR HB).open (by omega)
        obtain ⟨z, hz, z0, z1, cz⟩ := bat hb j i1
        have vr := val_range z
        have C1 := hideR (unhideR CD z z0 z1)
        by_cases i3 : 0 ≤ valI z
        · have dy := dig_yes (m := M - (j + 1)) (v := v) (l := l) (k := j) (by omega) (by rw [hz]; exact i3)
          rw [show M - (j + 1) + 1 = M - j by omega, hz] at dy
          have hg2 : Hid (digF M 0 l = ((digF (M - (j + 1)) (16 * v + valI z) (l.drop (j + 1))).1, (digF (M - (j + 1)) (16 * v + valI z) (l.drop (j + 1))).2 + (j + 1))) := by
            show _ = _
            rw [hg.out, dy]
            simp only [Prod.mk.injEq, true_and]
            omega
          have hb2 : 16 * v + valI z ≤ bnd (j + 1) := by
            show _ ≤ 16 * bnd j + 15
            omega
          clear CD HB hb dy hg hz
          generalize valI z = d at *
          have t1 : ¬ d < 0 := by omega
          go_wp2_with fail
          refine (unhideR C1 _).mono ?_
          rintro e w1 ⟨rfl, hw1⟩
          obtain rfl : wr = w1 := hw1.symm
          clear hw1 C1
          go_wp2_with fail
          go_roundw
          case rel => exact ⟨16 * v + d, j + 1, by omega, by omega, by omega, hb2, by go_num, by go_num, hg2, by trivial⟩
          case measure => simp [intOf]; omega
        · have dn := dig_no (m := M - j) (v := v) (l := l) (k := j) (by rw [hz]; omega)
          have hg2 : digF M 0 l = (v, j) := by
            rw [hg.out, dn]
            simp only [Nat.zero_add]
          clear CD HB hb dn hg hz
          have HG := hideR hg2
          clear hg2
          generalize valI z = d at *
          have t1 : d < 0 := by omega
          go_wp2_with fail
          refine (unhideR C1 _).mono ?_
          rintro e w1 ⟨rfl, hw1⟩
          obtain rfl : wr = w1 := hw1.symm
          clear hw1 C1
          go_wp2_with fail
          go_ret2
          exact ⟨ret_two (by rw [unhideR HG]) (by rw [unhideR HG]), rfl⟩
      · have hg2 : digF M 0 l = (v, j) := by
          rw [hg.out, show M - j = 0 by omega]
          simp only [digF, Nat.zero_add]
        clear CD HB hg
        have HG := hideR hg2
        clear hg2
        obtain rfl : j = M := by omega
        go_wp2_with fail
        go_ret2
        exact ⟨ret_two (by rw [unhideR HG]) (by rw [unhideR HG]), rfl⟩
    · have hg2 : digF M 0 l = (v, j) := by
        rw [hg.out, dig_over (by omega)]
        simp only [Nat.zero_add]
      clear CD HB hg
      have HG := hideR hg2
      clear hg2
      obtain rfl : j = len := by omega
      go_wp2_with fail
      go_ret2
      exact ⟨ret_two (by rw [unhideR HG]) (by rw [unhideR HG]), rfl⟩

/-! ### HEXes -/
theorem dig_two (l : List Int) : pairR (oneL true l) = if (digF 2 0 l).2 < 2 then (0, 0) else ((digF 2 0 l).1, (digF 2 0 l).2) := by
  unfold oneL hexI pairR
  simp only [if_true]
  have zz : valI 0 = -1 := by decide
  match l with
  | [] => simp [digF, List.getD, zz]
  | [x] =>
    have := val_range x
    by_cases h : 0 ≤ valI x
    · simp [digF, List.getD, zz, h]
    · simp [digF, List.getD, zz, h]
  | x :: y :: t =>
    have h1 := val_range x
    have h2 := val_range y
    by_cases h : 0 ≤ valI x
    · by_cases h' : 0 ≤ valI y
      · have e : ¬ (valI x < 0 ∨ valI y < 0) := by omega
        have e2 : ¬ (16 * valI x + valI y < 0) := by omega
        simp [digF, List.getD, h, h', e, e2]
      · have e : (valI x < 0 ∨ valI y < 0) := by omega
        simp [digF, List.getD, h, h', e]
    · have e : (valI x < 0 ∨ valI y < 0) := by omega
      simp [digF, List.getD, h, e]
theorem dig_bound : ∀ (m : Nat) (l : List Int) (v : Int), (digF m v l).2 ≤ m ∧ (digF m v l).2 ≤ l.length := by
  intro m
  induction m with
  | zero => intro l v; simp [digF]
  | succ m ih =>
    intro l v
    cases l with
    | nil => simp [digF]
    | cons z t =>
      simp only [digF]
      split
      · have := ih t (16 * v + valI z)
        simp only [List.length_cons]
        omega
      · simp
set_option maxRecDepth 20000 in
set_option maxHeartbeats 2000000 in
theorem hex_l (a : Option Addr) (len cap : Nat) (l : List Int) (w : World) (h : Bs w a len cap l) (hl : len ≤ 1000000) :
    Calls Tryz.prog 83 #[.slice a len cap] w fun e w' => e = .returned (.tuple #[.int .i64 (pairR (oneL true l)).1, .int .i64 ((pairR (oneL true l)).2 : Nat)]) ∧ w' = w := by
  have C := hideR (number_l a len cap l w h hl 2 (by omega))
  have hd := dig_bound 2 l 0
  rw [dig_two]
  clear h
  generalize (digF 2 0 l).1 = x at *
  generalize (digF 2 0 l).2 = n at *
  by_cases c : n < 2
  · rw [if_pos c]
    simp only
    go_enter Tryz.func83, Tryz.ntmps83
    go_wp2_with fail
    refine (unhideR C).mono ?_
    rintro e w1 ⟨rfl, hw1⟩
    obtain rfl : w = w1 := hw1.symm
    clear hw1 C
    go_wp2_with fail
    go_ret2
    exact ⟨rfl, rfl⟩
  · rw [if_neg c]
    obtain rfl : n = 2 := by omega
    simp only
    go_enter Tryz.func83, Tryz.ntmps83
    go_wp2_with fail
    refine (unhideR C).mono ?_
    rintro e w1 ⟨rfl, hw1⟩
    obtain rfl : w = w1 := hw1.symm
    clear hw1 C
    go_wp2_with fail
    go_ret2
    exact ⟨rfl, rfl⟩
end Go.Proofs.YtdaadeohamkoiaaGreatDoor.T

/- Contracts of package token: tails of tails, names, pieces. -/
namespace Go.Proofs.YtdaadeohamkoiaaGreatDoor.T
open Go.RowKit
set_option linter.unusedVariables false
set_option linter.unusedSimpArgs false

/-! ### A tail, from a place on -/
def dropA (a : Option Addr) (cap k : Nat) : Option Addr := if cap = k then a else a.map (·.add k)
theorem tail_run (a : Option Addr) (len cap k : Nat) (i : Int) (hi : i = (k : Int)) (hk : k ≤ len) : ∀ W, (Instr.slice 60 (.slice a len cap) (some (.int .i64 i)) none none).run Tryz.prog W = .ok (.slice (dropA a cap k) (len - k) (cap - k)) W := by
  intro W
  subst hi
  have hu : Tryz.prog.underlying 60 = some (.slice 5) := Tryz.underlying60
  unfold Instr.slice dropA
  simp [hu, run_underlying, Instr.sliceBounds, Instr.sliceBound, asIntOf, hk, Tryz.sizeOf5]
theorem Bs.dropA {w : World} {a : Option Addr} {len cap : Nat} {l : List Int} (h : Bs w a len cap l) (k : Nat) (hk : k ≤ len) : Bs w (T.dropA a cap k) (len - k) (cap - k) (l.drop k) := by
  have h1 := h.hcap
  have h2 := h.hmax
  refine ⟨by rw [List.length_drop, h.hlen], by omega, by omega, U.isBytes_drop h.hbytes k, fun i hi => ?_⟩
  obtain ⟨b, off, rfl, hc⟩ := h.hcell (k + i) (by omega)
  refine ⟨b, off + k, ?_, ?_⟩
  · unfold T.dropA
    rw [if_neg (by omega)]
    simp [Addr.add]
  · rw [Nat.add_assoc, hc]
    simp [List.getD]

/-! ### Names -/
set_option maxRecDepth 20000 in
set_option maxHeartbeats 2000000 in
theorem nameBytes_l (a : Option Addr) (len cap : Nat) (l : List Int) (w : World) (h : Bs w a len cap l) (hl : len ≤ 1000000) :
    Calls Tryz.prog 74 #[.slice a len cap] w fun e w' => e = .returned (.int .i64 (wordN l : Nat)) ∧ w' = w := by
  have hlen := h.hlen
  have CL := hideR isLetter_l
  have CN := hideR isNameByte_l
  by_cases h0 : 0 < len
  · obtain ⟨b, off, rfl, hb⟩ := h.open (by omega)
    obtain ⟨z, hz, z0, z1, cz⟩ := bat hb 0 h0
    rw [Nat.add_zero] at cz
    have C1 := hideR (unhideR CL z z0 z1)
    by_cases hL : isLet z = true
    · have hw : wordN l = tailN (l.drop 1) + 1 := by unfold wordN; rw [hz, if_pos hL]
      rw [hL] at C1
      have HW := hideR hw
      have HB := hideR hb
      have t0 : ((len : Int) == 0) = false := beq_eq_false_iff_ne.2 (by omega)
      clear h hb hw hL hz
      go_enter Tryz.func74, Tryz.ntmps74
      go_wp2_with fail
      refine (unhideR C1 _).mono ?_
      rintro e w1 ⟨rfl, hw1⟩
      obtain rfl : w = w1 := hw1.symm
      clear hw1 C1 cz
      go_wp2_with fail
      go_loopw [3] (fun u wr => ∃ k : Nat, 1 ≤ k ∧ k ≤ len ∧ u = .int .i64 (k : Int) ∧ Hid (wordN l = tailN (l.drop k) + k) ∧ wr = w) (fun u _ => len - (intOf u).toNat)
      case atStart => exact ⟨1, by omega, by omega, rfl, unhideR HW, by trivial⟩
      case round =>
        obtain ⟨k, hk1, hk2, rfl, hg, hww⟩ := hrel
        obtain rfl : wr = w := hww
        by_cases hlt : k < len
        · obtain ⟨y, hy, y0, y1, cy⟩ := bat (unhideR HB) k hlt
          have ta := tail_at (l := l) (k := k) (by omega)
          rw [hy] at ta
          have C2 := hideR (unhideR CN y y0 y1)
          cases hW : isW y with
          | true =>
            rw [hW] at ta C2
            simp only [if_true] at ta
            have hg2 : Hid (wordN l = tailN (l.drop (k + 1)) + (k + 1)) := by
              show _ = _
              rw [hg.out, ta]
              omega
            clear CL CN HW HB ta hg hW hy
            go_wp2_with fail
            refine (unhideR C2 _).mono ?_
            rintro e w1 ⟨rfl, hw1⟩
            obtain rfl : wr = w1 := hw1.symm
            clear hw1 C2
            go_wp2_with fail
            go_roundw
            case rel => exact ⟨k + 1, by omega, by omega, by go_num, hg2, by trivial⟩
            case measure => simp [intOf]; omega
          | false =>
            rw [hW] at ta C2
            simp only [Bool.false_eq_true, if_false] at ta
            have HG : Hid (wordN l = k) := by
              show _ = _
              rw [hg.out, ta, Nat.zero_add]
            clear CL CN HW HB ta hg hW hy
            go_wp2_with fail
            refine (unhideR C2 _).mono ?_
            rintro e w1 ⟨rfl, hw1⟩
            obtain rfl : wr = w1 := hw1.symm
            clear hw1 C2
            go_wp2_with fail
            go_ret
            exact ⟨by rw [unhideR HG]; rfl, rfl⟩
        · have HG : Hid (wordN l = k) := by
            show _ = _
            rw [hg.out, List.drop_of_length_le (by omega)]
            show 0 + k = k
            omega
          clear CL CN HW HB hg
          obtain rfl : k = len := by omega
          go_wp2_with fail
          go_ret
          exact ⟨by rw [unhideR HG]; rfl, rfl⟩
    · have hL' : isLet z = false := by simpa using hL
      have hw : wordN l = 0 := by unfold wordN; rw [hz, if_neg hL]
      rw [hL'] at C1
      rw [hw]
      clear h hb hw hL hL' hz
      go_enter Tryz.func74, Tryz.ntmps74
      go_wp2_with fail
      refine (unhideR C1 _).mono ?_
      rintro e w1 ⟨rfl, hw1⟩
      obtain rfl : w = w1 := hw1.symm
      clear hw1 C1 cz
      go_wp2_with fail
      go_ret
      exact ⟨rfl, rfl⟩
  · obtain rfl : len = 0 := by omega
    obtain rfl : l = [] := List.eq_nil_of_length_eq_zero hlen
    have hw : wordN [] = 0 := by decide
    rw [hw]
    go_enter Tryz.func74, Tryz.ntmps74
    go_wp2_with fail
    go_ret
    exact ⟨rfl, rfl⟩

/-! ### Pieces -/
def pieceP (l : List Int) : Option (Int × Nat) := if l.getD 0 0 = 34 then none else pieceL l
theorem ret_bi {a b c d : Int} (h : a = c) (h2 : b = d) : Ending.returned (.tuple #[.int .u8 a, .int .i64 b]) = .returned (.tuple #[.int .u8 c, .int .i64 d]) := by rw [h, h2]
theorem pre2 {x y : Int} {l : List Int} (hx : x ≠ 0) : pre [x, y] l = true → 2 ≤ l.length ∧ l.getD 0 0 = x ∧ l.getD 1 0 = y := by
  intro h
  unfold pre at h
  rw [decide_eq_true_eq] at h
  match l, h with
  | [], h => simp at h
  | [p], h => simp at h
  | p :: q :: t, h => simp at h; exact ⟨by simp, by simp [h.1], by simp [h.2]⟩
theorem pre2' {x y : Int} {l : List Int} (hy : y ≠ 0) : pre [x, y] l = false → ¬ (l.getD 0 0 = x ∧ l.getD 1 0 = y) := by
  intro h c
  unfold pre at h
  rw [decide_eq_false_iff_not] at h
  match l with
  | [] => simp [List.getD] at c; omega
  | [p] => simp [List.getD] at c; omega
  | p :: q :: t => exact h (by simp [List.getD] at c; simp [c.1, c.2])
theorem pre1 {x : Int} {l : List Int} : pre [x] l = true → 1 ≤ l.length ∧ l.getD 0 0 = x := by
  intro h
  unfold pre at h
  rw [decide_eq_true_eq] at h
  match l, h with
  | [], h => simp at h
  | p :: t, h => simp at h; exact ⟨by simp, by simp [h]⟩
theorem pre1' {x : Int} {l : List Int} (hx : x ≠ 0) : pre [x] l = false → l.getD 0 0 ≠ x := by
  intro h c
  unfold pre at h
  rw [decide_eq_false_iff_not] at h
  match l with
  | [] => simp [List.getD] at c; omega
  | p :: t => exact h (by simp [List.getD] at c; simp [c])
theorem one_hex_pair (l : List Int) : (pairR (oneL true l) = (0, 0) ∧ hexI l < 0) ∨ (pairR (oneL true l) = (hexI l, 2) ∧ 0 ≤ hexI l ∧ hexI l ≤ 255) := by
  unfold oneL pairR
  simp only [if_true]
  have := hex_range l
  by_cases c : hexI l < 0
  · exact .inl ⟨by rw [if_pos c]; rfl, c⟩
  · exact .inr ⟨by rw [if_neg c]; rfl, by omega, by omega⟩
theorem st_bx : St ⟨#[92, 120]⟩ [92, 120] := ⟨rfl, by intro z hz; simp at hz; omega⟩
set_option maxRecDepth 20000 in
set_option maxHeartbeats 2000000 in
theorem piece_l (a : Option Addr) (len cap : Nat) (l : List Int) (w : World) (h : Bs w a len cap l) (hl : len ≤ 1000000) :
    Calls Tryz.prog 76 #[.slice a len cap] w fun e w' => e = .returned (.tuple #[.int .u8 (pairR (pieceP l)).1, .int .i64 ((pairR (pieceP l)).2 : Nat)]) ∧ Below w.heap.size w w' := by
  have hlen := h.hlen
  have CB := hideR (begins_l a len cap l w h ⟨#[92, 120]⟩ [92, 120] st_bx (by simp))
  cases hp : pre [92, 120] l with
  | true =>
    obtain ⟨p1, p2, p3⟩ := pre2 (by omega) hp
    have ep : pieceP l = if 0 ≤ hexI (l.drop 2) then some (hexI (l.drop 2), 4) else none := by
      unfold pieceP pieceL
      rw [if_neg (by rw [p2]; omega), if_pos p2]
      simp only [p3, true_and]
    have sl := tail_run a len cap 2 2 rfl (by omega)
    have CH := hideR (fun W (hB : Bs W a len cap l) => hex_l _ _ _ _ W (Bs.dropA hB 2 (by omega)) (by omega))
    rw [ep]
    rw [hp] at CB
    have HB := hideR h
    clear h ep hp p2 p3
    rcases one_hex_pair (l.drop 2) with ⟨e1, e2⟩ | ⟨e1, e2, e3⟩
    · rw [e1] at CH
      rw [if_neg (by omega)]
      show Calls _ _ _ _ fun e w' => e = .returned (.tuple #[.int .u8 0, .int .i64 0]) ∧ Below w.heap.size w w'
      clear e1 e2
      go_enter Tryz.func76, Tryz.ntmps76
      go_wp2_with fail
      refine (unhideR CB).mono ?_
      rintro e w1 ⟨rfl, b1⟩
      clear CB
      have HB1 := hideR (Bs.later (unhideR HB) b1 (Nat.le_refl _))
      clear HB
      go_wp2_with fail
      refine (unhideR CH _ (unhideR HB1)).mono ?_
      rintro e w2 ⟨rfl, hw2⟩
      obtain rfl : w1 = w2 := hw2.symm
      clear hw2 CH
      go_wp2_with fail
      go_ret2
      exact ⟨rfl, b1⟩
    · rw [e1] at CH
      rw [if_pos (by omega)]
      show Calls _ _ _ _ fun e w' => e = .returned (.tuple #[.int .u8 (hexI (l.drop 2)), .int .i64 4]) ∧ Below w.heap.size w w'
      clear e1
      generalize hexI (l.drop 2) = v at *
      go_enter Tryz.func76, Tryz.ntmps76
      go_wp2_with fail
      refine (unhideR CB).mono ?_
      rintro e w1 ⟨rfl, b1⟩
      clear CB
      have HB1 := hideR (Bs.later (unhideR HB) b1 (Nat.le_refl _))
      clear HB
      go_wp2_with fail
      refine (unhideR CH _ (unhideR HB1)).mono ?_
      rintro e w2 ⟨rfl, hw2⟩
      obtain rfl : w1 = w2 := hw2.symm
      clear hw2 CH
      go_wp2_with fail
      go_ret2
      exact ⟨ret_bi (by go_num) rfl, b1⟩
  | false =>
    have pp := pre2' (by omega) hp
    rw [hp] at CB
    by_cases h0 : 0 < len
    · obtain ⟨b, off, rfl, hb⟩ := h.open (by omega)
      obtain ⟨z, hz, z0, z1, cz⟩ := bat hb 0 h0
      rw [Nat.add_zero] at cz
      have CS := hideR (standsInLit_l z z0 z1)
      have HB := hideR h
      cases hr : rawB z with
      | true =>
        have ep : pieceP l = some (z, 1) := by
          unfold rawB at hr
          simp at hr
          unfold pieceP pieceL
          rw [hz, if_neg (by omega), if_neg (by omega), if_neg (by omega)]
        rw [ep]
        rw [hr] at CS
        show Calls _ _ _ _ fun e w' => e = .returned (.tuple #[.int .u8 z, .int .i64 1]) ∧ Below w.heap.size w w'
        clear h hb ep hr pp hp hz
        go_enter Tryz.func76, Tryz.ntmps76
        go_wp2_with fail
        refine (unhideR CB).mono ?_
        rintro e w1 ⟨rfl, b1⟩
        clear CB
        have cz1 : w1.cell? ⟨b, off, none⟩ = some (.int .u8 z) := by rw [b1.cell (block_lt' cz)]; exact cz
        clear cz HB
        go_wp2_with fail
        refine (unhideR CS _).mono ?_
        rintro e w2 ⟨rfl, hw2⟩
        obtain rfl : w1 = w2 := hw2.symm
        clear hw2 CS
        go_wp2_with fail
        go_ret2
        exact ⟨rfl, b1⟩
      | false =>
        have ep : pieceP l = none := by
          unfold rawB at hr
          simp at hr
          unfold pieceP
          rw [hz]
          by_cases c34 : z = 34
          · rw [if_pos c34]
          · rw [if_neg c34]
            unfold pieceL
            rw [hz]
            by_cases c92 : z = 92
            · rw [if_pos c92, if_neg (by intro c; exact pp ⟨by rw [hz, c92], c.1⟩)]
            · rw [if_neg c92, if_pos (by omega)]
        rw [ep]
        rw [hr] at CS
        show Calls _ _ _ _ fun e w' => e = .returned (.tuple #[.int .u8 0, .int .i64 0]) ∧ Below w.heap.size w w'
        clear h hb ep hr pp hp hz
        go_enter Tryz.func76, Tryz.ntmps76
        go_wp2_with fail
        refine (unhideR CB).mono ?_
        rintro e w1 ⟨rfl, b1⟩
        clear CB
        have cz1 : w1.cell? ⟨b, off, none⟩ = some (.int .u8 z) := by rw [b1.cell (block_lt' cz)]; exact cz
        clear cz HB
        go_wp2_with fail
        refine (unhideR CS _).mono ?_
        rintro e w2 ⟨rfl, hw2⟩
        obtain rfl : w1 = w2 := hw2.symm
        clear hw2 CS
        go_wp2_with fail
        go_ret2
        exact ⟨rfl, b1⟩
    · obtain rfl : len = 0 := by omega
      obtain rfl : l = [] := List.eq_nil_of_length_eq_zero hlen
      have ep : pairR (pieceP []) = (0, 0) := by decide
      rw [ep]
      clear h ep pp hp
      go_enter Tryz.func76, Tryz.ntmps76
      go_wp2_with fail
      refine (unhideR CB).mono ?_
      rintro e w1 ⟨rfl, b1⟩
      clear CB
      go_wp2_with fail
      go_ret2
      exact ⟨rfl, b1⟩
end Go.Proofs.YtdaadeohamkoiaaGreatDoor.T
