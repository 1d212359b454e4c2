/- The walk of the statement UtfUnits. -/
import Derived.Test.YtfppnpophinniaaUtfAwake
import Derived.Deep.RegionWith
import Derived.Deep.RegionHeld3
namespace Go.Proofs.Ytfppnpophinniaa
open Go.RowKit
set_option linter.unusedVariables false

theorem Below.next {w w1 w2 : World} (h : Below w.heap.size w w1) (k : Below w1.heap.size w1 w2) : Below w.heap.size w w2 := h.trans (k.mono h.size)

theorem Bs.front {w : World} {a : Option Addr} {len cap : Nat} {l : List Int} (h : Bs w a len cap l) (k : Nat) (hk : k ≤ len) : Bs w a k cap (l.take k) := by
  have hl := h.hlen
  have hc := h.hcap
  refine ⟨by rw [List.length_take]; omega, by omega, h.hmax, U.isBytes_take h.hbytes k, fun i hi => ?_⟩
  obtain ⟨b, off, e, hc⟩ := h.hcell i (by omega)
  exact ⟨b, off, e, by rw [hc]; simp [hi]⟩

theorem Bb.toBs {w : World} {b off len cap : Nat} {l : List Int} (h : Bb w b off len cap l) : Bs w (some ⟨b, off, none⟩) len cap l :=
  ⟨h.hlen, h.hcap, h.hmax, h.hbytes, fun i hi => ⟨b, off, rfl, h.hcell i hi⟩⟩

theorem wrapI (n : Int) (h : -9223372036854775808 ≤ n ∧ n ≤ 9223372036854775807) : IntKind.i64.wrap n = n := by rw [IntKind.wrap_i64]; omega

theorem Bs.none {w : World} {a : Option Addr} {cap : Nat} (hc : cap ≤ maxLen) : Bs w a 0 cap [] := ⟨rfl, Nat.zero_le _, hc, fun z hz => by simp at hz, fun i hi => by omega⟩

set_option maxHeartbeats 2000000 in
theorem utfUnits_walk1 (b off len cap : Nat) (l : List Int) (many : Int) (w : World) (h : Bb w b off len cap l) (hm : many ≤ 9223372036854775807) :
    Calls Try.prog 6 #[.slice (some ⟨b, off, none⟩) len cap, .int .i64 many] w fun e w' => e = .returned (.bool true) ∧ Below w.heap.size w w' := by
  have AW := hideC awake_any
  have hp := h.hpos
  have hcap := h.hcap
  have hmax := h.hmax
  unfold maxLen at hmax
  by_cases h1 : 300 < len
  · go_enter Try.func6, Try.ntmps6
    go_wp2_with fail
    refine (unhideC AW _).mono ?_
    rintro e w1 ⟨rfl, hb1⟩
    go_wp2_with fail
    go_ret
    exact ⟨rfl, hb1⟩
  by_cases h2 : many < 0
  · go_enter Try.func6, Try.ntmps6
    go_wp2_with fail
    refine (unhideC AW _).mono ?_
    rintro e w1 ⟨rfl, hb1⟩
    go_wp2_with fail
    go_ret
    exact ⟨rfl, hb1⟩
  have NX := hideC (fun (w' : World) (hw : Below w.heap.size w w') (k : Int) => next_any _ _ _ l w' (h.toBs.later hw (Nat.le_refl _)) k)
  have UA := hideC (fun (w' : World) (hw : Below w.heap.size w w') => units_any _ _ _ l w' (h.toBs.later hw (Nat.le_refl _)))
  have UF := hideC (fun (k : Nat) (hk : k ≤ len) (w' : World) (hw : Below w.heap.size w w') => units_any _ _ _ (l.take k) w' ((h.toBs.later hw (Nat.le_refl _)).front k hk))
  have UB := hideC (fun (k : Nat) (hk : k < len) (w' : World) (hw : Below w.heap.size w w') => units_any _ _ _ (l.drop k) w' ((h.drop k hk).toBs.later hw (Nat.le_refl _)))
  have H := hideC h
  have hu := U.units_le h.hbytes
  rw [h.hlen] at hu
  clear h
  go_enter Try.func6, Try.ntmps6
  go_wp2_with fail
  refine (unhideC AW _).mono ?_
  rintro e w1 ⟨rfl, hb1⟩
  go_wp2_with fail
  go_loopw [6, 7] (fun t i wr => ∃ k j : Nat, k ≤ len ∧ j ≤ k ∧ t = .int .i64 k ∧ i = .int .i64 j ∧ Hid (U.Bd j l k) ∧ Below w.heap.size w wr) (fun t _ _ => len - (intOf t).toNat)
  case atStart => exact ⟨0, 0, Nat.zero_le _, Nat.zero_le _, rfl, rfl, rfl, hb1⟩
  case round =>
    obtain ⟨k, j, hk, hj, rfl, rfl, hbd, hb⟩ := hrel
    clear hb1
    by_cases c1 : (j : Int) < many ∧ k < len
    · obtain ⟨c1, c2⟩ := c1
      have hl := (unhideC H).hlen
      have hne : l.drop k ≠ [] := by intro e; have := congrArg List.length e; rw [List.length_drop, List.length_nil] at this; omega
      have nb := U.next_bound (U.isBytes_drop (unhideC H).hbytes k) hne
      have st : Hid (U.Bd (j + 1) l (k + (U.nextL (l.drop k)).2)) := U.Bd.step _ _ _ hbd.out hne
      have ex : nx l (k : Int) = U.nextL (l.drop k) := by unfold nx; rw [if_neg (by omega)]; simp
      have hc := unhideC NX _ hb k
      rw [ex] at hc
      have HC := hideC hc
      rw [List.length_drop, hl] at nb
      clear hc ex hne hl
      generalize U.nextL (l.drop k) = p at *
      obtain ⟨x, m⟩ := p
      simp only at nb
      go_wp2_with fail
      refine (unhideC HC).mono ?_
      rintro e w' ⟨rfl, hb2⟩
      go_wp2_with fail
      go_roundw
      case rel => exact ⟨k + m, j + 1, by omega, by omega, by go_num, by go_num, st, Below.next hb hb2⟩
      case measure => simp [intOf]; omega
    · have sp := U.Bd.units _ _ _ (unhideC H).hbytes hbd.out
      clear hbd
      have hl := (unhideC H).hlen
      by_cases c3 : k < len
      · have c2 : ¬ (j : Int) < many := fun h => c1 ⟨h, c3⟩
        clear c1
        have ub := unhideC UB k c3
        have uf := unhideC UF k hk
        have ua := unhideC UA
        rw [← sp] at ua hu
        generalize U.units (l.drop k) = u2 at *
        have hz : ¬ cap = k := by omega
        · skip
          generalize U.units (l.take k) = u1 at *
          have UA2 := hideC ua
          have UF2 := hideC uf
          have UB2 := hideC ub
          clear ub uf ua UA UF UB sp NX H
          have wr1 := wrapI ((u1 : Int) + (u2 : Int)) (by omega)
          have wr2 := wrapI (4 * ((u1 : Int) + (u2 : Int))) (by omega)
          have i1 : (u1 : Int) + (u2 : Int) ≤ (len : Int) := by omega
          have i2 : (len : Int) ≤ 4 * ((u1 : Int) + (u2 : Int)) := by omega
          have i3 : (k : Int) ≤ (cap : Int) := by omega
          have i4 : (k : Int) ≤ (len : Int) := by omega
          have i5 : (0 : Int) ≤ (k : Int) := by omega
          go_wp2_with fail
          refine (unhideC UA2 _ hb).mono ?_
          rintro e w2 ⟨rfl, hb2⟩
          have hb3 := Below.next hb hb2
          clear hb hb2
          have tok1 : True := trivial
          go_wp2_with fail
          go_region_held3 (fun _ => True) (trivial) (first
            | (go_at_call 17; have _t := tok1; refine (unhideC UF2 _ ?_).mono ?_; (exact hb3.drew); rintro e wa ⟨rfl, hx1⟩; clear tok1)
            | (go_at_call 17; refine (unhideC UB2 _ ?_).mono ?_; (exact Below.next hb3.drew hx1); rintro e wb ⟨rfl, hx2⟩))
          go_wp2_with fail
          go_ret
          exact ⟨rfl, Below.next (Below.next hb3.drew hx1) hx2⟩
      · have hk3 : k = len := by omega
        have ub := fun (a : Option Addr) (c : Nat) (hc : c ≤ maxLen) (w' : World) => units_any a 0 c [] w' (Bs.none hc)
        have uf := unhideC UF k hk
        have ua := unhideC UA
        rw [List.drop_of_length_le (by omega)] at sp
        rw [← sp] at ua hu
        have u0 : U.units [] = 0 := rfl
        rw [u0] at ub sp ua hu
        rw [Nat.add_zero] at ua hu
        subst hk3
        generalize U.units (l.take k) = u1 at *
        have UA2 := hideC ua
        have UF2 := hideC uf
        have UB2 := hideC ub
        clear ub uf ua UA UF UB sp NX H u0 c1 c3 hl
        have wr1 := wrapI (u1 : Int) (by omega)
        have wr2 := wrapI (4 * (u1 : Int)) (by omega)
        have i1 : (u1 : Int) ≤ (k : Int) := by omega
        have i2 : (k : Int) ≤ 4 * (u1 : Int) := by omega
        have i3 : (k : Int) ≤ (cap : Int) := by omega
        have i5 : (0 : Int) ≤ (k : Int) := by omega
        by_cases c2 : (j : Int) < many
        · by_cases hz : cap = k
          · subst hz
            go_wp2_with fail
            refine (unhideC UA2 _ hb).mono ?_
            rintro e w2 ⟨rfl, hb2⟩
            have hb3 := Below.next hb hb2
            clear hb hb2
            have tok1 : True := trivial
            go_wp2_with fail
            go_region_held3 (fun _ => True) (trivial) (first
              | (go_at_call 17; have _t := tok1; refine (unhideC UF2 _ ?_).mono ?_; (exact hb3.drew); rintro e wa ⟨rfl, hx1⟩; clear tok1)
              | (go_at_call 17; refine (unhideC UB2 _ _ ?_ _).mono ?_; (unfold maxLen; omega); rintro e wb ⟨rfl, hx2⟩))
            go_wp2_with fail
            go_ret
            exact ⟨rfl, Below.next (Below.next hb3.drew hx1) hx2⟩
          · skip
            go_wp2_with fail
            refine (unhideC UA2 _ hb).mono ?_
            rintro e w2 ⟨rfl, hb2⟩
            have hb3 := Below.next hb hb2
            clear hb hb2
            have tok1 : True := trivial
            go_wp2_with fail
            go_region_held3 (fun _ => True) (trivial) (first
              | (go_at_call 17; have _t := tok1; refine (unhideC UF2 _ ?_).mono ?_; (exact hb3.drew); rintro e wa ⟨rfl, hx1⟩; clear tok1)
              | (go_at_call 17; refine (unhideC UB2 _ _ ?_ _).mono ?_; (unfold maxLen; omega); rintro e wb ⟨rfl, hx2⟩))
            go_wp2_with fail
            go_ret
            exact ⟨rfl, Below.next (Below.next hb3.drew hx1) hx2⟩
        · by_cases hz : cap = k
          · subst hz
            go_wp2_with fail
            refine (unhideC UA2 _ hb).mono ?_
            rintro e w2 ⟨rfl, hb2⟩
            have hb3 := Below.next hb hb2
            clear hb hb2
            have tok1 : True := trivial
            go_wp2_with fail
            go_region_held3 (fun _ => True) (trivial) (first
              | (go_at_call 17; have _t := tok1; refine (unhideC UF2 _ ?_).mono ?_; (exact hb3.drew); rintro e wa ⟨rfl, hx1⟩; clear tok1)
              | (go_at_call 17; refine (unhideC UB2 _ _ ?_ _).mono ?_; (unfold maxLen; omega); rintro e wb ⟨rfl, hx2⟩))
            go_wp2_with fail
            go_ret
            exact ⟨rfl, Below.next (Below.next hb3.drew hx1) hx2⟩
          · skip
            go_wp2_with fail
            refine (unhideC UA2 _ hb).mono ?_
            rintro e w2 ⟨rfl, hb2⟩
            have hb3 := Below.next hb hb2
            clear hb hb2
            have tok1 : True := trivial
            go_wp2_with fail
            go_region_held3 (fun _ => True) (trivial) (first
              | (go_at_call 17; have _t := tok1; refine (unhideC UF2 _ ?_).mono ?_; (exact hb3.drew); rintro e wa ⟨rfl, hx1⟩; clear tok1)
              | (go_at_call 17; refine (unhideC UB2 _ _ ?_ _).mono ?_; (unfold maxLen; omega); rintro e wb ⟨rfl, hx2⟩))
            go_wp2_with fail
            go_ret
            exact ⟨rfl, Below.next (Below.next hb3.drew hx1) hx2⟩

set_option maxHeartbeats 2000000 in
theorem utfUnits_walk0 (a : Option Addr) (cap : Nat) (many : Int) (w : World) (hmax : cap ≤ maxLen) (hn : a = none → cap = 0) (hm : many ≤ 9223372036854775807) :
    Calls Try.prog 6 #[.slice a 0 cap, .int .i64 many] w fun e w' => e = .returned (.bool true) ∧ Below w.heap.size w w' := by
  have AW := hideC awake_any
  by_cases h2 : many < 0
  · go_enter Try.func6, Try.ntmps6
    go_wp2_with fail
    refine (unhideC AW _).mono ?_
    rintro e w1 ⟨rfl, hb1⟩
    go_wp2_with fail
    go_ret
    exact ⟨rfl, hb1⟩
  have ub := fun (a : Option Addr) (c : Nat) (hc : c ≤ maxLen) (w' : World) => units_any a 0 c [] w' (Bs.none hc)
  have u0 : U.units [] = 0 := rfl
  rw [u0] at ub
  have UB2 := hideC ub
  clear ub u0
  have HM := hideC hmax
  clear hmax
  have fin : ∀ (ww : World), Below w.heap.size w ww → True := fun _ _ => trivial
  cases a with
  | none =>
    obtain rfl := hn rfl
    clear hn
    by_cases c1 : 0 < many
    all_goals
      go_enter Try.func6, Try.ntmps6
      go_wp2_with fail
      refine (unhideC AW _).mono ?_
      rintro e w1 ⟨rfl, hb1⟩
      go_wp2_with fail
      refine wp_loop_rounds 1 ?_
      rw [rounds_succ]
      go_wp2_with fail
      refine (unhideC UB2 _ _ (unhideC HM) _).mono ?_
      rintro e w2 ⟨rfl, hb2⟩
      have hb3 := Below.next hb1 hb2
      clear hb1 hb2
      have tok1 : True := trivial
      go_wp2_with fail
      go_region_held3 (fun _ => True) (trivial) (first
        | (go_at_call 17; have _t := tok1; refine (unhideC UB2 _ _ (unhideC HM) _).mono ?_; rintro e wa ⟨rfl, hx1⟩; clear tok1)
        | (go_at_call 17; refine (unhideC UB2 _ _ (unhideC HM) _).mono ?_; rintro e wb ⟨rfl, hx2⟩))
      go_wp2_with fail
      go_ret
      exact ⟨rfl, Below.next (Below.next hb3.drew hx1) hx2⟩
  | some x =>
    obtain ⟨b, off, spot⟩ := x
    clear hn
    by_cases hz : cap = 0
    · subst hz
      by_cases c1 : 0 < many
      all_goals
        go_enter Try.func6, Try.ntmps6
        go_wp2_with fail
        refine (unhideC AW _).mono ?_
        rintro e w1 ⟨rfl, hb1⟩
        go_wp2_with fail
        refine wp_loop_rounds 1 ?_
        rw [rounds_succ]
        go_wp2_with fail
        refine (unhideC UB2 _ _ (unhideC HM) _).mono ?_
        rintro e w2 ⟨rfl, hb2⟩
        have hb3 := Below.next hb1 hb2
        clear hb1 hb2
        have tok1 : True := trivial
        go_wp2_with fail
        go_region_held3 (fun _ => True) (trivial) (first
          | (go_at_call 17; have _t := tok1; refine (unhideC UB2 _ _ (unhideC HM) _).mono ?_; rintro e wa ⟨rfl, hx1⟩; clear tok1)
          | (go_at_call 17; refine (unhideC UB2 _ _ (unhideC HM) _).mono ?_; rintro e wb ⟨rfl, hx2⟩))
        go_wp2_with fail
        go_ret
        exact ⟨rfl, Below.next (Below.next hb3.drew hx1) hx2⟩
    · have hz2 : (0 : Int) < (cap : Int) := by omega
      by_cases c1 : 0 < many
      all_goals
        go_enter Try.func6, Try.ntmps6
        go_wp2_with fail
        refine (unhideC AW _).mono ?_
        rintro e w1 ⟨rfl, hb1⟩
        go_wp2_with fail
        refine wp_loop_rounds 1 ?_
        rw [rounds_succ]
        go_wp2_with fail
        refine (unhideC UB2 _ _ (unhideC HM) _).mono ?_
        rintro e w2 ⟨rfl, hb2⟩
        have hb3 := Below.next hb1 hb2
        clear hb1 hb2
        have tok1 : True := trivial
        go_wp2_with fail
        go_region_held3 (fun _ => True) (trivial) (first
          | (go_at_call 17; have _t := tok1; refine (unhideC UB2 _ _ (unhideC HM) _).mono ?_; rintro e wa ⟨rfl, hx1⟩; clear tok1)
          | (go_at_call 17; refine (unhideC UB2 _ _ ?_ _).mono ?_; (have := unhideC HM; omega); rintro e wb ⟨rfl, hx2⟩))
        go_wp2_with fail
        go_ret
        exact ⟨rfl, Below.next (Below.next hb3.drew hx1) hx2⟩

theorem utfUnits_walk (a : Option Addr) (len cap : Nat) (l : List Int) (many : Int) (w : World) (h : Bs w a len cap l) (hn : a = none → cap = 0) (hm : many ≤ 9223372036854775807) :
    Calls Try.prog 6 #[.slice a len cap, .int .i64 many] w fun e w' => e = .returned (.bool true) ∧ Below w.heap.size w w' := by
  by_cases hp : 1 ≤ len
  · obtain ⟨b, off, rfl, hb⟩ := h.open hp
    exact utfUnits_walk1 b off len cap l many w hb hm
  · obtain rfl : len = 0 := by omega
    exact utfUnits_walk0 a cap many w h.hmax hn hm
end Go.Proofs.Ytfppnpophinniaa
