/- The walk of the statement UtfBack. -/
import Derived.Test.YtfppnpophinniaaUtfJoin
import Derived.Test.YtfppnpophinniaaUtfOrder
import Derived.Test.YtfppnpophinniaaUtfUnitsLaw
import Derived.Deep.QuietTactic
import Derived.BigQuiet
namespace Go.Proofs.Ytfppnpophinniaa
open Go.RowKit
set_option linter.unusedVariables false

theorem nx_cases {l : List Int} (hb : U.isBytes l) (at' : Int) :
    ((at' < 0 ∨ (l.length : Int) ≤ at') ∧ nx l at' = (-1, 0)) ∨ ((0 ≤ at' ∧ at' < l.length) ∧ nx l at' = (-1, 1)) ∨
    ∃ (n : Nat) (r : Int), at' = n ∧ n < l.length ∧ U.mayB r = true ∧ nx l at' = (r, (U.putL r).length) ∧ (l.drop n).take (U.putL r).length = U.putL r ∧ (U.putL r).length ≤ l.length - n := by
  unfold nx
  by_cases h : at' < 0 ∨ (l.length : Int) ≤ at'
  · rw [if_pos h]; exact .inl ⟨h, rfl⟩
  · rw [if_neg h]
    have hne : l.drop at'.toNat ≠ [] := by intro e; have := congrArg List.length e; rw [List.length_drop, List.length_nil] at this; omega
    rcases U.next_cases (U.isBytes_drop hb at'.toNat) with ⟨e, _⟩ | ⟨_, e⟩ | ⟨r, a, e, t, d⟩
    · exact absurd e hne
    · exact .inr (.inl ⟨by omega, e⟩)
    · rw [List.length_drop] at d
      exact .inr (.inr ⟨at'.toNat, r, by omega, by omega, a, e, t, d⟩)

theorem nx_put {r : Int} (h : U.mayB r = true) (s : List Int) : nx (U.putL r ++ s) 0 = (r, (U.putL r).length) := by
  have := (U.putL_len r).1
  unfold nx
  rw [if_neg (by rw [List.length_append]; omega)]
  exact U.next_put h s

/-- what is put, with whatever stands behind, read again out of a row of the call's own -/
theorem next_own {w : World} {base : Nat} {v : Value} {n : Nat} {r : Int} {s : List Int} (hr : U.mayB r = true) (hs : U.isBytes s) (ho : w.ownsRow base 5 1 v n ((U.putL r ++ s).map (Value.int .u8))) :
    ∃ a' cap', v = .slice a' n cap' ∧ Calls Try.prog 13 #[.slice a' n cap', .int .i64 0] w fun e w'' => e = .returned (.tuple #[.int .i64 r, .int .i64 (U.putL r).length]) ∧ Below w.heap.size w w'' := by
  have hb : U.isBytes (U.putL r ++ s) := fun z hz => by
    rcases List.mem_append.1 hz with h | h
    · exact U.putL_bytes hr z h
    · exact hs z h
  obtain ⟨a', cap', rfl, h⟩ := Bs.ofOwn hb ho
  have := next_any _ _ _ _ _ h 0
  rw [nx_put hr] at this
  exact ⟨a', cap', rfl, this⟩

theorem Bs.news {w : World} {ad : Addr} {len cap : Nat} {l : List Int} (h : Bs w (some ad) len cap l) : ∀ j u, (l.map (Value.int .u8))[j]? = some u → w.cell? (ad.add j) = some u := by
  intro j u hj
  have hlt : j < l.length := by
    have := (List.getElem?_eq_some_iff.1 hj).1
    simpa using this
  obtain ⟨b, off, e, hc⟩ := h.hcell j (by rw [← h.hlen]; exact hlt)
  injection e with e
  subst e
  rw [Addr.add_lit, hc]
  simp [hlt] at hj
  rw [← hj]
  simp [List.getD, hlt]

set_option maxHeartbeats 4000000 in
theorem utfBack_walk (r : Int) (a : Option Addr) (len cap : Nat) (l : List Int) (at' : Int) (w : World) (h : Bs w a len cap l) (hn : a = none → cap = 0) :
    Calls Try.prog 4 #[.int .i64 r, .slice a len cap, .int .i64 at'] w fun e w' => e = .returned (.bool true) ∧ Below w.heap.size w w' := by
  have AW := hideC awake_any
  have MA := hideC (may_any r)
  have hmax := h.hmax
  have hcap := h.hcap
  unfold maxLen at hmax
  by_cases h1 : 300 < len
  · go_enter Try.func4, Try.ntmps4
    go_wp2_with fail
    refine (unhideC AW _).mono ?_
    rintro e w1 ⟨rfl, hb1⟩
    go_wp2_with fail
    go_ret
    exact ⟨rfl, hb1⟩
  have NX := hideC (fun (w' : World) (hw : Below w.heap.size w w') => next_any _ _ _ l w' (h.later hw (Nat.le_refl _)) at')
  have hl := h.hlen
  have H := hideC h
  cases hr : U.mayB r
  · have PN := hideC (fun w => put_no r w hr)
    rw [hr] at MA
    clear hr
    rcases nx_cases h.hbytes at' with ⟨o, e⟩ | ⟨o, e⟩ | ⟨n, q, rfl, hnl, hq, e, ht, hd⟩
    · rw [e] at NX
      rw [hl] at o
      clear e hl h
      by_cases o1 : at' < 0
      · clear o
        go_enter Try.func4, Try.ntmps4
        go_wp2_with fail
        refine (unhideC AW _).mono ?_
        rintro e w1 ⟨rfl, hb1⟩
        go_wp2_with fail
        refine (unhideC PN _).mono ?_
        rintro e w2 ⟨rfl, rfl⟩
        go_wp2_with fail
        refine (unhideC MA _).mono ?_
        rintro e w2 ⟨rfl, rfl⟩
        have hbA := hb1
        go_wp2_with fail
        refine (unhideC NX _ hbA).mono ?_
        rintro e w3 ⟨rfl, hb3⟩
        have hbB := Below.next hbA hb3
        go_wp2_with fail
        go_ret
        exact ⟨rfl, hbB⟩
      · have o2 : (len : Int) ≤ at' := by omega
        have o3 : decide (at' < (len : Int)) = false := by simp; omega
        clear o
        go_enter Try.func4, Try.ntmps4
        go_wp2_with fail
        refine (unhideC AW _).mono ?_
        rintro e w1 ⟨rfl, hb1⟩
        go_wp2_with fail
        refine (unhideC PN _).mono ?_
        rintro e w2 ⟨rfl, rfl⟩
        go_wp2_with fail
        refine (unhideC MA _).mono ?_
        rintro e w2 ⟨rfl, rfl⟩
        have hbA := hb1
        go_wp2_with fail
        refine (unhideC NX _ hbA).mono ?_
        rintro e w3 ⟨rfl, hb3⟩
        have hbB := Below.next hbA hb3
        go_wp2_with fail
        go_ret
        exact ⟨rfl, hbB⟩
    · rw [e] at NX
      rw [hl] at o
      clear e hl h
      obtain ⟨o1, o2⟩ := o
      go_enter Try.func4, Try.ntmps4
      go_wp2_with fail
      refine (unhideC AW _).mono ?_
      rintro e w1 ⟨rfl, hb1⟩
      go_wp2_with fail
      refine (unhideC PN _).mono ?_
      rintro e w2 ⟨rfl, rfl⟩
      go_wp2_with fail
      refine (unhideC MA _).mono ?_
      rintro e w2 ⟨rfl, rfl⟩
      have hbA := hb1
      go_wp2_with fail
      refine (unhideC NX _ hbA).mono ?_
      rintro e w3 ⟨rfl, hb3⟩
      have hbB := Below.next hbA hb3
      go_wp2_with fail
      go_ret
      exact ⟨rfl, hbB⟩
    · rw [e] at NX
      rw [hl] at hnl hd
      clear e
      obtain ⟨b, off, rfl, hb⟩ := h.open (by omega)
      have hdr := hb.drop n hnl
      have hfr := hdr.toBs.front (U.putL q).length hd
      rw [ht] at hfr
      have qb := (U.may_iff q).1 hq
      have PQ := hideC (fun w => put_yes q w hq)
      unfold putVal at PQ
      have pq := U.putL_len q
      have cvq : ∀ (wx : World) (k : Nat), (convert 22 9 (.slice (some ⟨wx.heap.size, 0, none⟩) (U.putL q).length (U.putL q).length)).run Try.prog ((wx.alloc (putObj q)).drewN k) = .ok (.string (strOfNums (U.putL q))) ((wx.alloc (putObj q)).drewN k) := fun wx k =>
        ((put_bs q hq wx).later (below_drewN (Below.refl _ _) k) (Nat.le_refl _)).str
      have CVB := hideC (fun (wx : World) (hx : Below w.heap.size w wx) => (hfr.later hx (Nat.le_refl _)).str)
      have eq1 : ((strOfNums (U.putL q)).toList == (strOfNums (U.putL q)).toList) = true := by simp
      have q0 : ¬ q < 0 := by omega
      have wr1 := wrapI ((n : Int) + ((U.putL q).length : Int)) (by omega)
      have wr2 := wrapI ((len : Int) - (n : Int)) (by omega)
      have g1 : ((U.putL q).length : Int) ≤ (len : Int) - (n : Int) := by omega
      have g2 : (0 : Int) ≤ (n : Int) := by omega
      have tn : ((n : Int) + ((U.putL q).length : Int)).toNat = n + (U.putL q).length := by omega
      have tn2 : n + (U.putL q).length - n = (U.putL q).length := by omega
      have g3 : (n : Int) ≤ (n : Int) + ((U.putL q).length : Int) := by omega
      have g4 : (n : Int) + ((U.putL q).length : Int) ≤ (cap : Int) := by omega
      clear h hb hdr hfr ht hd hl hq qb
      generalize (U.putL q).length = m at *
      generalize strOfNums (U.putL q) = sq at *
      generalize putObj q = oq at *
      go_enter Try.func4, Try.ntmps4
      go_wp2_with fail
      refine (unhideC AW _).mono ?_
      rintro e w1 ⟨rfl, hb1⟩
      go_wp2_with fail
      refine (unhideC PN _).mono ?_
      rintro e w2 ⟨rfl, rfl⟩
      go_wp2_with fail
      refine (unhideC MA _).mono ?_
      rintro e w2 ⟨rfl, rfl⟩
      have hbA := hb1
      go_wp2_with fail
      refine (unhideC NX _ hbA).mono ?_
      rintro e w3 ⟨rfl, hb3⟩
      have hbB := Below.next hbA hb3
      have cvb := fun k : Nat => unhideC CVB ((w3.alloc oq).drewN k) (below_drewN (hbB.alloc hbB.size _) k)
      go_wp2_with fail
      refine (unhideC PQ _).mono ?_
      rintro e w4 ⟨rfl, rfl⟩
      go_wp2_with fail
      go_quiet (fail)
      go_wp2_with fail
      go_ret
      exact ⟨rfl, below_drewN (hbB.alloc hbB.size _) _⟩
  · have PY := hideC (fun w => put_yes r w hr)
    unfold putVal at PY
    rw [hr] at MA
    obtain ⟨ti, hi, hz0, hz1, hz2⟩ := info_parts info_byte
    have lrp := U.putL_len r
    have NW := hideC (fun w => news_put w r)
    have HLM := hideC hl
    cases a with
    | some ad =>
      have NB := hideC (fun (w' : World) (hw : Below w.heap.size w w') => (h.later hw (Nat.le_refl _)).news)
      have N0 : Hid (∀ (w' : World) (v : Value), w'.ownsRow w.heap.size 5 1 v ((U.putL r).length + len) ((U.putL r).map (Value.int .u8) ++ l.map (Value.int .u8)) → ∃ a' cap', v = .slice a' ((U.putL r).length + len) cap' ∧ Calls Try.prog 13 #[.slice a' ((U.putL r).length + len) cap', .int .i64 0] w' fun e w'' => e = .returned (.tuple #[.int .i64 r, .int .i64 (U.putL r).length]) ∧ Below w'.heap.size w' w'') := hideC (fun w' v ho => next_own hr h.hbytes (by rw [List.map_append]; exact ho))
      generalize hlr : U.putL r = lr at *
      clear hlr
      obtain ⟨nr, lrn⟩ : ∃ nr, nr = lr.length := ⟨_, rfl⟩
      rw [← lrn] at PY N0 lrp
      have LRN := hideC lrn
      clear lrn
      clear hr
      rcases nx_cases h.hbytes at' with ⟨o, e⟩ | ⟨o, e⟩ | ⟨n, q, rfl, hnl, hq, e, ht, hd⟩
      · rw [e] at NX
        rw [hl] at o
        clear e hl h
        by_cases o1 : at' < 0
        · clear o
          go_enter Try.func4, Try.ntmps4
          go_wp2_with fail
          refine (unhideC AW _).mono ?_
          rintro e w1 ⟨rfl, hb1⟩
          go_wp2_with fail
          refine (unhideC PY _).mono ?_
          rintro e w2 ⟨rfl, rfl⟩
          go_wp2_with fail
          refine (unhideC MA _).mono ?_
          rintro e w2 ⟨rfl, rfl⟩
          have hbs := hb1.size
          have tok1 : True := trivial
          go_wp2_with (at_builtin; have _t := tok1; refine wpList_append_own _ rfl _ _ _ rfl w.heap.size 5 ti (.int .u8 0) 1 1 Try.underlying22 hi hz0 hz1 hz2 rfl (by omega) _ 0 [] rfl (World.ownsRow_nil _ _ _ _) ⟨w1.heap.size, 0, none⟩ nr nr (lr.map (Value.int .u8)) rfl (by rw [List.length_map, Nat.mul_one]; exact (unhideC LRN).symm) (unhideC NW w1) (ints_oneCell _ _) (by unfold maxLen; omega) (by omega) (by simp; omega) ?_; clear tok1)
          intro v1 wa own1 grow1 hnil1
          have hbw := (hb1.alloc hbs _).grown grow1 (by simp; omega) (by intro k hk; simp [Value.ownBlock] at hk)
          have hba := hbw.size
          clear hnil1 grow1
          go_wp2_with (at_builtin; refine wpList_append_own _ rfl _ _ _ rfl w.heap.size 5 ti (.int .u8 0) 1 1 Try.underlying22 hi hz0 hz1 hz2 rfl (by omega) _ nr (lr.map (Value.int .u8)) rfl own1 ad len cap (l.map (Value.int .u8)) rfl (by rw [List.length_map, Nat.mul_one]; exact unhideC HLM) (unhideC NB _ hbw) (ints_oneCell _ _) (by unfold maxLen; omega) (by omega) (by omega) ?_)
          intro v2 wb own2 grow2 hnil2
          have hbx := hbw.grown grow2 (by omega) (by intro k hk; exact (own1.lt k hk).1)
          clear hnil2 grow2
          clear own1
          have N1 := hideC (unhideC N0 _ _ own2)
          obtain ⟨a', cap', hv2, hN⟩ := unhideC N1
          have hN2 := hideC hN
          rw [hv2]
          clear hN hv2 N1 own2
          go_wp2_with fail
          refine (unhideC hN2).mono ?_
          rintro e wn ⟨rfl, hbn⟩
          have hbA := Below.next hbx hbn
          clear hbn hbx hbw
          go_wp2_with fail
          refine (unhideC NX _ hbA).mono ?_
          rintro e w3 ⟨rfl, hb3⟩
          have hbB := Below.next hbA hb3
          go_wp2_with fail
          go_ret
          exact ⟨rfl, hbB⟩
        · have o2 : (len : Int) ≤ at' := by omega
          have o3 : decide (at' < (len : Int)) = false := by simp; omega
          clear o
          go_enter Try.func4, Try.ntmps4
          go_wp2_with fail
          refine (unhideC AW _).mono ?_
          rintro e w1 ⟨rfl, hb1⟩
          go_wp2_with fail
          refine (unhideC PY _).mono ?_
          rintro e w2 ⟨rfl, rfl⟩
          go_wp2_with fail
          refine (unhideC MA _).mono ?_
          rintro e w2 ⟨rfl, rfl⟩
          have hbs := hb1.size
          have tok1 : True := trivial
          go_wp2_with (at_builtin; have _t := tok1; refine wpList_append_own _ rfl _ _ _ rfl w.heap.size 5 ti (.int .u8 0) 1 1 Try.underlying22 hi hz0 hz1 hz2 rfl (by omega) _ 0 [] rfl (World.ownsRow_nil _ _ _ _) ⟨w1.heap.size, 0, none⟩ nr nr (lr.map (Value.int .u8)) rfl (by rw [List.length_map, Nat.mul_one]; exact (unhideC LRN).symm) (unhideC NW w1) (ints_oneCell _ _) (by unfold maxLen; omega) (by omega) (by simp; omega) ?_; clear tok1)
          intro v1 wa own1 grow1 hnil1
          have hbw := (hb1.alloc hbs _).grown grow1 (by simp; omega) (by intro k hk; simp [Value.ownBlock] at hk)
          have hba := hbw.size
          clear hnil1 grow1
          go_wp2_with (at_builtin; refine wpList_append_own _ rfl _ _ _ rfl w.heap.size 5 ti (.int .u8 0) 1 1 Try.underlying22 hi hz0 hz1 hz2 rfl (by omega) _ nr (lr.map (Value.int .u8)) rfl own1 ad len cap (l.map (Value.int .u8)) rfl (by rw [List.length_map, Nat.mul_one]; exact unhideC HLM) (unhideC NB _ hbw) (ints_oneCell _ _) (by unfold maxLen; omega) (by omega) (by omega) ?_)
          intro v2 wb own2 grow2 hnil2
          have hbx := hbw.grown grow2 (by omega) (by intro k hk; exact (own1.lt k hk).1)
          clear hnil2 grow2
          clear own1
          have N1 := hideC (unhideC N0 _ _ own2)
          obtain ⟨a', cap', hv2, hN⟩ := unhideC N1
          have hN2 := hideC hN
          rw [hv2]
          clear hN hv2 N1 own2
          go_wp2_with fail
          refine (unhideC hN2).mono ?_
          rintro e wn ⟨rfl, hbn⟩
          have hbA := Below.next hbx hbn
          clear hbn hbx hbw
          go_wp2_with fail
          refine (unhideC NX _ hbA).mono ?_
          rintro e w3 ⟨rfl, hb3⟩
          have hbB := Below.next hbA hb3
          go_wp2_with fail
          go_ret
          exact ⟨rfl, hbB⟩
      · rw [e] at NX
        rw [hl] at o
        clear e hl h
        obtain ⟨o1, o2⟩ := o
        go_enter Try.func4, Try.ntmps4
        go_wp2_with fail
        refine (unhideC AW _).mono ?_
        rintro e w1 ⟨rfl, hb1⟩
        go_wp2_with fail
        refine (unhideC PY _).mono ?_
        rintro e w2 ⟨rfl, rfl⟩
        go_wp2_with fail
        refine (unhideC MA _).mono ?_
        rintro e w2 ⟨rfl, rfl⟩
        have hbs := hb1.size
        have tok1 : True := trivial
        go_wp2_with (at_builtin; have _t := tok1; refine wpList_append_own _ rfl _ _ _ rfl w.heap.size 5 ti (.int .u8 0) 1 1 Try.underlying22 hi hz0 hz1 hz2 rfl (by omega) _ 0 [] rfl (World.ownsRow_nil _ _ _ _) ⟨w1.heap.size, 0, none⟩ nr nr (lr.map (Value.int .u8)) rfl (by rw [List.length_map, Nat.mul_one]; exact (unhideC LRN).symm) (unhideC NW w1) (ints_oneCell _ _) (by unfold maxLen; omega) (by omega) (by simp; omega) ?_; clear tok1)
        intro v1 wa own1 grow1 hnil1
        have hbw := (hb1.alloc hbs _).grown grow1 (by simp; omega) (by intro k hk; simp [Value.ownBlock] at hk)
        have hba := hbw.size
        clear hnil1 grow1
        go_wp2_with (at_builtin; refine wpList_append_own _ rfl _ _ _ rfl w.heap.size 5 ti (.int .u8 0) 1 1 Try.underlying22 hi hz0 hz1 hz2 rfl (by omega) _ nr (lr.map (Value.int .u8)) rfl own1 ad len cap (l.map (Value.int .u8)) rfl (by rw [List.length_map, Nat.mul_one]; exact unhideC HLM) (unhideC NB _ hbw) (ints_oneCell _ _) (by unfold maxLen; omega) (by omega) (by omega) ?_)
        intro v2 wb own2 grow2 hnil2
        have hbx := hbw.grown grow2 (by omega) (by intro k hk; exact (own1.lt k hk).1)
        clear hnil2 grow2
        clear own1
        have N1 := hideC (unhideC N0 _ _ own2)
        obtain ⟨a', cap', hv2, hN⟩ := unhideC N1
        have hN2 := hideC hN
        rw [hv2]
        clear hN hv2 N1 own2
        go_wp2_with fail
        refine (unhideC hN2).mono ?_
        rintro e wn ⟨rfl, hbn⟩
        have hbA := Below.next hbx hbn
        clear hbn hbx hbw
        go_wp2_with fail
        refine (unhideC NX _ hbA).mono ?_
        rintro e w3 ⟨rfl, hb3⟩
        have hbB := Below.next hbA hb3
        go_wp2_with fail
        go_ret
        exact ⟨rfl, hbB⟩
      · rw [e] at NX
        rw [hl] at hnl hd
        clear e
        obtain ⟨b, off, had, hb⟩ := h.open (by omega)
        injection had with had
        subst had
        have hdr := hb.drop n hnl
        have hfr := hdr.toBs.front (U.putL q).length hd
        rw [ht] at hfr
        have qb := (U.may_iff q).1 hq
        have PQ := hideC (fun w => put_yes q w hq)
        unfold putVal at PQ
        have pq := U.putL_len q
        have cvq : ∀ (wx : World) (k : Nat), (convert 22 9 (.slice (some ⟨wx.heap.size, 0, none⟩) (U.putL q).length (U.putL q).length)).run Try.prog ((wx.alloc (putObj q)).drewN k) = .ok (.string (strOfNums (U.putL q))) ((wx.alloc (putObj q)).drewN k) := fun wx k =>
          ((put_bs q hq wx).later (below_drewN (Below.refl _ _) k) (Nat.le_refl _)).str
        have CVB := hideC (fun (wx : World) (hx : Below w.heap.size w wx) => (hfr.later hx (Nat.le_refl _)).str)
        have eq1 : ((strOfNums (U.putL q)).toList == (strOfNums (U.putL q)).toList) = true := by simp
        have q0 : ¬ q < 0 := by omega
        have wr1 := wrapI ((n : Int) + ((U.putL q).length : Int)) (by omega)
        have wr2 := wrapI ((len : Int) - (n : Int)) (by omega)
        have g1 : ((U.putL q).length : Int) ≤ (len : Int) - (n : Int) := by omega
        have g2 : (0 : Int) ≤ (n : Int) := by omega
        have tn : ((n : Int) + ((U.putL q).length : Int)).toNat = n + (U.putL q).length := by omega
        have tn2 : n + (U.putL q).length - n = (U.putL q).length := by omega
        have g3 : (n : Int) ≤ (n : Int) + ((U.putL q).length : Int) := by omega
        have g4 : (n : Int) + ((U.putL q).length : Int) ≤ (cap : Int) := by omega
        clear h hb hdr hfr ht hd hl hq qb
        generalize (U.putL q).length = m at *
        generalize strOfNums (U.putL q) = sq at *
        generalize putObj q = oq at *
        go_enter Try.func4, Try.ntmps4
        go_wp2_with fail
        refine (unhideC AW _).mono ?_
        rintro e w1 ⟨rfl, hb1⟩
        go_wp2_with fail
        refine (unhideC PY _).mono ?_
        rintro e w2 ⟨rfl, rfl⟩
        go_wp2_with fail
        refine (unhideC MA _).mono ?_
        rintro e w2 ⟨rfl, rfl⟩
        have hbs := hb1.size
        have tok1 : True := trivial
        go_wp2_with (at_builtin; have _t := tok1; refine wpList_append_own _ rfl _ _ _ rfl w.heap.size 5 ti (.int .u8 0) 1 1 Try.underlying22 hi hz0 hz1 hz2 rfl (by omega) _ 0 [] rfl (World.ownsRow_nil _ _ _ _) ⟨w1.heap.size, 0, none⟩ nr nr (lr.map (Value.int .u8)) rfl (by rw [List.length_map, Nat.mul_one]; exact (unhideC LRN).symm) (unhideC NW w1) (ints_oneCell _ _) (by unfold maxLen; omega) (by omega) (by simp; omega) ?_; clear tok1)
        intro v1 wa own1 grow1 hnil1
        have hbw := (hb1.alloc hbs _).grown grow1 (by simp; omega) (by intro k hk; simp [Value.ownBlock] at hk)
        have hba := hbw.size
        clear hnil1 grow1
        go_wp2_with (at_builtin; refine wpList_append_own _ rfl _ _ _ rfl w.heap.size 5 ti (.int .u8 0) 1 1 Try.underlying22 hi hz0 hz1 hz2 rfl (by omega) _ nr (lr.map (Value.int .u8)) rfl own1 ⟨b, off, none⟩ len cap (l.map (Value.int .u8)) rfl (by rw [List.length_map, Nat.mul_one]; exact unhideC HLM) (unhideC NB _ hbw) (ints_oneCell _ _) (by unfold maxLen; omega) (by omega) (by omega) ?_)
        intro v2 wb own2 grow2 hnil2
        have hbx := hbw.grown grow2 (by omega) (by intro k hk; exact (own1.lt k hk).1)
        clear hnil2 grow2
        clear own1
        have N1 := hideC (unhideC N0 _ _ own2)
        obtain ⟨a', cap', hv2, hN⟩ := unhideC N1
        have hN2 := hideC hN
        rw [hv2]
        clear hN hv2 N1 own2
        go_wp2_with fail
        refine (unhideC hN2).mono ?_
        rintro e wn ⟨rfl, hbn⟩
        have hbA := Below.next hbx hbn
        clear hbn hbx hbw
        go_wp2_with fail
        refine (unhideC NX _ hbA).mono ?_
        rintro e w3 ⟨rfl, hb3⟩
        have hbB := Below.next hbA hb3
        have cvb := fun k : Nat => unhideC CVB ((w3.alloc oq).drewN k) (below_drewN (hbB.alloc hbB.size _) k)
        go_wp2_with fail
        refine (unhideC PQ _).mono ?_
        rintro e w4 ⟨rfl, rfl⟩
        go_wp2_with fail
        go_quiet (fail)
        go_wp2_with fail
        go_ret
        exact ⟨rfl, below_drewN (hbB.alloc hbB.size _) _⟩

    | none =>
      have hcap0 := hn rfl
      have h0 : len = 0 := by
        by_cases hp : 1 ≤ len
        · obtain ⟨b, off, hx, _⟩ := h.hcell 0 (by omega)
          cases hx
        · omega
      subst hcap0
      subst h0
      have N0 : Hid (∀ (w' : World) (v : Value), w'.ownsRow w.heap.size 5 1 v (U.putL r).length ((U.putL r).map (Value.int .u8)) → ∃ a' cap', v = .slice a' (U.putL r).length cap' ∧ Calls Try.prog 13 #[.slice a' (U.putL r).length cap', .int .i64 0] w' fun e w'' => e = .returned (.tuple #[.int .i64 r, .int .i64 (U.putL r).length]) ∧ Below w'.heap.size w' w'') := hideC (fun w' v ho => next_own (s := []) hr (fun z hz => by simp at hz) (by rw [List.append_nil]; exact ho))
      generalize hlr : U.putL r = lr at *
      clear hlr
      obtain ⟨nr, lrn⟩ : ∃ nr, nr = lr.length := ⟨_, rfl⟩
      rw [← lrn] at PY N0 lrp
      have LRN := hideC lrn
      clear lrn
      clear hr
      rcases nx_cases h.hbytes at' with ⟨o, e⟩ | ⟨o, e⟩ | ⟨n, q, rfl, hnl, hq, e, ht, hd⟩
      · rw [e] at NX
        rw [hl] at o
        clear e hl h
        by_cases o1 : at' < 0
        · clear o
          go_enter Try.func4, Try.ntmps4
          go_wp2_with fail
          refine (unhideC AW _).mono ?_
          rintro e w1 ⟨rfl, hb1⟩
          go_wp2_with fail
          refine (unhideC PY _).mono ?_
          rintro e w2 ⟨rfl, rfl⟩
          go_wp2_with fail
          refine (unhideC MA _).mono ?_
          rintro e w2 ⟨rfl, rfl⟩
          have hbs := hb1.size
          have tok1 : True := trivial
          go_wp2_with (at_builtin; have _t := tok1; refine wpList_append_own _ rfl _ _ _ rfl w.heap.size 5 ti (.int .u8 0) 1 1 Try.underlying22 hi hz0 hz1 hz2 rfl (by omega) _ 0 [] rfl (World.ownsRow_nil _ _ _ _) ⟨w1.heap.size, 0, none⟩ nr nr (lr.map (Value.int .u8)) rfl (by rw [List.length_map, Nat.mul_one]; exact (unhideC LRN).symm) (unhideC NW w1) (ints_oneCell _ _) (by unfold maxLen; omega) (by omega) (by simp; omega) ?_; clear tok1)
          intro v1 wa own1 grow1 hnil1
          have hbw := (hb1.alloc hbs _).grown grow1 (by simp; omega) (by intro k hk; simp [Value.ownBlock] at hk)
          have hba := hbw.size
          clear hnil1 grow1
          go_wp2_with (at_builtin; refine wpList_append_none _ rfl _ _ _ rfl w.heap.size 5 ti 1 Try.underlying22 hi _ _ _ rfl own1 rfl ?_)
          have own2 := own1
          have hbx := hbw
          clear own1
          have N1 := hideC (unhideC N0 _ _ own2)
          obtain ⟨a', cap', hv2, hN⟩ := unhideC N1
          have hN2 := hideC hN
          rw [hv2]
          clear hN hv2 N1 own2
          go_wp2_with fail
          refine (unhideC hN2).mono ?_
          rintro e wn ⟨rfl, hbn⟩
          have hbA := Below.next hbx hbn
          clear hbn hbx hbw
          go_wp2_with fail
          refine (unhideC NX _ hbA).mono ?_
          rintro e w3 ⟨rfl, hb3⟩
          have hbB := Below.next hbA hb3
          go_wp2_with fail
          go_ret
          exact ⟨rfl, hbB⟩
        · have o2 : (0 : Int) ≤ at' := by omega
          have o3 : decide (at' < (0 : Int)) = false := by simp; omega
          clear o
          go_enter Try.func4, Try.ntmps4
          go_wp2_with fail
          refine (unhideC AW _).mono ?_
          rintro e w1 ⟨rfl, hb1⟩
          go_wp2_with fail
          refine (unhideC PY _).mono ?_
          rintro e w2 ⟨rfl, rfl⟩
          go_wp2_with fail
          refine (unhideC MA _).mono ?_
          rintro e w2 ⟨rfl, rfl⟩
          have hbs := hb1.size
          have tok1 : True := trivial
          go_wp2_with (at_builtin; have _t := tok1; refine wpList_append_own _ rfl _ _ _ rfl w.heap.size 5 ti (.int .u8 0) 1 1 Try.underlying22 hi hz0 hz1 hz2 rfl (by omega) _ 0 [] rfl (World.ownsRow_nil _ _ _ _) ⟨w1.heap.size, 0, none⟩ nr nr (lr.map (Value.int .u8)) rfl (by rw [List.length_map, Nat.mul_one]; exact (unhideC LRN).symm) (unhideC NW w1) (ints_oneCell _ _) (by unfold maxLen; omega) (by omega) (by simp; omega) ?_; clear tok1)
          intro v1 wa own1 grow1 hnil1
          have hbw := (hb1.alloc hbs _).grown grow1 (by simp; omega) (by intro k hk; simp [Value.ownBlock] at hk)
          have hba := hbw.size
          clear hnil1 grow1
          go_wp2_with (at_builtin; refine wpList_append_none _ rfl _ _ _ rfl w.heap.size 5 ti 1 Try.underlying22 hi _ _ _ rfl own1 rfl ?_)
          have own2 := own1
          have hbx := hbw
          clear own1
          have N1 := hideC (unhideC N0 _ _ own2)
          obtain ⟨a', cap', hv2, hN⟩ := unhideC N1
          have hN2 := hideC hN
          rw [hv2]
          clear hN hv2 N1 own2
          go_wp2_with fail
          refine (unhideC hN2).mono ?_
          rintro e wn ⟨rfl, hbn⟩
          have hbA := Below.next hbx hbn
          clear hbn hbx hbw
          go_wp2_with fail
          refine (unhideC NX _ hbA).mono ?_
          rintro e w3 ⟨rfl, hb3⟩
          have hbB := Below.next hbA hb3
          go_wp2_with fail
          go_ret
          exact ⟨rfl, hbB⟩
      · rw [hl] at o; simp at o; omega
      · rw [hl] at hnl; omega

end Go.Proofs.Ytfppnpophinniaa
