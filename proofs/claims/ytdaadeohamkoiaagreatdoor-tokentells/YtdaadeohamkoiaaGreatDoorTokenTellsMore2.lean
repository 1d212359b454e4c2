/- Parts of the proof that stand ahead of it. -/
import Derived.Test.YtdaadeohamkoiaaGreatDoorTokenTellsMore1
import Derived.Test.YtdaadeohamkoiaaGreatDoorRgSets
import Derived.Test.YtdaadeohamkoiaaGreatDoorRgSame
import Derived.Test.YtdaadeohamkoiaaGreatDoorTkJ
import Derived.Test.YtdaadeohamkoiaaGreatDoorTkN
import Derived.Test.YtdaadeohamkoiaaGreatDoorTkLaws
import Derived.Test.YtdaadeohamkoiaaGreatDoorTkK
/- The contract of the document's answer to May. -/
namespace Go.Proofs.YtdaadeohamkoiaaGreatDoor
open Go.RowKit
set_option linter.unusedVariables false

theorem may_step {l : List (Int × Int)} {k : Nat} {lo hi : Int} (ht : l.take (k + 1) = l.take k ++ [(lo, hi)]) : G.mayB (l.take (k + 1)) = true ↔ G.mayB (l.take k) = true ∧ G.endOf 0 (l.take k) ≤ lo ∧ lo ≤ hi ∧ hi ≤ 1114111 := by
  rw [ht, G.may_snoc]
theorem may_not {l : List (Int × Int)} {k : Nat} (h : ¬ G.mayB (l.take k) = true) : G.mayB l = false := by
  cases e : G.mayB l with
  | false => rfl
  | true => exact absurd (may_take e k) h

theorem end_nonneg {l : List (Int × Int)} (h : G.mayB l = true) : 0 ≤ G.endOf 0 l := by
  rcases List.eq_nil_or_concat l with e | ⟨o, r, e⟩
  · rw [e]; exact Int.le_refl _
  · rw [List.concat_eq_append] at e
    have := G.may_mem h (r := r) (by rw [e]; simp)
    rw [e, G.endOf_append]; omega

set_option maxRecDepth 20000 in
set_option maxHeartbeats 2000000 in
theorem rgRefMay_any (a : Option Addr) (len cap : Nat) (l : List (Int × Int)) (w : World) (h : Rs w a len cap l) :
    Calls Tryz.prog 28 #[.slice a len cap] w fun e w' => e = .returned (.bool (G.mayB l)) ∧ Below w.heap.size w w' := by
  have hl := h.hlen
  have hmax := h.hmax
  have hcap := h.hcap
  unfold maxLen at hmax
  go_enter Tryz.func28, Tryz.ntmps28
  go_wp2
  go_loopw [3] (fun i wr => ∃ (k : Nat), k ≤ len ∧ i = .int .i64 k ∧ Hid (G.mayB (l.take k) = true) ∧ Hid (∃ d, wr = w.drewN d)) (fun i _ => len - (intOf i).toNat)
  case atStart => exact ⟨0, Nat.zero_le _, rfl, by show G.mayB _ = true; rfl, ⟨0, rfl⟩⟩
  case round =>
    obtain ⟨k, hk, rfl, hn, hw⟩ := hrel
    obtain ⟨d0, hw⟩ := hw
    have bw : Below w.heap.size w wr := by rw [hw]; exact draws_below
    have hw' := hideR hw
    clear hw
    by_cases hlt : k < len
    · obtain ⟨b, off, rfl, hr⟩ := (h.later bw (Nat.le_refl _)).open (by omega)
      obtain ⟨lo, hi, -, ht, f1, f2, c0, c1⟩ := hr.at k hlt
      unfold fits at f1 f2
      obtain ⟨f1a, f1b⟩ := f1
      obtain ⟨f2a, f2b⟩ := f2
      have k0 : ∀ d, (wr.drewN d).cell? ⟨b, off + k * 2, none⟩ = some (.int .i64 lo) := fun d => by simpa using c0
      have k1 : ∀ d, (wr.drewN d).cell? ⟨b, off + k * 2 + 1, none⟩ = some (.int .i64 hi) := fun d => by simpa using c1
      have ms := hideR (may_step ht)
      clear c0 c1 ht
      by_cases t1 : hi < lo
      · have fin := hideR (may_not (l := l) (k := k + 1) (fun e => by have := (unhideR ms).1 e; omega))
        have q1 : decide (hi < lo) = true := decide_eq_true t1
        clear hr
        go_wp2
        go_quiet (fail)
        go_wp2
        go_ret
        exact ⟨ret_bool (unhideR fin).symm, bw.trans draws_below⟩
      · have q1 : decide (hi < lo) = false := decide_eq_false t1
        by_cases t2 : lo < 0
        · have fin := hideR (may_not (l := l) (k := k + 1) (fun e => by have e2 := (unhideR ms).1 e; have e3 := end_nonneg e2.1; omega))
          have q2 : decide (lo < 0) = true := decide_eq_true t2
          clear hr
          go_wp2
          go_quiet (fail)
          go_wp2
          go_ret
          exact ⟨ret_bool (unhideR fin).symm, bw.trans draws_below⟩
        · have q2 : decide (lo < 0) = false := decide_eq_false t2
          by_cases t3 : 1114111 < hi
          · have fin := hideR (may_not (l := l) (k := k + 1) (fun e => by have := (unhideR ms).1 e; omega))
            have q3 : decide (1114111 < hi) = true := decide_eq_true t3
            clear hr
            go_wp2
            go_quiet (fail)
            go_wp2
            go_ret
            exact ⟨ret_bool (unhideR fin).symm, bw.trans draws_below⟩
          · have q3 : decide (1114111 < hi) = false := decide_eq_false t3
            cases k with
            | zero =>
              have st := hideR ((unhideR ms).2 ⟨hn.out, by simp [G.endOf]; omega, by omega, by omega⟩)
              simp only [Nat.zero_mul, Nat.add_zero] at k0 k1
              clear hr
              go_wp2
              go_quiet (fail)
              go_wp2
              go_roundw
              case rel => exact ⟨0 + 1, by omega, by go_num, unhideR st, ⟨d0 + nq, by rw [unhideR hw', World.drewN_drewN]⟩⟩
              case measure => simp [intOf]; omega
            | succ j =>
              obtain ⟨plo, phi, -, htp, g1, g2, e0, e1⟩ := hr.at j (by omega)
              have l1 : ∀ d, (wr.drewN d).cell? ⟨b, off + j * 2 + 1, none⟩ = some (.int .i64 phi) := fun d => by simpa using e1
              have eo : G.endOf 0 (l.take (j + 1)) = phi + 2 := by rw [htp, G.endOf_append]
              have pm := G.may_mem hn.out (r := (plo, phi)) (by rw [htp]; simp)
              simp only at pm
              obtain ⟨pm0, pm1, pm2⟩ := pm
              rw [eo] at ms
              clear htp g1 g2 e0 e1 eo hr
              by_cases t4 : lo < phi + 2
              · have fin := hideR (may_not (l := l) (k := j + 1 + 1) (fun e => by have := (unhideR ms).1 e; omega))
                go_wp2
                go_quiet (fail)
                go_wp2
                go_ret
                exact ⟨ret_bool (unhideR fin).symm, bw.trans draws_below⟩
              · have st := hideR ((unhideR ms).2 ⟨hn.out, by omega, by omega, by omega⟩)
                have t4' : phi + 2 ≤ lo := by omega
                go_wp2
                go_quiet (fail)
                go_wp2
                go_roundw
                case rel => exact ⟨j + 1 + 1, by omega, by go_num, unhideR st, ⟨d0 + nq, by rw [unhideR hw', World.drewN_drewN]⟩⟩
                case measure => simp [intOf]; omega
    · have fin : Hid (G.mayB l = true) := by
        have := hn.out
        rw [List.take_of_length_le (by omega)] at this
        exact this
      go_wp2
      go_ret
      exact ⟨ret_bool (unhideR fin).symm, bw⟩

end Go.Proofs.YtdaadeohamkoiaaGreatDoor

/- Contracts of the document's answers: Norm, Size, Both, Either, Less, Not. -/
namespace Go.Proofs.YtdaadeohamkoiaaGreatDoor
open Go.RowKit
set_option linter.unusedVariables false

theorem fits_m1 : fits (-1) := by unfold fits; omega

theorem isP_0 (high : Int) (x y : Bool) (n : Int) : isP 0 high x y n = (x || y) := rfl
theorem isP_1 (high : Int) (x y : Bool) (n : Int) : isP 1 high x y n = (x && y) := rfl
theorem isP_2 (high : Int) (x y : Bool) (n : Int) : isP 2 high x y n = (x && !y) := rfl
theorem isP_3 (high : Int) (x y : Bool) (n : Int) : isP 3 high x y n = (!x && decide (n ≤ high)) := rfl

set_option maxRecDepth 20000 in
set_option maxHeartbeats 400000 in
theorem refNormO_any (a : Option Addr) (la ca : Nat) (A : List (Int × Int)) (w : World) (ha : Rs w a la ca A) :
    Calls Tryz.prog 91 #[.slice a la ca] w (AnO w (nrm A)) := by
  have C1 := hideR (refOfO_any a la ca A none 0 0 [] 0 (-1) w ha (Rs.nil w) fits_m1)
  clear ha
  go_enter Tryz.func91, Tryz.ntmps91
  go_wp2_with fail
  refine (unhideR C1).mono ?_
  rintro e w1 ⟨v1, A1, rfl, r1, i1, b1⟩
  have i1' := hideR i1
  clear i1 C1
  go_wp2_with fail
  go_ret
  refine ⟨v1, A1, rfl, r1, (unhideR i1').congr fun n => ?_, b1⟩
  unfold ofP nrm
  rw [isP_0, G.hasB_nil, Bool.or_false]
theorem refNorm_any (a : Option Addr) (la ca : Nat) (A : List (Int × Int)) (w : World) (ha : Rs w a la ca A) :
    Calls Tryz.prog 91 #[.slice a la ca] w (An w (nrm A)) := (refNormO_any a la ca A w ha).mono fun _ _ h => h.an

set_option maxRecDepth 20000 in
set_option maxHeartbeats 400000 in
theorem refNotO_any (a : Option Addr) (la ca : Nat) (A : List (Int × Int)) (high : Int) (w : World) (ha : Rs w a la ca A) (hh : fits high) :
    Calls Tryz.prog 56 #[.slice a la ca, .int .i64 high] w (AnO w (notP A high)) := by
  have C1 := hideR (refOfO_any a la ca A none 0 0 [] 3 high w ha (Rs.nil w) hh)
  clear ha
  go_enter Tryz.func56, Tryz.ntmps56
  go_wp2_with fail
  refine (unhideR C1).mono ?_
  rintro e w1 ⟨v1, A1, rfl, r1, i1, b1⟩
  have i1' := hideR i1
  clear i1 C1
  go_wp2_with fail
  go_ret
  refine ⟨v1, A1, rfl, r1, (unhideR i1').congr fun n => ?_, b1⟩
  unfold ofP notP nrm
  rw [isP_3, G.hasB_one]
  unfold G.dom
  rcases Bool.eq_false_or_eq_true (G.hasB A n) with h | h <;> rw [h]
  · simp; omega
  · rw [Bool.eq_iff_iff]; simp only [Bool.and_eq_true, decide_eq_true_eq, Bool.not_false, Bool.and_false, and_true, true_and]; omega
theorem refNot_any (a : Option Addr) (la ca : Nat) (A : List (Int × Int)) (high : Int) (w : World) (ha : Rs w a la ca A) (hh : fits high) :
    Calls Tryz.prog 56 #[.slice a la ca, .int .i64 high] w (An w (notP A high)) := (refNotO_any a la ca A high w ha hh).mono fun _ _ h => h.an

set_option maxRecDepth 20000 in
set_option maxHeartbeats 400000 in
theorem refLessO_any (a : Option Addr) (la ca : Nat) (A : List (Int × Int)) (b : Option Addr) (lb cb : Nat) (B : List (Int × Int)) (w : World) (ha : Rs w a la ca A) (hb : Rs w b lb cb B) :
    Calls Tryz.prog 57 #[.slice a la ca, .slice b lb cb] w (AnO w fun n => nrm A n && !nrm B n) := by
  have C1 := hideR (refOfO_any a la ca A b lb cb B 2 (-1) w ha hb fits_m1)
  clear ha hb
  go_enter Tryz.func57, Tryz.ntmps57
  go_wp2_with fail
  refine (unhideR C1).mono ?_
  rintro e w1 ⟨v1, A1, rfl, r1, i1, b1⟩
  have i1' := hideR i1
  clear i1 C1
  go_wp2_with fail
  go_ret
  refine ⟨v1, A1, rfl, r1, (unhideR i1').congr fun n => ?_, b1⟩
  unfold ofP nrm
  rw [isP_2]
  cases G.dom n <;> simp
theorem refLess_any (a : Option Addr) (la ca : Nat) (A : List (Int × Int)) (b : Option Addr) (lb cb : Nat) (B : List (Int × Int)) (w : World) (ha : Rs w a la ca A) (hb : Rs w b lb cb B) :
    Calls Tryz.prog 57 #[.slice a la ca, .slice b lb cb] w (An w fun n => nrm A n && !nrm B n) := (refLessO_any a la ca A b lb cb B w ha hb).mono fun _ _ h => h.an

end Go.Proofs.YtdaadeohamkoiaaGreatDoor

/- Contracts of the document's own answers of layer 5: a SIGN or a HEX, and items. -/
namespace Go.Proofs.YtdaadeohamkoiaaGreatDoor.T
open Go.RowKit
set_option linter.unusedVariables false
set_option linter.unusedSimpArgs false

set_option maxRecDepth 20000 in
set_option maxHeartbeats 2000000 in
theorem one_any (s : ByteArray) (l : List Int) (h : St s l) (hs : l.length ≤ 1000000) (a : Nat) (ha : a ≤ 2000000) (b : Bool) (w : World) :
    Calls Tryz.prog 90 #[.string s, .int .i64 a, .bool b] w fun e w' => e = .returned (.tuple #[.int .i64 (pairR (oneL b (l.drop a))).1, .int .i64 ((pairR (oneL b (l.drop a))).2 : Nat)]) ∧ Below w.heap.size w w' := by
  cases b with
  | false =>
    have C := hideR (sign_any s l h hs a ha w)
    have e : oneL false (l.drop a) = signL (l.drop a) := rfl
    rw [e]
    clear h e
    generalize (pairR (signL (l.drop a))).1 = x at *
    generalize (pairR (signL (l.drop a))).2 = y at *
    go_enter Tryz.func90, Tryz.ntmps90
    go_wp2_with fail
    refine (unhideR C).mono ?_
    rintro e w1 ⟨rfl, b1⟩
    clear C
    go_wp2_with fail
    go_ret2
    exact ⟨rfl, b1⟩
  | true =>
    have C := hideR (hex_any s l h hs a ha w)
    clear h
    by_cases c : hexI (l.drop a) < 0
    · have e : oneL true (l.drop a) = none := by unfold oneL; rw [if_pos rfl, if_pos c]
      rw [e]
      generalize hexI (l.drop a) = z at *
      go_enter Tryz.func90, Tryz.ntmps90
      go_wp2_with fail
      refine (unhideR C).mono ?_
      rintro e w1 ⟨rfl, d, rfl⟩
      clear C
      go_wp2_with fail
      go_ret2
      exact ⟨rfl, draws_b⟩
    · have e : oneL true (l.drop a) = some (hexI (l.drop a), 2) := by unfold oneL; rw [if_pos rfl, if_neg c]
      rw [e]
      have c2 : ¬ (hexI (l.drop a) < 0) := c
      generalize hexI (l.drop a) = z at *
      go_enter Tryz.func90, Tryz.ntmps90
      go_wp2_with fail
      refine (unhideR C).mono ?_
      rintro e w1 ⟨rfl, d, rfl⟩
      clear C
      go_wp2_with fail
      go_ret2
      exact ⟨rfl, draws_b⟩

/-! ### Items -/
def itR (w' : World) (e : Ending) : Option (List (Int × Int) × Nat) → Prop
  | none => e = .returned (.tuple #[.slice none 0 0, .int .i64 0])
  | some (xs, m) => ∃ y cy, e = .returned (.tuple #[.slice y (normL xs).length cy, .int .i64 (m : Nat)]) ∧ Rs w' y (normL xs).length cy (normL xs) ∧ Ty w' y
def moreI (out : List (Int × Int)) (d : Nat) : Option (List (Int × Int) × Nat) → Option (List (Int × Int) × Nat)
  | none => none
  | some (xs, m) => some (out ++ xs, d + m)
theorem more_cons (out : List (Int × Int)) (d n : Nat) (p : Int × Int) (g : Option (List (Int × Int) × Nat)) :
    moreI out d (match g with | none => none | some (xs, m) => some (p :: xs, n + m)) = moreI (out ++ [p]) (d + n) g := by
  cases g with
  | none => rfl
  | some x => simp [moreI]; omega
theorem one_len {b : Bool} {r : List Int} (hb : U.isBytes r) {x : Int} {n : Nat} (h : oneL b r = some (x, n)) : 1 ≤ n ∧ n ≤ r.length := one_good b r x n hb h
theorem an_norm {w w' : World} {A : List (Int × Int)} {e : Ending} (h : AnO w (nrm A) e w') : ∃ y cy, e = .returned (.slice y (normL A).length cy) ∧ (Rs w' y (normL A).length cy (normL A) ∧ Ty w' y) ∧ Below w.heap.size w w' := ano_is (norm_is A) (h.congr fun n => rfl)
theorem fit_snoc {b : Bool} {r : List Int} {out : List (Int × Int)} {p : Int × Int} {n : Nat} (h : ∀ x ∈ out, fits x.1 ∧ fits x.2) (hb : U.isBytes r) (e : itemL b r = some (p, n)) : ∀ x ∈ out ++ [p], fits x.1 ∧ fits x.2 := by
  intro x hx
  rcases List.mem_append.1 hx with hx | hx
  · exact h x hx
  · have hr := item_range hb e
    simp only [List.mem_singleton] at hx
    subst hx
    unfold fits
    omega
set_option maxRecDepth 20000 in
set_option maxHeartbeats 8000000 in
theorem items_any (s : ByteArray) (l : List Int) (h : St s l) (hs : l.length ≤ 100000) (a : Nat) (ha : a ≤ l.length) (stop : Int) (s0 : 0 ≤ stop) (s1 : stop ≤ 255) (b : Bool) (w : World) :
    Calls Tryz.prog 55 #[.string s, .int .i64 a, .int .u8 stop, .bool b] w fun e w' => itR w' e (gatherL (itemL b) stop (l.drop a)) ∧ Below w.heap.size w w' := by
  have hsz := h.size
  have HS := hideR h
  have HZ := hideR hsz
  have hss : s.size ≤ 100000 := by omega
  have has : a ≤ s.size := by omega
  have CO := hideR (fun k (hk : k ≤ 2000000) W => one_any s l h (by omega) k hk b W)
  have CN := hideR refNormO_any
  obtain ⟨i0, hi0, hz0, hz1, hz2⟩ := info_parts infoRg
  clear h hsz hs ha
  go_enter Tryz.func55, Tryz.ntmps55
  go_wp2_with fail
  go_loopw [10, 11] (fun v j wr => ∃ (k : Nat) (out : List (Int × Int)), a ≤ k ∧ k ≤ s.size ∧ out.length ≤ k ∧ j = .int .i64 (k : Int) ∧ Hid (∀ r ∈ out, fits r.1 ∧ fits r.2) ∧ Hid (gatherL (itemL b) stop (l.drop a) = moreI out (k - a) (gatherL (itemL b) stop (l.drop k))) ∧ wr.ownsRow w.heap.size 54 2 v out.length (cellsL out) ∧ Below w.heap.size w wr) (fun _ j _ => s.size - (intOf j).toNat)
  case atStart => exact ⟨a, [], Nat.le_refl _, has, Nat.zero_le _, rfl, (fun r hr => by cases hr), by show _ = _; cases gatherL (itemL b) stop (l.drop a) with | none => rfl | some x => simp [moreI], World.ownsRow_nil _ _ _ _, Below.refl _ _⟩
  case round =>
    obtain ⟨k, out, hak, hk, hok, rfl, hfo, hg, hown, hb⟩ := hrel
    have hws := hb.size
    by_cases hlt : k < s.size
    · have hkl : k < l.length := by rw [← unhideR HZ]; exact hlt
      have x0 := (unhideR HS).ix hkl
      have hne : l.drop k ≠ [] := drop_ne hkl
      have hbk : U.isBytes (l.drop k) := U.isBytes_drop (unhideR HS).2 k
      have hd0 : (l.drop k).getD 0 0 = l.getD k 0 := by rw [drop_getD, Nat.add_zero]
      have hldr : (l.drop k).length = s.size - k := by rw [List.length_drop, unhideR HZ]
      have hkI : (k : Int) < (s.size : Int) := by omega
      by_cases hst : l.getD k 0 = stop
      · have HG : Hid (gatherL (itemL b) stop (l.drop a) = some (out, k - a + 1)) := by
          show _ = _
          rw [hg.out, gather_stop hne (by rw [hd0]; exact hst)]
          simp [moreI]
        obtain ⟨qo, co, eo, RO⟩ := Ow.rs hown (unhideR hfo)
        have C1 := hideR (unhideR CN qo out.length co out wr RO)
        have hsub : (k : Int) + 1 - (a : Int) = ((k - a + 1 : Nat) : Int) := by omega
        have hge : ¬ ((s.size : Int) ≤ (k : Int)) := by omega
        subst eo
        rw [hst] at x0
        clear HS HZ CO CN hne hbk hd0 hldr hg hown hfo RO hst hkl
        go_wp2_with fail
        refine (unhideR C1).mono ?_
        rintro e w1 hAn
        obtain ⟨y, cy, rfl, hR, b1⟩ := an_norm hAn
        clear C1 hAn
        go_wp2_with fail
        go_ret2
        refine ⟨?_, hb.trans (b1.mono hws)⟩
        rw [unhideR HG]
        exact ⟨y, cy, rfl, hR⟩
      · have t1 : (l.getD k 0 == stop) = false := beq_eq_false_iff_ne.2 hst
        have t2 : ¬ (l.getD k 0 = stop) := hst
        have C1 := hideR (unhideR CO k (by omega) wr)
        have HB0 : Hid (∀ r, itemL b (l.drop k) = none → r = none → gatherL (itemL b) stop (l.drop a) = r) := by
          intro r h1 h2
          rw [h2, hg.out, gather_bad hne (by rw [hd0]; exact hst) h1]
          rfl
        have HB1 : Hid (∀ p n, itemL b (l.drop k) = some (p, n) → gatherL (itemL b) stop (l.drop a) = moreI (out ++ [p]) (k + n - a) (gatherL (itemL b) stop (l.drop (k + n)))) := by
          intro p n h1
          rw [hg.out, gather_step (item_good b) hbk hne (by rw [hd0]; exact hst) h1, List.drop_drop]
          cases gatherL (itemL b) stop (l.drop (k + n)) with
          | none => rfl
          | some x => simp only [moreI, List.append_assoc, List.singleton_append, Option.some.injEq, Prod.mk.injEq, true_and]; omega
        cases e1 : oneL b (l.drop k) with
        | none =>
          have HG : Hid (gatherL (itemL b) stop (l.drop a) = none) := unhideR HB0 none (by unfold itemL; rw [e1]) rfl
          rw [e1] at C1
          replace C1 : Hid (Calls Tryz.prog 90 #[.string s, .int .i64 (k : Int), .bool b] wr fun e w' => e = .returned (.tuple #[.int .i64 0, .int .i64 0]) ∧ Below wr.heap.size wr w') := C1
          clear HS HZ CO CN hne hbk hd0 hldr hg hown hfo hst hkl HB0 HB1 e1
          generalize l.getD k 0 = z at *
          go_wp2_with fail
          refine (unhideR C1).mono ?_
          rintro e w1 ⟨rfl, b1⟩
          clear C1
          go_wp2_with fail
          go_ret2
          refine ⟨?_, hb.trans (b1.mono hws)⟩
          rw [unhideR HG]
          rfl
        | some p =>
          obtain ⟨lo, n⟩ := p
          have g1 := one_good b _ lo n hbk e1
          rw [hldr] at g1
          obtain ⟨g0, g1⟩ := g1
          rw [e1] at C1
          replace C1 : Hid (Calls Tryz.prog 90 #[.string s, .int .i64 (k : Int), .bool b] wr fun e w' => e = .returned (.tuple #[.int .i64 lo, .int .i64 (n : Int)]) ∧ Below wr.heap.size wr w') := C1
          have n0 : ((n : Int) == 0) = false := beq_eq_false_iff_ne.2 (by omega)
          obtain ⟨m, hm⟩ : ∃ m, m = k + n := ⟨_, rfl⟩
          have hmI : (k : Int) + (n : Int) = (m : Int) := by omega
          have hms : m ≤ s.size := by omega
          have hmk : k < m := by omega
          have hdn : ((l.drop k).drop n).getD 0 0 = l.getD m 0 := by rw [List.drop_drop, drop_getD, Nat.add_zero, hm]
          have hdr : (l.drop k).drop (n + 1) = l.drop (m + 1) := by rw [List.drop_drop, hm]; rfl
          by_cases hml : m < s.size
          · have x1 := (unhideR HS).ix (k := m) (by rw [← unhideR HZ]; exact hml)
            have hmI2 : (m : Int) < (s.size : Int) := by omega
            by_cases hda : l.getD m 0 = 45
            · have C2 := hideR (fun W => unhideR CO (m + 1) (by omega) W)
              rw [hda] at x1
              cases e2 : oneL b (l.drop (m + 1)) with
              | none =>
                have HG : Hid (gatherL (itemL b) stop (l.drop a) = none) := unhideR HB0 none (by unfold itemL; rw [e1]; simp only; rw [if_pos (by rw [hdn]; exact hda), hdr, e2]) rfl
                rw [e2] at C2
                replace C2 : Hid (∀ W, Calls Tryz.prog 90 #[.string s, .int .i64 ((m : Int) + 1), .bool b] W fun e w' => e = .returned (.tuple #[.int .i64 0, .int .i64 0]) ∧ Below W.heap.size W w') := C2
                clear HS HZ CO CN hne hbk hd0 hldr hg hown hfo hst hkl HB0 HB1 e1 e2 hdn hdr hda hm
                generalize l.getD k 0 = z at *
                go_wp2_with fail
                refine (unhideR C1).mono ?_
                rintro e w1 ⟨rfl, b1⟩
                clear C1
                go_wp2_with fail
                refine (unhideR C2 _).mono ?_
                rintro e w2 ⟨rfl, b2⟩
                clear C2
                go_wp2_with fail
                go_ret2
                refine ⟨?_, hb.trans ((bthen b1 b2).mono hws)⟩
                rw [unhideR HG]
                rfl
              | some p =>
                obtain ⟨to, q⟩ := p
                have g2 := one_good b _ to q (U.isBytes_drop (unhideR HS).2 (m + 1)) e2
                rw [List.length_drop, ← unhideR HZ] at g2
                obtain ⟨g3, g4⟩ := g2
                rw [e2] at C2
                replace C2 : Hid (∀ W, Calls Tryz.prog 90 #[.string s, .int .i64 ((m : Int) + 1), .bool b] W fun e w' => e = .returned (.tuple #[.int .i64 to, .int .i64 (q : Int)]) ∧ Below W.heap.size W w') := C2
                have q0 : ((q : Int) == 0) = false := beq_eq_false_iff_ne.2 (by omega)
                by_cases hto : to < lo
                · have HG : Hid (gatherL (itemL b) stop (l.drop a) = none) := unhideR HB0 none (by unfold itemL; rw [e1]; simp only; rw [if_pos (by rw [hdn]; exact hda), hdr, e2]; simp only; rw [if_pos hto]) rfl
                  clear HS HZ CO CN hne hbk hd0 hldr hg hown hfo hst hkl HB0 HB1 e1 e2 hdn hdr hda hm
                  generalize l.getD k 0 = z at *
                  go_wp2_with fail
                  refine (unhideR C1).mono ?_
                  rintro e w1 ⟨rfl, b1⟩
                  clear C1
                  go_wp2_with fail
                  refine (unhideR C2 _).mono ?_
                  rintro e w2 ⟨rfl, b2⟩
                  clear C2
                  go_wp2_with fail
                  go_ret2
                  refine ⟨?_, hb.trans ((bthen b1 b2).mono hws)⟩
                  rw [unhideR HG]
                  rfl
                · have hto2 : lo ≤ to := by omega
                  have ei : itemL b (l.drop k) = some ((lo, to), n + 1 + q) := by
                    unfold itemL
                    rw [e1]
                    simp only
                    rw [if_pos (by rw [hdn]; exact hda), hdr, e2]
                    simp only
                    rw [if_neg hto]
                  have HF : Hid (∀ r ∈ out ++ [(lo, to)], fits r.1 ∧ fits r.2) := fit_snoc (unhideR hfo) hbk ei
                  have HG : Hid (gatherL (itemL b) stop (l.drop a) = moreI (out ++ [(lo, to)]) (m + 1 + q - a) (gatherL (itemL b) stop (l.drop (m + 1 + q)))) := by
                    have := unhideR HB1 _ _ ei
                    rw [show k + (n + 1 + q) = m + 1 + q by omega] at this
                    exact this
                  clear HS HZ CO CN hne hbk hd0 hldr hg hfo hst hkl HB0 HB1 e1 e2 ei hdn hdr hda hm
                  generalize l.getD k 0 = z at *
                  go_wp2_with fail
                  refine (unhideR C1).mono ?_
                  rintro e w1 ⟨rfl, b1⟩
                  clear C1
                  go_wp2_with fail
                  refine (unhideR C2 _).mono ?_
                  rintro e w2 ⟨rfl, b2⟩
                  clear C2
                  have ho1 := ownL (bthen b1 b2) hown
                  have hb1 := hb.trans ((bthen b1 b2).mono hws)
                  have hs1 := hb1.size
                  clear hown
                  go_wp2_with (at_builtin; refine wpList_append_lies _ rfl _ _ 22 rfl w.heap.size 54 i0 _ 2 16 Tryz.underlying22 hi0 hz0 hz1 hz2 rfl (by omega) _ _ _ rfl (ho1.alloc _) ⟨w2.heap.size, 0, none⟩ 1 1 [.int .i64 lo, .int .i64 to] rfl rfl (new_cells _ _ _ _ rfl) (by simp [Value.oneCell']) (by omega) (by unfold maxLen; omega) (by omega) (by simp; omega) (w2.heap.size + 1) (by simp) ?_; intro gg cap1 w9 hown1 hgrow hat hlt1)
                  go_roundw
                  case rel => exact ⟨m + 1 + q, out ++ [(lo, to)], by omega, by omega, by simp; omega, by go_num, HF, HG, by rw [cellsL_append, List.length_append]; exact hown1, hb1.trans (below_append1' ho1 hs1 hgrow)⟩
                  case measure => simp [intOf]; omega
            · have t3 : (l.getD m 0 == 45) = false := beq_eq_false_iff_ne.2 hda
              have ei : itemL b (l.drop k) = some ((lo, lo), n) := by
                unfold itemL
                rw [e1]
                simp only
                rw [if_neg (by rw [hdn]; exact hda)]
              have HF : Hid (∀ r ∈ out ++ [(lo, lo)], fits r.1 ∧ fits r.2) := fit_snoc (unhideR hfo) hbk ei
              have HG : Hid (gatherL (itemL b) stop (l.drop a) = moreI (out ++ [(lo, lo)]) (m - a) (gatherL (itemL b) stop (l.drop m))) := by rw [hm]; exact unhideR HB1 _ _ ei
              generalize l.getD m 0 = z2 at *
              generalize l.getD k 0 = z at *
              clear HS HZ CO CN hne hbk hd0 hldr hg hfo hst hkl HB0 HB1 e1 ei hdn hda hm
              go_wp2_with fail
              refine (unhideR C1).mono ?_
              rintro e w1 ⟨rfl, b1⟩
              clear C1
              have ho1 := ownL b1 hown
              have hb1 := hb.trans (b1.mono hws)
              have hs1 := hb1.size
              clear hown
              go_wp2_with (at_builtin; refine wpList_append_lies _ rfl _ _ 22 rfl w.heap.size 54 i0 _ 2 16 Tryz.underlying22 hi0 hz0 hz1 hz2 rfl (by omega) _ _ _ rfl (ho1.alloc _) ⟨w1.heap.size, 0, none⟩ 1 1 [.int .i64 lo, .int .i64 lo] rfl rfl (new_cells _ _ _ _ rfl) (by simp [Value.oneCell']) (by omega) (by unfold maxLen; omega) (by omega) (by simp; omega) (w1.heap.size + 1) (by simp) ?_; intro gg cap1 w9 hown1 hgrow hat hlt1)
              go_roundw
              case rel => exact ⟨m, out ++ [(lo, lo)], by omega, by omega, by simp; omega, by go_num, HF, HG, by rw [cellsL_append, List.length_append]; exact hown1, hb1.trans (below_append1' ho1 hs1 hgrow)⟩
              case measure => simp [intOf]; omega
          · have hda : l.getD m 0 ≠ 45 := by rw [List.getD, List.getElem?_eq_none (by rw [← unhideR HZ]; omega)]; decide
            have hml2 : ¬ ((m : Int) < (s.size : Int)) := by omega
            have ei : itemL b (l.drop k) = some ((lo, lo), n) := by
              unfold itemL
              rw [e1]
              simp only
              rw [if_neg (by rw [hdn]; exact hda)]
            have HF : Hid (∀ r ∈ out ++ [(lo, lo)], fits r.1 ∧ fits r.2) := fit_snoc (unhideR hfo) hbk ei
            have HG : Hid (gatherL (itemL b) stop (l.drop a) = moreI (out ++ [(lo, lo)]) (m - a) (gatherL (itemL b) stop (l.drop m))) := by rw [hm]; exact unhideR HB1 _ _ ei
            generalize l.getD k 0 = z at *
            clear HS HZ CO CN hne hbk hd0 hldr hg hfo hst hkl HB0 HB1 e1 ei hdn hda hm
            go_wp2_with fail
            refine (unhideR C1).mono ?_
            rintro e w1 ⟨rfl, b1⟩
            clear C1
            have ho1 := ownL b1 hown
            have hb1 := hb.trans (b1.mono hws)
            have hs1 := hb1.size
            clear hown
            go_wp2_with (at_builtin; refine wpList_append_lies _ rfl _ _ 22 rfl w.heap.size 54 i0 _ 2 16 Tryz.underlying22 hi0 hz0 hz1 hz2 rfl (by omega) _ _ _ rfl (ho1.alloc _) ⟨w1.heap.size, 0, none⟩ 1 1 [.int .i64 lo, .int .i64 lo] rfl rfl (new_cells _ _ _ _ rfl) (by simp [Value.oneCell']) (by omega) (by unfold maxLen; omega) (by omega) (by simp; omega) (w1.heap.size + 1) (by simp) ?_; intro gg cap1 w9 hown1 hgrow hat hlt1)
            go_roundw
            case rel => exact ⟨m, out ++ [(lo, lo)], by omega, by omega, by simp; omega, by go_num, HF, HG, by rw [cellsL_append, List.length_append]; exact hown1, hb1.trans (below_append1' ho1 hs1 hgrow)⟩
            case measure => simp [intOf]; omega
    · obtain rfl : k = s.size := by omega
      have HG : Hid (gatherL (itemL b) stop (l.drop a) = none) := by
        show _ = _
        rw [hg.out, List.drop_of_length_le (by rw [← unhideR HZ]; exact Nat.le_refl _), gather_nil]
        rfl
      have hno : ¬ ((s.size : Int) < (s.size : Int)) := by omega
      clear HS HZ CO CN hg hown hfo
      go_wp2_with fail
      go_ret2
      refine ⟨?_, hb⟩
      rw [unhideR HG]
      rfl
end Go.Proofs.YtdaadeohamkoiaaGreatDoor.T

/- Contracts of the document's own answers of layer 5: the token from a place on. -/
namespace Go.Proofs.YtdaadeohamkoiaaGreatDoor.T
open Go.RowKit
set_option linter.unusedVariables false
set_option linter.unusedSimpArgs false

/-- what next tells: none, or a token that begins there -/
def TokP (w : World) (v : Value) (n : Nat) (a : Nat) (o : Option (Tk × Nat)) : Prop := (o = none ∧ v = zeroTok ∧ n = 0) ∨ ∃ t, o = some (t, n) ∧ TokV w v t (a : Int)
theorem two_new {w w1 : World} {o1 o2 : Obj} (b : Below ((w.alloc o1).alloc o2).heap.size ((w.alloc o1).alloc o2) w1) : w1.heap[w.heap.size]? = some o1 ∧ w1.heap[w.heap.size + 1]? = some o2 :=
  ⟨kept_new (bthen (Below.new1 _) b), by have := kept_new b; simpa using this⟩
theorem b2_of {w w1 : World} {o1 o2 : Obj} (b : Below ((w.alloc o1).alloc o2).heap.size ((w.alloc o1).alloc o2) w1) : Below w.heap.size w w1 := bthen (bthen (Below.new1 _) (Below.new1 _)) b
end Go.Proofs.YtdaadeohamkoiaaGreatDoor.T

/- Contracts of the document's own answers of layer 5: sets as text, tokens that are the same. -/
namespace Go.Proofs.YtdaadeohamkoiaaGreatDoor.T
open Go.RowKit
set_option linter.unusedVariables false
set_option linter.unusedSimpArgs false

def topO (b : Bool) : Int := if b then 255 else 1114111
theorem showO_ok (b : Bool) {n : Int} (h0 : 0 ≤ n) (h1 : n ≤ topO b) : U.isBytes (showO b n) ∧ (showO b n).length ≤ 10 := by
  cases b with
  | true =>
    have h2 : n ≤ 255 := h1
    have e : showO true n = hexT n := (hexT_is h0 h2).symm
    rw [e]
    exact ⟨(hexT_bytes n).1, by simp [hexT]⟩
  | false =>
    have h2 : n ≤ 1114111 := h1
    cases hp : plainB n with
    | true =>
      have e : showO false n = [n] := by unfold showO; simp [hp]
      have hn := plain_iff.1 hp
      rw [e]
      exact ⟨bytes_cons (by omega) (by omega) (fun z hz => by cases hz), by simp⟩
    | false =>
      have e : showO false n = 92 :: 117 :: (sixL n ++ [59]) := by unfold showO; simp [hp]
      have sb : U.isBytes (sixL n) := six_bytes 5 n h0 (by omega)
      have sl := (sixL_ok h0 h2).2.2.2
      rw [e]
      refine ⟨bytes_cons (by omega) (by omega) (bytes_cons (by omega) (by omega) (bytes_app sb (bytes_cons (by omega) (by omega) (fun z hz => by cases hz)))), ?_⟩
      simp
      omega
theorem below_drew {w w' : World} {B : Nat} (h : Below B w w') (d : Nat) : Below B w (w'.drewN d) := h.trans draws_below
set_option maxRecDepth 20000 in
set_option maxHeartbeats 4000000 in
theorem rset_any (b : Bool) (a : Option Addr) (len cap : Nat) (l : List (Int × Int)) (w : World) (h : Rs w a len cap l) (hl : len ≤ 3000) (hok : ∀ r ∈ l, 0 ≤ r.1 ∧ 0 ≤ r.2 ∧ r.1 ≤ topO b ∧ r.2 ≤ topO b) :
    Calls Tryz.prog 59 #[.slice a len cap, .bool b] w fun e w' => e = .returned (.string (strOfNums (l.flatMap (showI b)))) ∧ Below w.heap.size w w' := by
  have hlen := h.hlen
  have hmax := h.hmax
  have hcap := h.hcap
  unfold maxLen at hmax
  have CS := hideR (fun (n : Nat) (hn : (n : Int) ≤ topO b) W => shown_any n b (by cases b <;> simp [topO] at hn ⊢ <;> omega) W)
  have HR := hideR h
  have HOK := hideR hok
  clear h hok
  go_enter Tryz.func59, Tryz.ntmps59
  go_wp2_with fail
  go_loopw [5, 6] (fun v j wr => ∃ (k : Nat) (acc : List Int), k ≤ len ∧ v = .string (strOfNums acc) ∧ j = .int .i64 (k : Int) ∧ Hid (acc = (l.take k).flatMap (showI b)) ∧ Hid (U.isBytes acc) ∧ acc.length ≤ 21 * k ∧ Below w.heap.size w wr) (fun _ j _ => len - (intOf j).toNat)
  case atStart => exact ⟨0, [], Nat.zero_le _, rfl, rfl, (by show [] = _; simp), (fun z hz => by cases hz), by simp, Below.refl _ _⟩
  case round =>
    obtain ⟨k, acc, hk, rfl, rfl, ha, hab, hal, hb⟩ := hrel
    by_cases hlt : k < len
    · obtain ⟨bb, off, rfl, hr⟩ := (Rs.later (unhideR HR) hb (Nat.le_refl _)).open (by omega)
      obtain ⟨lo, hi, hmem, hd, f1, f2, c0, c1⟩ := hr.at k hlt
      have hin : (lo, hi) ∈ l := List.mem_of_mem_drop (by rw [hmem]; exact List.mem_cons_self ..)
      obtain ⟨o1, o2, o3, o4⟩ := unhideR HOK (lo, hi) hin
      simp only at o1 o2 o3 o4
      obtain ⟨n, rfl⟩ : ∃ n : Nat, lo = (n : Int) := ⟨lo.toNat, by omega⟩
      obtain ⟨m, rfl⟩ : ∃ m : Nat, hi = (m : Int) := ⟨hi.toNat, by omega⟩
      have S1 := showO_ok b o1 o3
      have S2 := showO_ok b o2 o4
      have HA : Hid (acc ++ showI b ((n : Int), (m : Int)) = (l.take (k + 1)).flatMap (showI b)) := by
        show _ = _
        rw [hd, List.flatMap_append, ← ha.out]
        simp
      have C1 := hideR (unhideR CS n o3 wr)
      have C2 := hideR (fun W => unhideR CS m o4 W)
      have z0 : (strOfNums acc).size ≤ 63000 := by rw [strOfNums_size]; omega
      have z1 : (strOfNums (showO b (n : Int))).size ≤ 10 := by rw [strOfNums_size]; exact S1.2
      have z2 : (strOfNums (showO b (m : Int))).size ≤ 10 := by rw [strOfNums_size]; exact S2.2
      have A1 := (St.app (St.of (unhideR hab)) (St.of S1.1))
      have A2 := (St.app (St.app A1 st_dash) (St.of S2.1))
      have HS1 := hideR A1
      have HS2 := hideR A2
      have L1 := S1.2
      have L2 := S2.2
      clear hr hd hmem hin ha hab HR HOK S1 S2 A1 A2 CS f1 f2 o1 o2 o3 o4
      unfold showI at HA
      by_cases c : (n : Int) < (m : Int)
      · rw [if_pos c] at HA
        generalize hX : strOfNums acc = X at *
        generalize hY : strOfNums (showO b (n : Int)) = Y at *
        generalize hZ : strOfNums (showO b (m : Int)) = Z at *
        generalize showO b (n : Int) = NB at *
        generalize showO b (m : Int) = MB at *
        have hXs := hideR hX
        clear hX hY hZ
        go_wp2_with fail
        refine (unhideR C1).mono ?_
        rintro e w1 ⟨rfl, b1⟩
        clear C1
        have k0 : ∀ d, (w1.drewN d).cell? ⟨bb, off + k * 2, none⟩ = some (.int .i64 (n : Int)) := fun d => by simpa using (b1.cell (block_lt' c0)).trans c0
        have k1 : ∀ d, (w1.drewN d).cell? ⟨bb, off + k * 2 + 1, none⟩ = some (.int .i64 (m : Int)) := fun d => by simpa using (b1.cell (block_lt' c1)).trans c1
        clear c0 c1
        go_wp2_with fail
        go_quiet (fail)
        go_wp2_with fail
        refine (unhideR C2 _).mono ?_
        rintro e w2 ⟨rfl, b2⟩
        clear C2 k0 k1
        go_wp2_with fail
        go_roundw
        case rel => exact ⟨k + 1, acc ++ (NB ++ 45 :: MB), by omega, by have := (unhideR HS2).1; simp only [List.append_assoc, List.singleton_append] at this ⊢; rw [← this], by go_num, HA, (by show U.isBytes _; have := (unhideR HS2).2; simpa [List.append_assoc] using this), by rw [List.length_append, List.length_append, List.length_cons]; omega, hb.trans ((bthen (below_drew b1 _) b2).mono hb.size)⟩
        case measure => simp [intOf]; omega
      · rw [if_neg c] at HA
        have c' : (m : Int) ≤ (n : Int) := by omega
        generalize hX : strOfNums acc = X at *
        generalize hY : strOfNums (showO b (n : Int)) = Y at *
        generalize showO b (n : Int) = NB at *
        have hXs := hideR hX
        clear hX hY HS2 C2 z2 L2
        go_wp2_with fail
        refine (unhideR C1).mono ?_
        rintro e w1 ⟨rfl, b1⟩
        clear C1
        have k0 : ∀ d, (w1.drewN d).cell? ⟨bb, off + k * 2, none⟩ = some (.int .i64 (n : Int)) := fun d => by simpa using (b1.cell (block_lt' c0)).trans c0
        have k1 : ∀ d, (w1.drewN d).cell? ⟨bb, off + k * 2 + 1, none⟩ = some (.int .i64 (m : Int)) := fun d => by simpa using (b1.cell (block_lt' c1)).trans c1
        clear c0 c1
        go_wp2_with fail
        go_quiet (fail)
        go_wp2_with fail
        go_roundw
        case rel => exact ⟨k + 1, acc ++ NB, by omega, by rw [← (unhideR HS1).1], by go_num, HA, (unhideR HS1).2, by rw [List.length_append]; omega, hb.trans ((below_drew b1 _).mono hb.size)⟩
        case measure => simp [intOf]; omega
    · obtain rfl : k = len := by omega
      have ha' := ha.out
      rw [List.take_of_length_le (by omega)] at ha'
      have HE := hideR (congrArg strOfNums ha')
      clear ha ha' hab CS HR HOK
      generalize strOfNums acc = X at *
      go_wp2_with fail
      go_ret
      exact ⟨by rw [← unhideR HE]; rfl, hb⟩
set_option maxRecDepth 20000 in
set_option maxHeartbeats 4000000 in
theorem rsame_any (t u : Tk) (a b : Option Addr) (c d : Nat) (p q : Int) (w : World) (hx : U.isBytes t.2.1) (hr : Rs w a t.2.2.length c t.2.2) (hx2 : U.isBytes u.2.1) (hr2 : Rs w b u.2.2.length d u.2.2) :
    Calls Tryz.prog 12 #[.agg (tokAgg t a c p), .agg (tokAgg u b d q)] w fun e w' => e = .returned (.bool (decide (t = u))) ∧ Below w.heap.size w w' := by
  obtain ⟨k, x, R⟩ := t
  obtain ⟨k2, x2, R2⟩ := u
  unfold tokAgg
  simp only at *
  have se := str_eq_list (St.of hx) (St.of hx2)
  have B2 : ∀ o1 o2, Below w.heap.size w ((w.alloc o1).alloc o2) := fun o1 o2 => (Below.new1 o1).alloc (by simp) o2
  have C := hideR (fun o1 o2 => refSame_any a R.length c R b R2.length d R2 ((w.alloc o1).alloc o2) (Rs.later hr (B2 o1 o2) (Nat.le_refl _)) (Rs.later hr2 (B2 o1 o2) (Nat.le_refl _)))
  have hs : sameB R R2 = decide (R = R2) := rfl
  rw [hs] at C
  clear hr hr2 hx hx2 hs
  have fin : decide ((k, x, R) = (k2, x2, R2)) = (decide (R = R2) && (decide (k = k2) && decide (x = x2))) := by
    by_cases h1 : R = R2 <;> by_cases h2 : k = k2 <;> by_cases h3 : x = x2 <;> simp [h1, h2, h3]
  rw [fin]
  clear fin
  generalize decide (R = R2) = r at *
  generalize hd3 : decide (x = x2) = s3 at *
  clear hd3
  generalize strOfNums x = S at *
  generalize strOfNums x2 = S2 at *
  cases r with
  | false =>
    clear se
    rw [Bool.false_and]
    go_enter Tryz.func12, Tryz.ntmps12
    go_wp2_with fail
    refine (unhideR C _ _).mono ?_
    rintro e w1 ⟨rfl, b1⟩
    clear C
    go_wp2_with fail
    go_ret
    exact ⟨rfl, b2_of b1⟩
  | true =>
    rw [Bool.true_and]
    by_cases e1 : k = k2
    · rw [decide_eq_true e1, Bool.true_and]
      subst e1
      have t1 : (k == k) = true := by simp
      go_enter Tryz.func12, Tryz.ntmps12
      go_wp2_with fail
      refine (unhideR C _ _).mono ?_
      rintro e w1 ⟨rfl, b1⟩
      clear C
      obtain ⟨h1, h2⟩ := two_new b1
      obtain ⟨q0, q1, q2, q3⟩ := (cells4 h1).1
      obtain ⟨y0, y1, y2, y3⟩ := (cells4 h2).1
      go_wp2_with fail
      go_ret
      exact ⟨by first | rw [se] | rfl, b2_of b1⟩
    · have t1 : (k == k2) = false := beq_eq_false_iff_ne.2 e1
      rw [decide_eq_false e1, Bool.false_and]
      clear se
      go_enter Tryz.func12, Tryz.ntmps12
      go_wp2_with fail
      refine (unhideR C _ _).mono ?_
      rintro e w1 ⟨rfl, b1⟩
      clear C
      obtain ⟨h1, h2⟩ := two_new b1
      obtain ⟨q0, q1, q2, q3⟩ := (cells4 h1).1
      obtain ⟨y0, y1, y2, y3⟩ := (cells4 h2).1
      go_wp2_with fail
      go_ret
      exact ⟨rfl, b2_of b1⟩
end Go.Proofs.YtdaadeohamkoiaaGreatDoor.T

/- Plain mathematics of layer 5: which errors All tells. -/
namespace Go.Proofs.YtdaadeohamkoiaaGreatDoor.T
set_option linter.unusedSimpArgs false
set_option linter.unusedVariables false

theorem allF_err : ∀ (f a c : Nat) (r : List Int) (e : Nat × Int), allF f a c r = .inl e → e.2 = 2 ∨ e.2 = 7 := by
  intro f
  induction f with
  | zero => intro a c r e h; cases h
  | succ f ih =>
    intro a c r e h
    unfold allF at h
    split at h
    · cases h
    · split at h
      · exact ih _ _ _ _ h
      · split at h
        · injection h with h; subst h; exact .inl rfl
        · split at h
          · injection h with h; subst h; exact .inr rfl
          · split at h
            · next e' he => injection h with h; subst h; exact ih _ _ _ _ he
            · cases h
theorem allL_err {s : List Int} {p : Nat} {er : Int} (h : allL s = .inl (p, er)) : er = 2 ∨ er = 7 := by
  unfold allL at h
  split at h
  · injection h with h; injection h with h1 h2; exact .inr h2.symm
  · exact allF_err _ _ _ _ _ h
theorem nl_app (s t : List Int) : (s ++ [10, 32]) ++ t = s ++ 10 :: 32 :: t := by simp
/-- the i-th token of both: of the first text, or of the second one, as much further -/
theorem both_at (a b : List (Tk × Nat)) (d i : Nat) : (a ++ b.map fun p => (p.1, p.2 + d))[i]? = if i < a.length then a[i]? else (b[i - a.length]?).map fun p => (p.1, p.2 + d) := by
  split
  · next h => rw [List.getElem?_append_left h]
  · next h => rw [List.getElem?_append_right (by omega), List.getElem?_map]
theorem allF_place : ∀ (f a c : Nat) (r : List Int) (e : Nat × Int), U.isBytes r → allF f a c r = .inl e → e.1 ≤ a + r.length := by
  intro f
  induction f with
  | zero => intro a c r e _ h; cases h
  | succ f ih =>
    intro a c r e hb h
    unfold allF at h
    split at h
    · cases h
    · next hr =>
      have hl : 0 < r.length := by cases r <;> simp_all
      split at h
      · have := ih _ _ _ _ (fun z hz => hb z (List.mem_of_mem_drop hz)) h
        rw [List.length_drop] at this
        omega
      · split at h
        · injection h with h; subst h; simp
        · next t n ht =>
          have hn := (tok_ok hb ht).2.2
          split at h
          · injection h with h; subst h; simp
          · split at h
            · next e' he =>
              injection h with h; subst h
              have := ih _ _ _ _ (fun z hz => hb z (List.mem_of_mem_drop hz)) he
              rw [List.length_drop] at this
              omega
            · cases h
theorem allL_place {s : List Int} (hb : U.isBytes s) {p : Nat} {er : Int} (h : allL s = .inl (p, er)) : p ≤ s.length := by
  unfold allL at h
  split at h
  · injection h with h; injection h with h1 h2; omega
  · have := allF_place _ _ _ _ _ hb h
    simpa using this
theorem allF_at : ∀ (f a c : Nat) (r : List Int) (l : List (Tk × Nat)), U.isBytes r → allF f a c r = .inr l → ∀ p ∈ l, p.2 ≤ a + r.length := by
  intro f
  induction f with
  | zero => intro a c r l _ h p hp; injection h with h; subst h; cases hp
  | succ f ih =>
    intro a c r l hb h p hp
    unfold allF at h
    split at h
    · injection h with h; subst h; cases hp
    · next hr =>
      have hl : 0 < r.length := by cases r <;> simp_all
      split at h
      · have := ih _ _ _ _ (fun z hz => hb z (List.mem_of_mem_drop hz)) h p hp
        rw [List.length_drop] at this
        omega
      · split at h
        · cases h
        · next t n ht =>
          have hn := (tok_ok hb ht).2.2
          split at h
          · cases h
          · split at h
            · cases h
            · next l' he =>
              injection h with h; subst h
              rcases List.mem_cons.1 hp with rfl | hp
              · simp
              · have := ih _ _ _ _ (fun z hz => hb z (List.mem_of_mem_drop hz)) he p hp
                rw [List.length_drop] at this
                omega
theorem allL_at {s : List Int} (hb : U.isBytes s) {l : List (Tk × Nat)} (h : allL s = .inr l) : ∀ p ∈ l, p.2 ≤ s.length := by
  unfold allL at h
  split at h
  · cases h
  · intro p hp
    have := allF_at _ _ _ _ _ hb h p hp
    simpa using this
end Go.Proofs.YtdaadeohamkoiaaGreatDoor.T

/- Contracts of the document's own answers of layer 5: tokens as text. -/
namespace Go.Proofs.YtdaadeohamkoiaaGreatDoor.T
open Go.RowKit
set_option linter.unusedVariables false
set_option linter.unusedSimpArgs false

theorem showP_step {x : List Int} {k : Nat} (hk : k < x.length) : (x.take (k + 1)).flatMap showP = (x.take k).flatMap showP ++ showP (x.getD k 0) := by
  rw [List.take_add_one, List.flatMap_append, List.getElem?_eq_getElem hk, List.getD, List.getElem?_eq_getElem hk]
  simp
theorem raw_no {c : Int} (h : rawB c = false) : c < 32 ∨ 126 < c ∨ c = 34 ∨ c = 92 := by
  unfold rawB at h
  simp at h
  omega
theorem raw_yes {c : Int} (h : rawB c = true) : ¬ c < 32 ∧ ¬ 126 < c ∧ c ≠ 34 ∧ c ≠ 92 := by
  unfold rawB at h
  simp at h
  omega
/-- what is asked of a token so that its text can be told -/
def setOk (t : Tk) : Prop := (t.1 = 2 → ∀ r ∈ t.2.2, 0 ≤ r.1 ∧ 0 ≤ r.2 ∧ r.1 ≤ topO false ∧ r.2 ≤ topO false) ∧ (t.1 = 3 → ∀ r ∈ t.2.2, 0 ≤ r.1 ∧ 0 ≤ r.2 ∧ r.1 ≤ topO true ∧ r.2 ≤ topO true)
set_option maxRecDepth 20000 in
set_option maxHeartbeats 4000000 in
theorem rtext_lit (x : List Int) (R : List (Int × Int)) (a : Option Addr) (c : Nat) (p : Int) (w : World) (hx : U.isBytes x) (hxl : x.length ≤ 3000) :
    Calls Tryz.prog 30 #[.agg (tokAgg (1, x, R) a c p)] w fun e w' => e = .returned (.string (strOfNums (textL (1, x, R)))) ∧ Below w.heap.size w w' := by
  have e0 : textL (1, x, R) = (34 :: x.flatMap showP) ++ [34] := rfl
  rw [e0]
  clear e0
  have ST := hideR (St.of hx)
  have hsz : (strOfNums x).size = x.length := strOfNums_size _
  have HX := hideR hx
  have CX := hideR (fun (n : Nat) (hn : n ≤ 255) W => sixteen_2 n hn W)
  unfold tokAgg
  simp only
  generalize hS : strOfNums x = S at *
  have t1 : (1 : Int) = 1 := rfl
  clear hS hx t1
  go_enter Tryz.func30, Tryz.ntmps30
  go_wp2_with fail
  go_loopw [3, 4] (fun v j wr => ∃ (k : Nat) (acc : List Int), k ≤ S.size ∧ v = .string (strOfNums acc) ∧ j = .int .i64 (k : Int) ∧ Hid (acc = 34 :: (x.take k).flatMap showP) ∧ Hid (U.isBytes acc) ∧ acc.length ≤ 4 * k + 1 ∧ Below w.heap.size w wr ∧ Hid (wr.heap[w.heap.size]? = some (.cells #[.int .i64 1, .string S, .slice a R.length c, .int .i64 p] 24))) (fun _ j _ => S.size - (intOf j).toNat)
  case atStart => exact ⟨0, [34], Nat.zero_le _, rfl, rfl, (by show [34] = _; simp), bytes_cons (by omega) (by omega) (fun z hz => by cases hz), by simp, Below.new1 _, heap_alloc_new _ _⟩
  case round =>
    obtain ⟨k, acc, hk, rfl, rfl, ha, hab, hal, hb, hg⟩ := hrel
    obtain ⟨q0, q1, q2, q3⟩ := (cells4 (unhideR hg)).1
    have z0 : (strOfNums acc).size ≤ 13000 := by rw [strOfNums_size]; omega
    by_cases hlt : k < S.size
    · have hkl : k < x.length := by omega
      have x0 := (unhideR ST).ix hkl
      have hby := U.isBytes_getD (unhideR HX) k
      have HA : Hid (acc ++ showP (x.getD k 0) = 34 :: (x.take (k + 1)).flatMap showP) := by
        show _ = _
        rw [showP_step hkl, ← List.cons_append, ← ha.out]
      have sp := showP_bytes hby
      have SA := St.app (St.of (unhideR hab)) (St.of sp.1)
      cases hr : rawB (x.getD k 0) with
      | true =>
        have es : showP (x.getD k 0) = [x.getD k 0] := by unfold showP; rw [if_pos hr]
        rw [es] at HA SA
        obtain ⟨r1, r2, r3, r4⟩ := raw_yes hr
        have p3 : (x.getD k 0 == 34) = false := beq_eq_false_iff_ne.2 r3
        have p4 : (x.getD k 0 == 92) = false := beq_eq_false_iff_ne.2 r4
        have cut : S.extract k (k + 1) = strOfNums [x.getD k 0] := by
          rw [(unhideR ST).sub k (k + 1)]
          congr 1
          rw [Nat.add_sub_cancel_left, List.drop_eq_getElem_cons hkl, List.take_succ_cons, List.take_zero, List.getD, List.getElem?_eq_getElem hkl]
          rfl
        have z1 : (strOfNums [x.getD k 0]).size ≤ 1 := by rw [strOfNums_size]; simp
        have HSA := hideR SA
        have HC := hideR cut
        have cut2 : ∀ W, (Instr.slice 9 (.string S) (some (.int .i64 (k : Int))) (some (.int .i64 ((k : Int) + 1))) none).run Tryz.prog W = .ok (.string (strOfNums [x.getD k 0])) W := fun W => by
          have := (unhideR ST).part (a := k) (b := k + 1) (by omega) (by omega) W
          rw [Nat.add_sub_cancel_left, List.drop_eq_getElem_cons hkl, List.take_succ_cons, List.take_zero] at this
          rw [List.getD, List.getElem?_eq_getElem hkl]
          simpa using this
        clear ST HX CX ha hab hby sp SA es hr r3 r4
        generalize x.getD k 0 = z at *
        generalize hXS : strOfNums acc = XS at *
        generalize strOfNums [z] = ZS at *
        have hXs := hideR hXS
        clear hXS
        go_wp2_with fail
        go_roundw
        case rel => exact ⟨k + 1, acc ++ [z], by omega, by (first | rw [← (unhideR HSA).1] | rw [unhideR HC, ← (unhideR HSA).1]), by go_num, HA, (unhideR HSA).2, by rw [List.length_append, List.length_singleton]; omega, hb, hg⟩
        case measure => simp [intOf]; omega
      | false =>
        have es : showP (x.getD k 0) = [92, 120] ++ hex2 (x.getD k 0) := by unfold showP; rw [hr]; rfl
        have hz := raw_no hr
        obtain ⟨n, en⟩ : ∃ n : Nat, x.getD k 0 = (n : Int) := ⟨(x.getD k 0).toNat, by omega⟩
        have hn : n ≤ 255 := by omega
        have C1 := hideR (unhideR CX n hn wr)
        have hb2 : U.isBytes (hex2 (n : Int)) := by rw [← hexT_is (by omega) (by omega)]; exact (hexT_bytes _).1
        have st_bx : St ⟨#[92, 120]⟩ [92, 120] := ⟨rfl, by intro z hz; simp at hz; omega⟩
        have SA2 := St.app (St.app (St.of (unhideR hab)) st_bx) (St.of hb2)
        have z1 : (strOfNums (hex2 (n : Int))).size ≤ 2 := by rw [strOfNums_size]; simp [hex2]
        rw [es] at HA
        rw [en] at HA x0 hz
        have l2 : (hex2 (n : Int)).length = 2 := rfl
        have HSA := hideR SA2
        clear ST HX CX ha hab hby sp SA es hr en hb2 st_bx SA2
        generalize hXS : strOfNums acc = XS at *
        generalize strOfNums (hex2 (n : Int)) = ZS at *
        generalize hex2 (n : Int) = HN at *
        have hXs := hideR hXS
        clear hXS
        have wn : IntKind.i64.wrap (n : Int) = (n : Int) := by simp [IntKind.wrap, IntKind.bits, IntKind.signed]; omega
        rcases hz with hz | hz | hz | hz
        · go_wp2_with fail
          refine (unhideR C1).mono ?_
          rintro e w1 ⟨rfl, hw1⟩
          obtain rfl : wr = w1 := hw1.symm
          clear C1 hw1
          go_wp2_with fail
          go_roundw
          case rel => exact ⟨k + 1, acc ++ ([92, 120] ++ HN), by omega, by rw [← List.append_assoc, ← (unhideR HSA).1], by go_num, HA, (by show U.isBytes _; rw [← List.append_assoc]; exact (unhideR HSA).2), by rw [List.length_append, List.length_append]; simp only [List.length_cons, List.length_nil]; omega, hb, hg⟩
          case measure => simp [intOf]; omega
        · have hz' : ¬ (n : Int) < 32 := by omega
          go_wp2_with fail
          refine (unhideR C1).mono ?_
          rintro e w1 ⟨rfl, hw1⟩
          obtain rfl : wr = w1 := hw1.symm
          clear C1 hw1
          go_wp2_with fail
          go_roundw
          case rel => exact ⟨k + 1, acc ++ ([92, 120] ++ HN), by omega, by rw [← List.append_assoc, ← (unhideR HSA).1], by go_num, HA, (by show U.isBytes _; rw [← List.append_assoc]; exact (unhideR HSA).2), by rw [List.length_append, List.length_append]; simp only [List.length_cons, List.length_nil]; omega, hb, hg⟩
          case measure => simp [intOf]; omega
        · obtain rfl : n = 34 := by omega
          go_wp2_with fail
          refine (unhideR C1).mono ?_
          rintro e w1 ⟨rfl, hw1⟩
          obtain rfl : wr = w1 := hw1.symm
          clear C1 hw1
          go_wp2_with fail
          go_roundw
          case rel => exact ⟨k + 1, acc ++ ([92, 120] ++ HN), by omega, by rw [← List.append_assoc, ← (unhideR HSA).1], by go_num, HA, (by show U.isBytes _; rw [← List.append_assoc]; exact (unhideR HSA).2), by rw [List.length_append, List.length_append]; simp only [List.length_cons, List.length_nil]; omega, hb, hg⟩
          case measure => simp [intOf]; omega
        · obtain rfl : n = 92 := by omega
          go_wp2_with fail
          refine (unhideR C1).mono ?_
          rintro e w1 ⟨rfl, hw1⟩
          obtain rfl : wr = w1 := hw1.symm
          clear C1 hw1
          go_wp2_with fail
          go_roundw
          case rel => exact ⟨k + 1, acc ++ ([92, 120] ++ HN), by omega, by rw [← List.append_assoc, ← (unhideR HSA).1], by go_num, HA, (by show U.isBytes _; rw [← List.append_assoc]; exact (unhideR HSA).2), by rw [List.length_append, List.length_append]; simp only [List.length_cons, List.length_nil]; omega, hb, hg⟩
          case measure => simp [intOf]; omega
    · obtain rfl : k = S.size := by omega
      have ha' := ha.out
      rw [List.take_of_length_le (by omega)] at ha'
      have st_q : St ⟨#[34]⟩ [34] := ⟨rfl, by intro z hz; simp at hz; omega⟩
      have SA := (St.app (St.of (unhideR hab)) st_q).1
      rw [ha'] at SA
      have HE := hideR (congrArg strOfNums ha')
      have HSA := hideR SA
      clear ha ha' hab CX ST HX st_q SA
      generalize strOfNums acc = X at *
      go_wp2_with fail
      go_ret
      exact ⟨by rw [show 34 :: (x.flatMap showP ++ [34]) = (34 :: x.flatMap showP) ++ [34] from rfl, ← unhideR HSA, ← unhideR HE]; rfl, hb⟩
set_option maxRecDepth 20000 in
set_option maxHeartbeats 4000000 in
theorem rtext_any (t : Tk) (a : Option Addr) (c : Nat) (p : Int) (w : World) (h : TokA w t a c) (ho : setOk t) :
    Calls Tryz.prog 30 #[.agg (tokAgg t a c p)] w fun e w' => e = .returned (.string (strOfNums (textL t))) ∧ Below w.heap.size w w' := by
  obtain ⟨k, x, R⟩ := t
  have hx := h.hx
  have hxl := h.hxl
  have hr := h.hr
  have hrl := h.hrl
  obtain ⟨o2, o3⟩ := ho
  simp only at hx hxl hr hrl o2 o3
  clear h
  by_cases c1 : k = 1
  · subst c1
    exact rtext_lit x R a c p w hx hxl
  have B1 : ∀ o, Below w.heap.size w (w.alloc o) := fun o => Below.new1 o
  have zx : (strOfNums x).size ≤ 3000 := by rw [strOfNums_size]; exact hxl
  unfold tokAgg
  simp only
  have n1 : (k == 1) = false := beq_eq_false_iff_ne.2 c1
  by_cases c5 : k = 5
  · subst c5
    have st_a : St ⟨#[64]⟩ [64] := ⟨rfl, by intro z hz; simp at hz; omega⟩
    have e0 : textL (5, x, R) = [64] ++ x := rfl
    rw [e0, ← (St.app st_a (St.of hx)).1]
    clear hr o2 o3 hx e0 st_a B1
    generalize strOfNums x = X at *
    go_enter Tryz.func30, Tryz.ntmps30
    go_wp2_with fail
    go_ret
    exact ⟨rfl, Below.new1 _⟩
  have n5 : (k == 5) = false := beq_eq_false_iff_ne.2 c5
  by_cases c2 : k = 2
  · subst c2
    have ok := o2 rfl
    have C := hideR (fun o => rset_any false a R.length c R (w.alloc o) (Rs.later hr (B1 o) (Nat.le_refl _)) hrl ok)
    have hb : U.isBytes (R.flatMap (showI false)) ∧ (R.flatMap (showI false)).length ≤ 30 * R.length := flat_bytes _ 30 R (fun r hr => by
      obtain ⟨a1, a2, a3, a4⟩ := ok r hr
      have s1 := showO_ok false a1 a3
      have s2 := showO_ok false a2 a4
      unfold showI
      split
      · exact ⟨bytes_app s1.1 (bytes_cons (by omega) (by omega) s2.1), by rw [List.length_append, List.length_cons]; omega⟩
      · exact ⟨s1.1, by omega⟩)
    have st_a : St ⟨#[91]⟩ [91] := ⟨rfl, by intro z hz; simp at hz; omega⟩
    have st_b : St ⟨#[93]⟩ [93] := ⟨rfl, by intro z hz; simp at hz; omega⟩
    have e0 : textL (2, x, R) = ([91] ++ R.flatMap (showI false)) ++ [93] := rfl
    rw [e0, ← (St.app (St.app st_a (St.of hb.1)) st_b).1]
    have zf : (strOfNums (R.flatMap (showI false))).size ≤ 90000 := by rw [strOfNums_size]; omega
    clear hr o2 o3 hx e0 st_a st_b B1 ok hb
    generalize strOfNums x = X at *
    generalize strOfNums (R.flatMap (showI false)) = Y at *
    go_enter Tryz.func30, Tryz.ntmps30
    go_wp2_with fail
    refine (unhideR C _).mono ?_
    rintro e w1 ⟨rfl, b1⟩
    clear C
    go_wp2_with fail
    go_ret
    exact ⟨rfl, bthen (Below.new1 _) b1⟩
  have n2 : (k == 2) = false := beq_eq_false_iff_ne.2 c2
  by_cases c3 : k = 3
  · subst c3
    have ok := o3 rfl
    have C := hideR (fun o => rset_any true a R.length c R (w.alloc o) (Rs.later hr (B1 o) (Nat.le_refl _)) hrl ok)
    have hb : U.isBytes (R.flatMap (showI true)) ∧ (R.flatMap (showI true)).length ≤ 30 * R.length := flat_bytes _ 30 R (fun r hr => by
      obtain ⟨a1, a2, a3, a4⟩ := ok r hr
      have s1 := showO_ok true a1 a3
      have s2 := showO_ok true a2 a4
      unfold showI
      split
      · exact ⟨bytes_app s1.1 (bytes_cons (by omega) (by omega) s2.1), by rw [List.length_append, List.length_cons]; omega⟩
      · exact ⟨s1.1, by omega⟩)
    have st_a : St ⟨#[60]⟩ [60] := ⟨rfl, by intro z hz; simp at hz; omega⟩
    have st_b : St ⟨#[62]⟩ [62] := ⟨rfl, by intro z hz; simp at hz; omega⟩
    have e0 : textL (3, x, R) = ([60] ++ R.flatMap (showI true)) ++ [62] := rfl
    rw [e0, ← (St.app (St.app st_a (St.of hb.1)) st_b).1]
    have zf : (strOfNums (R.flatMap (showI true))).size ≤ 90000 := by rw [strOfNums_size]; omega
    clear hr o2 o3 hx e0 st_a st_b B1 ok hb
    generalize strOfNums x = X at *
    generalize strOfNums (R.flatMap (showI true)) = Y at *
    go_enter Tryz.func30, Tryz.ntmps30
    go_wp2_with fail
    refine (unhideR C _).mono ?_
    rintro e w1 ⟨rfl, b1⟩
    clear C
    go_wp2_with fail
    go_ret
    exact ⟨rfl, bthen (Below.new1 _) b1⟩
  · have n3 : (k == 3) = false := beq_eq_false_iff_ne.2 c3
    have e0 : textL (k, x, R) = x := by unfold textL; simp [c1, c2, c3, c5]
    rw [e0]
    clear hr o2 o3 hx e0 B1
    generalize strOfNums x = X at *
    go_enter Tryz.func30, Tryz.ntmps30
    go_wp2_with fail
    go_ret
    exact ⟨rfl, Below.new1 _⟩
end Go.Proofs.YtdaadeohamkoiaaGreatDoor.T

/- Contracts of the document's own answers of layer 5: the token from a place on: names, marks, signs. -/
namespace Go.Proofs.YtdaadeohamkoiaaGreatDoor.T
open Go.RowKit
set_option linter.unusedVariables false
set_option linter.unusedSimpArgs false

set_option maxRecDepth 20000 in
set_option maxHeartbeats 4000000 in
theorem rnext_name (s : ByteArray) (l : List Int) (h : St s l) (hs : l.length ≤ 3000) (a : Nat) (ha : a < l.length) (w : World) (hl : isLet (l.getD a 0) = true) :
    Calls Tryz.prog 27 #[.string s, .int .i64 a] w fun e w' => ∃ v n, e = .returned (.tuple #[v, .int .i64 (n : Nat)]) ∧ TokP w' v n a (tokL (l.drop a)) ∧ Below w.heap.size w w' := by
  have hsz := h.size
  have x0 := h.ix ha
  obtain ⟨z0, z1⟩ := h.byte a
  have hd0 : (l.drop a).getD 0 0 = l.getD a 0 := by rw [drop_getD, Nat.add_zero]
  have haI : (a : Int) < (s.size : Int) := by omega
  have hss : s.size ≤ 3000 := by omega
  have CL := hideR (fun W => letter_any (l.getD a 0) z0 z1 W)
  have CW := hideR (fun W => word_any s l h (by omega) a (by omega) W)
  rw [hl] at CL
  have et := tok_name (l := l.drop a) (by rw [hd0]; exact hl)
  have wl := word_le (l.drop a)
  rw [List.length_drop] at wl
  have sl := fun (n : Nat) (hn : a + n ≤ l.length) => h.part (a := a) (b := a + n) (by omega) hn
  generalize hwn : wordN (l.drop a) = n at *
  have SL := sl n (by omega)
  rw [Nat.add_sub_cancel_left] at SL
  have SL2 : ∀ W, (Instr.slice 9 (.string s) (some (.int .i64 (a : Int))) (some (.int .i64 ((a : Int) + (n : Int)))) none).run Tryz.prog W = .ok (.string (strOfNums ((l.drop a).take n))) W := SL
  generalize l.getD a 0 = z at *
  clear sl hwn hd0 hsz h hl SL
  by_cases c : 12 < n
  · rw [if_pos c] at et
    have ET := hideR et
    have c1 : (12 : Int) < (n : Int) := by omega
    clear et
    go_enter Tryz.func27, Tryz.ntmps27
    go_wp2_with fail
    refine (unhideR CL _).mono ?_
    rintro e w1 ⟨rfl, hw1⟩
    obtain rfl := hw1
    clear CL
    go_wp2_with fail
    refine (unhideR CW _).mono ?_
    rintro e w1 ⟨rfl, hw1⟩
    obtain rfl := hw1
    clear CW SL2
    have BB : Below ((w.alloc (.cells #[.int .i64 0, .string ⟨#[]⟩, .slice none 0 0, .int .i64 0] 24)).alloc (.cells #[.int .i64 0, .string ⟨#[]⟩, .slice none 0 0, .int .i64 0] 24)).heap.size ((w.alloc (.cells #[.int .i64 0, .string ⟨#[]⟩, .slice none 0 0, .int .i64 0] 24)).alloc (.cells #[.int .i64 0, .string ⟨#[]⟩, .slice none 0 0, .int .i64 0] 24)) ((w.alloc (.cells #[.int .i64 0, .string ⟨#[]⟩, .slice none 0 0, .int .i64 0] 24)).alloc (.cells #[.int .i64 0, .string ⟨#[]⟩, .slice none 0 0, .int .i64 0] 24)) := Below.refl _ _
    obtain ⟨HG, HH⟩ := two_new BB
    obtain ⟨⟨q0, q1, q2, q3⟩, f0, f1, f2, f3⟩ := cells4 HG
    obtain ⟨⟨r0, r1, r2, r3⟩, -⟩ := cells4 HH
    go_wp2_with fail
    (try simp only [Exit.inBlock, Exit.then])
    refine bodyPost_ret (v := .tuple #[zeroTok, .int .i64 (0 : Nat)]) ?_ rfl ⟨_, _, rfl, .inl ⟨unhideR ET, rfl, rfl⟩, ?_⟩
    · rw [results_cell_tmp rfl]
      go_simp
      (try rfl)
    · first | exact set4 (b2_of BB) (Nat.le_refl _) _ _ _ _ | exact bthen (Below.new1 _) (Below.new1 _)
  · rw [if_neg c] at et
    have ET := hideR et
    have c1 : ¬ ((12 : Int) < (n : Int)) := by omega
    generalize hX : strOfNums ((l.drop a).take n) = X at *
    clear et
    go_enter Tryz.func27, Tryz.ntmps27
    go_wp2_with fail
    refine (unhideR CL _).mono ?_
    rintro e w1 ⟨rfl, hw1⟩
    obtain rfl := hw1
    clear CL
    go_wp2_with fail
    refine (unhideR CW _).mono ?_
    rintro e w1 ⟨rfl, hw1⟩
    obtain rfl := hw1
    clear CW
    have BB : Below ((w.alloc (.cells #[.int .i64 0, .string ⟨#[]⟩, .slice none 0 0, .int .i64 0] 24)).alloc (.cells #[.int .i64 0, .string ⟨#[]⟩, .slice none 0 0, .int .i64 0] 24)).heap.size ((w.alloc (.cells #[.int .i64 0, .string ⟨#[]⟩, .slice none 0 0, .int .i64 0] 24)).alloc (.cells #[.int .i64 0, .string ⟨#[]⟩, .slice none 0 0, .int .i64 0] 24)) ((w.alloc (.cells #[.int .i64 0, .string ⟨#[]⟩, .slice none 0 0, .int .i64 0] 24)).alloc (.cells #[.int .i64 0, .string ⟨#[]⟩, .slice none 0 0, .int .i64 0] 24)) := Below.refl _ _
    obtain ⟨HG, HH⟩ := two_new BB
    obtain ⟨⟨q0, q1, q2, q3⟩, f0, f1, f2, f3⟩ := cells4 HG
    obtain ⟨⟨r0, r1, r2, r3⟩, -⟩ := cells4 HH
    go_wp2_with fail
    (try simp only [Exit.inBlock, Exit.then])
    refine bodyPost_ret (v := .tuple #[.agg #[.int .i64 0, .string X, .slice none 0 0, .int .i64 (a : Int)], .int .i64 ((n : Nat) : Int)]) ?_ rfl ⟨_, _, rfl, .inr ⟨_, unhideR ET, by rw [← hX]; exact TokV.plain _ 0 _ _⟩, ?_⟩
    · rw [results_cell_tmp rfl]
      go_simp
      (try first | rfl | omega)
    · first | exact set4 (b2_of BB) (Nat.le_refl _) _ _ _ _ | exact bthen (Below.new1 _) (Below.new1 _)
set_option maxRecDepth 20000 in
set_option maxHeartbeats 4000000 in
theorem rnext_mark (s : ByteArray) (l : List Int) (h : St s l) (hs : l.length ≤ 3000) (a : Nat) (ha : a < l.length) (w : World) (hz : l.getD a 0 = 64) :
    Calls Tryz.prog 27 #[.string s, .int .i64 a] w fun e w' => ∃ v n, e = .returned (.tuple #[v, .int .i64 (n : Nat)]) ∧ TokP w' v n a (tokL (l.drop a)) ∧ Below w.heap.size w w' := by
  have hsz := h.size
  have x0 := h.ix ha
  obtain ⟨z0, z1⟩ := h.byte a
  have hd0 : (l.drop a).getD 0 0 = l.getD a 0 := by rw [drop_getD, Nat.add_zero]
  have haI : (a : Int) < (s.size : Int) := by omega
  have hss : s.size ≤ 3000 := by omega
  have CL := hideR (fun W => letter_any (l.getD a 0) z0 z1 W)
  have hl : isLet (l.getD a 0) = false := by rw [hz]; decide
  rw [hl] at CL
  rw [hz] at x0 CL
  have e1 : (l.drop a).drop 1 = l.drop (a + 1) := by rw [List.drop_drop]
  have CW := hideR (fun W => word_any s l h (by omega) (a + 1) (by omega) W)
  have et : tokL (l.drop a) = if (l.drop (a + 1)).take (wordN (l.drop (a + 1))) ∈ marks then some ((5, (l.drop (a + 1)).take (wordN (l.drop (a + 1))), []), wordN (l.drop (a + 1)) + 1) else none := by
    unfold tokL
    rw [hd0, hz, e1, if_neg (by decide), if_pos rfl]
  have wl := word_le (l.drop (a + 1))
  rw [List.length_drop] at wl
  have sl := fun (n : Nat) (hn : a + 1 + n ≤ l.length) => h.part (a := a + 1) (b := a + 1 + n) (by omega) hn
  have hbx : ∀ n, U.isBytes ((l.drop (a + 1)).take n) := fun n z hz => h.2 z (List.mem_of_mem_drop (List.mem_of_mem_take hz))
  generalize hwn : wordN (l.drop (a + 1)) = n at *
  have SL := sl n (by omega)
  rw [Nat.add_sub_cancel_left] at SL
  replace SL : ∀ W, (Instr.slice 9 (.string s) (some (.int .i64 ((a : Int) + 1))) (some (.int .i64 ((a : Int) + 1 + (n : Int)))) none).run Tryz.prog W = .ok (.string (strOfNums ((l.drop (a + 1)).take n))) W := SL
  replace CW : Hid (∀ W, Calls Tryz.prog 52 #[.string s, .int .i64 ((a : Int) + 1)] W fun e w' => e = .returned (.int .i64 (n : Int)) ∧ w' = W) := CW
  have CM := hideR (fun W => mark_any (strOfNums ((l.drop (a + 1)).take n)) _ (St.of (hbx n)) W)
  unfold markB at CM
  generalize hX : (l.drop (a + 1)).take n = X at *
  clear sl hwn hd0 hsz h hl e1 hz hbx
  by_cases c : X ∈ marks
  · rw [if_pos c] at et
    rw [decide_eq_true c] at CM
    have ET := hideR et
    generalize hXS : strOfNums X = XS at *
    have HX := hideR hXS
    clear et c hXS hX
    go_enter Tryz.func27, Tryz.ntmps27
    go_wp2_with fail
    refine (unhideR CL _).mono ?_
    rintro e w1 ⟨rfl, hw1⟩
    obtain rfl := hw1
    clear CL
    go_wp2_with fail
    refine (unhideR CW _).mono ?_
    rintro e w1 ⟨rfl, hw1⟩
    obtain rfl := hw1
    clear CW
    go_wp2_with fail
    refine (unhideR CM _).mono ?_
    rintro e w1 ⟨rfl, hw1⟩
    obtain rfl := hw1
    clear CM
    have BB : Below ((w.alloc (.cells #[.int .i64 0, .string ⟨#[]⟩, .slice none 0 0, .int .i64 0] 24)).alloc (.cells #[.int .i64 0, .string ⟨#[]⟩, .slice none 0 0, .int .i64 0] 24)).heap.size ((w.alloc (.cells #[.int .i64 0, .string ⟨#[]⟩, .slice none 0 0, .int .i64 0] 24)).alloc (.cells #[.int .i64 0, .string ⟨#[]⟩, .slice none 0 0, .int .i64 0] 24)) ((w.alloc (.cells #[.int .i64 0, .string ⟨#[]⟩, .slice none 0 0, .int .i64 0] 24)).alloc (.cells #[.int .i64 0, .string ⟨#[]⟩, .slice none 0 0, .int .i64 0] 24)) := Below.refl _ _
    obtain ⟨HG, HH⟩ := two_new BB
    obtain ⟨⟨q0, q1, q2, q3⟩, f0, f1, f2, f3⟩ := cells4 HG
    obtain ⟨⟨r0, r1, r2, r3⟩, -⟩ := cells4 HH
    go_wp2_with fail
    (try simp only [Exit.inBlock, Exit.then])
    refine bodyPost_ret (v := .tuple #[.agg #[.int .i64 5, .string XS, .slice none 0 0, .int .i64 (a : Int)], .int .i64 ((n + 1 : Nat) : Int)]) ?_ rfl ⟨_, _, rfl, .inr ⟨_, unhideR ET, by rw [← unhideR HX]; exact TokV.plain _ 5 _ _⟩, ?_⟩
    · rw [results_cell_tmp rfl]
      go_simp
      (try first | rfl | omega)
    · first | exact set4 (b2_of BB) (Nat.le_refl _) _ _ _ _ | exact bthen (Below.new1 _) (Below.new1 _)
  · rw [if_neg c] at et
    rw [decide_eq_false c] at CM
    have ET := hideR et
    generalize strOfNums X = XS at *
    clear et c hX
    go_enter Tryz.func27, Tryz.ntmps27
    go_wp2_with fail
    refine (unhideR CL _).mono ?_
    rintro e w1 ⟨rfl, hw1⟩
    obtain rfl := hw1
    clear CL
    go_wp2_with fail
    refine (unhideR CW _).mono ?_
    rintro e w1 ⟨rfl, hw1⟩
    obtain rfl := hw1
    clear CW
    go_wp2_with fail
    refine (unhideR CM _).mono ?_
    rintro e w1 ⟨rfl, hw1⟩
    obtain rfl := hw1
    clear CM
    have BB : Below ((w.alloc (.cells #[.int .i64 0, .string ⟨#[]⟩, .slice none 0 0, .int .i64 0] 24)).alloc (.cells #[.int .i64 0, .string ⟨#[]⟩, .slice none 0 0, .int .i64 0] 24)).heap.size ((w.alloc (.cells #[.int .i64 0, .string ⟨#[]⟩, .slice none 0 0, .int .i64 0] 24)).alloc (.cells #[.int .i64 0, .string ⟨#[]⟩, .slice none 0 0, .int .i64 0] 24)) ((w.alloc (.cells #[.int .i64 0, .string ⟨#[]⟩, .slice none 0 0, .int .i64 0] 24)).alloc (.cells #[.int .i64 0, .string ⟨#[]⟩, .slice none 0 0, .int .i64 0] 24)) := Below.refl _ _
    obtain ⟨HG, HH⟩ := two_new BB
    obtain ⟨⟨q0, q1, q2, q3⟩, f0, f1, f2, f3⟩ := cells4 HG
    obtain ⟨⟨r0, r1, r2, r3⟩, -⟩ := cells4 HH
    go_wp2_with fail
    (try simp only [Exit.inBlock, Exit.then])
    refine bodyPost_ret (v := .tuple #[zeroTok, .int .i64 (0 : Nat)]) ?_ rfl ⟨_, _, rfl, .inl ⟨unhideR ET, rfl, rfl⟩, ?_⟩
    · rw [results_cell_tmp rfl]
      go_simp
      (try rfl)
    · first | exact set4 (b2_of BB) (Nat.le_refl _) _ _ _ _ | exact bthen (Below.new1 _) (Below.new1 _)
set_option maxRecDepth 20000 in
set_option maxHeartbeats 4000000 in
theorem rnext_sign (s : ByteArray) (l : List Int) (h : St s l) (hs : l.length ≤ 3000) (a : Nat) (ha : a < l.length) (w : World) (hz : l.getD a 0 ∈ signs) :
    Calls Tryz.prog 27 #[.string s, .int .i64 a] w fun e w' => ∃ v n, e = .returned (.tuple #[v, .int .i64 (n : Nat)]) ∧ TokP w' v n a (tokL (l.drop a)) ∧ Below w.heap.size w w' := by
  have hsz := h.size
  have x0 := h.ix ha
  obtain ⟨z0, z1⟩ := h.byte a
  have hd0 : (l.drop a).getD 0 0 = l.getD a 0 := by rw [drop_getD, Nat.add_zero]
  have haI : (a : Int) < (s.size : Int) := by omega
  have hss : s.size ≤ 3000 := by omega
  have CL := hideR (fun W => letter_any (l.getD a 0) z0 z1 W)
  have hl : isLet (l.getD a 0) = false := (sign_facts _ hz).1
  have h64 : l.getD a 0 ≠ 64 := (sign_facts _ hz).2.1
  rw [hl] at CL
  have et : tokL (l.drop a) = some ((4, [l.getD a 0], []), 1) := by
    unfold tokL
    rw [hd0, if_neg (by rw [hl]; decide), if_neg h64, if_pos hz]
  have SL := h.part (a := a) (b := a + 1) (by omega) (by omega)
  have eT : (l.drop a).take (a + 1 - a) = [l.getD a 0] := by
    rw [Nat.add_sub_cancel_left, List.drop_eq_getElem_cons ha, List.take_succ_cons, List.take_zero]
    simp [List.getD, ha]
  rw [eT] at SL
  replace SL : ∀ W, (Instr.slice 9 (.string s) (some (.int .i64 (a : Int))) (some (.int .i64 ((a : Int) + 1))) none).run Tryz.prog W = .ok (.string (strOfNums [l.getD a 0])) W := SL
  have ET := hideR et
  clear hd0 hsz h hl h64 et eT ha
  generalize l.getD a 0 = z at *
  generalize hX : strOfNums [z] = X at *
  have HX := hideR hX
  clear hX
  simp only [signs, List.mem_cons, List.not_mem_nil, or_false] at hz
  rcases hz with rfl | rfl | rfl | rfl | rfl | rfl | rfl | rfl | rfl | rfl
  · go_enter Tryz.func27, Tryz.ntmps27
    go_wp2_with fail
    refine (unhideR CL _).mono ?_
    rintro e w1 ⟨rfl, hw1⟩
    obtain rfl := hw1
    clear CL
    go_wp2_with fail
    have BB : Below ((w.alloc (.cells #[.int .i64 0, .string ⟨#[]⟩, .slice none 0 0, .int .i64 0] 24)).alloc (.cells #[.int .i64 0, .string ⟨#[]⟩, .slice none 0 0, .int .i64 0] 24)).heap.size ((w.alloc (.cells #[.int .i64 0, .string ⟨#[]⟩, .slice none 0 0, .int .i64 0] 24)).alloc (.cells #[.int .i64 0, .string ⟨#[]⟩, .slice none 0 0, .int .i64 0] 24)) ((w.alloc (.cells #[.int .i64 0, .string ⟨#[]⟩, .slice none 0 0, .int .i64 0] 24)).alloc (.cells #[.int .i64 0, .string ⟨#[]⟩, .slice none 0 0, .int .i64 0] 24)) := Below.refl _ _
    obtain ⟨HG, HH⟩ := two_new BB
    obtain ⟨⟨q0, q1, q2, q3⟩, f0, f1, f2, f3⟩ := cells4 HG
    obtain ⟨⟨r0, r1, r2, r3⟩, -⟩ := cells4 HH
    (try simp only [Exit.inBlock, Exit.then])
    refine bodyPost_ret (v := .tuple #[.agg #[.int .i64 4, .string X, .slice none 0 0, .int .i64 (a : Int)], .int .i64 ((1 : Nat) : Int)]) ?_ rfl ⟨_, _, rfl, .inr ⟨_, unhideR ET, by rw [← unhideR HX]; exact TokV.plain _ 4 _ _⟩, ?_⟩
    · rw [results_cell_tmp rfl]
      go_simp
      (try first | rfl | omega)
    · first | exact set4 (b2_of BB) (Nat.le_refl _) _ _ _ _ | exact bthen (Below.new1 _) (Below.new1 _)
  · go_enter Tryz.func27, Tryz.ntmps27
    go_wp2_with fail
    refine (unhideR CL _).mono ?_
    rintro e w1 ⟨rfl, hw1⟩
    obtain rfl := hw1
    clear CL
    go_wp2_with fail
    have BB : Below ((w.alloc (.cells #[.int .i64 0, .string ⟨#[]⟩, .slice none 0 0, .int .i64 0] 24)).alloc (.cells #[.int .i64 0, .string ⟨#[]⟩, .slice none 0 0, .int .i64 0] 24)).heap.size ((w.alloc (.cells #[.int .i64 0, .string ⟨#[]⟩, .slice none 0 0, .int .i64 0] 24)).alloc (.cells #[.int .i64 0, .string ⟨#[]⟩, .slice none 0 0, .int .i64 0] 24)) ((w.alloc (.cells #[.int .i64 0, .string ⟨#[]⟩, .slice none 0 0, .int .i64 0] 24)).alloc (.cells #[.int .i64 0, .string ⟨#[]⟩, .slice none 0 0, .int .i64 0] 24)) := Below.refl _ _
    obtain ⟨HG, HH⟩ := two_new BB
    obtain ⟨⟨q0, q1, q2, q3⟩, f0, f1, f2, f3⟩ := cells4 HG
    obtain ⟨⟨r0, r1, r2, r3⟩, -⟩ := cells4 HH
    (try simp only [Exit.inBlock, Exit.then])
    refine bodyPost_ret (v := .tuple #[.agg #[.int .i64 4, .string X, .slice none 0 0, .int .i64 (a : Int)], .int .i64 ((1 : Nat) : Int)]) ?_ rfl ⟨_, _, rfl, .inr ⟨_, unhideR ET, by rw [← unhideR HX]; exact TokV.plain _ 4 _ _⟩, ?_⟩
    · rw [results_cell_tmp rfl]
      go_simp
      (try first | rfl | omega)
    · first | exact set4 (b2_of BB) (Nat.le_refl _) _ _ _ _ | exact bthen (Below.new1 _) (Below.new1 _)
  · go_enter Tryz.func27, Tryz.ntmps27
    go_wp2_with fail
    refine (unhideR CL _).mono ?_
    rintro e w1 ⟨rfl, hw1⟩
    obtain rfl := hw1
    clear CL
    go_wp2_with fail
    have BB : Below ((w.alloc (.cells #[.int .i64 0, .string ⟨#[]⟩, .slice none 0 0, .int .i64 0] 24)).alloc (.cells #[.int .i64 0, .string ⟨#[]⟩, .slice none 0 0, .int .i64 0] 24)).heap.size ((w.alloc (.cells #[.int .i64 0, .string ⟨#[]⟩, .slice none 0 0, .int .i64 0] 24)).alloc (.cells #[.int .i64 0, .string ⟨#[]⟩, .slice none 0 0, .int .i64 0] 24)) ((w.alloc (.cells #[.int .i64 0, .string ⟨#[]⟩, .slice none 0 0, .int .i64 0] 24)).alloc (.cells #[.int .i64 0, .string ⟨#[]⟩, .slice none 0 0, .int .i64 0] 24)) := Below.refl _ _
    obtain ⟨HG, HH⟩ := two_new BB
    obtain ⟨⟨q0, q1, q2, q3⟩, f0, f1, f2, f3⟩ := cells4 HG
    obtain ⟨⟨r0, r1, r2, r3⟩, -⟩ := cells4 HH
    (try simp only [Exit.inBlock, Exit.then])
    refine bodyPost_ret (v := .tuple #[.agg #[.int .i64 4, .string X, .slice none 0 0, .int .i64 (a : Int)], .int .i64 ((1 : Nat) : Int)]) ?_ rfl ⟨_, _, rfl, .inr ⟨_, unhideR ET, by rw [← unhideR HX]; exact TokV.plain _ 4 _ _⟩, ?_⟩
    · rw [results_cell_tmp rfl]
      go_simp
      (try first | rfl | omega)
    · first | exact set4 (b2_of BB) (Nat.le_refl _) _ _ _ _ | exact bthen (Below.new1 _) (Below.new1 _)
  · go_enter Tryz.func27, Tryz.ntmps27
    go_wp2_with fail
    refine (unhideR CL _).mono ?_
    rintro e w1 ⟨rfl, hw1⟩
    obtain rfl := hw1
    clear CL
    go_wp2_with fail
    have BB : Below ((w.alloc (.cells #[.int .i64 0, .string ⟨#[]⟩, .slice none 0 0, .int .i64 0] 24)).alloc (.cells #[.int .i64 0, .string ⟨#[]⟩, .slice none 0 0, .int .i64 0] 24)).heap.size ((w.alloc (.cells #[.int .i64 0, .string ⟨#[]⟩, .slice none 0 0, .int .i64 0] 24)).alloc (.cells #[.int .i64 0, .string ⟨#[]⟩, .slice none 0 0, .int .i64 0] 24)) ((w.alloc (.cells #[.int .i64 0, .string ⟨#[]⟩, .slice none 0 0, .int .i64 0] 24)).alloc (.cells #[.int .i64 0, .string ⟨#[]⟩, .slice none 0 0, .int .i64 0] 24)) := Below.refl _ _
    obtain ⟨HG, HH⟩ := two_new BB
    obtain ⟨⟨q0, q1, q2, q3⟩, f0, f1, f2, f3⟩ := cells4 HG
    obtain ⟨⟨r0, r1, r2, r3⟩, -⟩ := cells4 HH
    (try simp only [Exit.inBlock, Exit.then])
    refine bodyPost_ret (v := .tuple #[.agg #[.int .i64 4, .string X, .slice none 0 0, .int .i64 (a : Int)], .int .i64 ((1 : Nat) : Int)]) ?_ rfl ⟨_, _, rfl, .inr ⟨_, unhideR ET, by rw [← unhideR HX]; exact TokV.plain _ 4 _ _⟩, ?_⟩
    · rw [results_cell_tmp rfl]
      go_simp
      (try first | rfl | omega)
    · first | exact set4 (b2_of BB) (Nat.le_refl _) _ _ _ _ | exact bthen (Below.new1 _) (Below.new1 _)
  · go_enter Tryz.func27, Tryz.ntmps27
    go_wp2_with fail
    refine (unhideR CL _).mono ?_
    rintro e w1 ⟨rfl, hw1⟩
    obtain rfl := hw1
    clear CL
    go_wp2_with fail
    have BB : Below ((w.alloc (.cells #[.int .i64 0, .string ⟨#[]⟩, .slice none 0 0, .int .i64 0] 24)).alloc (.cells #[.int .i64 0, .string ⟨#[]⟩, .slice none 0 0, .int .i64 0] 24)).heap.size ((w.alloc (.cells #[.int .i64 0, .string ⟨#[]⟩, .slice none 0 0, .int .i64 0] 24)).alloc (.cells #[.int .i64 0, .string ⟨#[]⟩, .slice none 0 0, .int .i64 0] 24)) ((w.alloc (.cells #[.int .i64 0, .string ⟨#[]⟩, .slice none 0 0, .int .i64 0] 24)).alloc (.cells #[.int .i64 0, .string ⟨#[]⟩, .slice none 0 0, .int .i64 0] 24)) := Below.refl _ _
    obtain ⟨HG, HH⟩ := two_new BB
    obtain ⟨⟨q0, q1, q2, q3⟩, f0, f1, f2, f3⟩ := cells4 HG
    obtain ⟨⟨r0, r1, r2, r3⟩, -⟩ := cells4 HH
    (try simp only [Exit.inBlock, Exit.then])
    refine bodyPost_ret (v := .tuple #[.agg #[.int .i64 4, .string X, .slice none 0 0, .int .i64 (a : Int)], .int .i64 ((1 : Nat) : Int)]) ?_ rfl ⟨_, _, rfl, .inr ⟨_, unhideR ET, by rw [← unhideR HX]; exact TokV.plain _ 4 _ _⟩, ?_⟩
    · rw [results_cell_tmp rfl]
      go_simp
      (try first | rfl | omega)
    · first | exact set4 (b2_of BB) (Nat.le_refl _) _ _ _ _ | exact bthen (Below.new1 _) (Below.new1 _)
  · go_enter Tryz.func27, Tryz.ntmps27
    go_wp2_with fail
    refine (unhideR CL _).mono ?_
    rintro e w1 ⟨rfl, hw1⟩
    obtain rfl := hw1
    clear CL
    go_wp2_with fail
    have BB : Below ((w.alloc (.cells #[.int .i64 0, .string ⟨#[]⟩, .slice none 0 0, .int .i64 0] 24)).alloc (.cells #[.int .i64 0, .string ⟨#[]⟩, .slice none 0 0, .int .i64 0] 24)).heap.size ((w.alloc (.cells #[.int .i64 0, .string ⟨#[]⟩, .slice none 0 0, .int .i64 0] 24)).alloc (.cells #[.int .i64 0, .string ⟨#[]⟩, .slice none 0 0, .int .i64 0] 24)) ((w.alloc (.cells #[.int .i64 0, .string ⟨#[]⟩, .slice none 0 0, .int .i64 0] 24)).alloc (.cells #[.int .i64 0, .string ⟨#[]⟩, .slice none 0 0, .int .i64 0] 24)) := Below.refl _ _
    obtain ⟨HG, HH⟩ := two_new BB
    obtain ⟨⟨q0, q1, q2, q3⟩, f0, f1, f2, f3⟩ := cells4 HG
    obtain ⟨⟨r0, r1, r2, r3⟩, -⟩ := cells4 HH
    (try simp only [Exit.inBlock, Exit.then])
    refine bodyPost_ret (v := .tuple #[.agg #[.int .i64 4, .string X, .slice none 0 0, .int .i64 (a : Int)], .int .i64 ((1 : Nat) : Int)]) ?_ rfl ⟨_, _, rfl, .inr ⟨_, unhideR ET, by rw [← unhideR HX]; exact TokV.plain _ 4 _ _⟩, ?_⟩
    · rw [results_cell_tmp rfl]
      go_simp
      (try first | rfl | omega)
    · first | exact set4 (b2_of BB) (Nat.le_refl _) _ _ _ _ | exact bthen (Below.new1 _) (Below.new1 _)
  · go_enter Tryz.func27, Tryz.ntmps27
    go_wp2_with fail
    refine (unhideR CL _).mono ?_
    rintro e w1 ⟨rfl, hw1⟩
    obtain rfl := hw1
    clear CL
    go_wp2_with fail
    have BB : Below ((w.alloc (.cells #[.int .i64 0, .string ⟨#[]⟩, .slice none 0 0, .int .i64 0] 24)).alloc (.cells #[.int .i64 0, .string ⟨#[]⟩, .slice none 0 0, .int .i64 0] 24)).heap.size ((w.alloc (.cells #[.int .i64 0, .string ⟨#[]⟩, .slice none 0 0, .int .i64 0] 24)).alloc (.cells #[.int .i64 0, .string ⟨#[]⟩, .slice none 0 0, .int .i64 0] 24)) ((w.alloc (.cells #[.int .i64 0, .string ⟨#[]⟩, .slice none 0 0, .int .i64 0] 24)).alloc (.cells #[.int .i64 0, .string ⟨#[]⟩, .slice none 0 0, .int .i64 0] 24)) := Below.refl _ _
    obtain ⟨HG, HH⟩ := two_new BB
    obtain ⟨⟨q0, q1, q2, q3⟩, f0, f1, f2, f3⟩ := cells4 HG
    obtain ⟨⟨r0, r1, r2, r3⟩, -⟩ := cells4 HH
    (try simp only [Exit.inBlock, Exit.then])
    refine bodyPost_ret (v := .tuple #[.agg #[.int .i64 4, .string X, .slice none 0 0, .int .i64 (a : Int)], .int .i64 ((1 : Nat) : Int)]) ?_ rfl ⟨_, _, rfl, .inr ⟨_, unhideR ET, by rw [← unhideR HX]; exact TokV.plain _ 4 _ _⟩, ?_⟩
    · rw [results_cell_tmp rfl]
      go_simp
      (try first | rfl | omega)
    · first | exact set4 (b2_of BB) (Nat.le_refl _) _ _ _ _ | exact bthen (Below.new1 _) (Below.new1 _)
  · go_enter Tryz.func27, Tryz.ntmps27
    go_wp2_with fail
    refine (unhideR CL _).mono ?_
    rintro e w1 ⟨rfl, hw1⟩
    obtain rfl := hw1
    clear CL
    go_wp2_with fail
    have BB : Below ((w.alloc (.cells #[.int .i64 0, .string ⟨#[]⟩, .slice none 0 0, .int .i64 0] 24)).alloc (.cells #[.int .i64 0, .string ⟨#[]⟩, .slice none 0 0, .int .i64 0] 24)).heap.size ((w.alloc (.cells #[.int .i64 0, .string ⟨#[]⟩, .slice none 0 0, .int .i64 0] 24)).alloc (.cells #[.int .i64 0, .string ⟨#[]⟩, .slice none 0 0, .int .i64 0] 24)) ((w.alloc (.cells #[.int .i64 0, .string ⟨#[]⟩, .slice none 0 0, .int .i64 0] 24)).alloc (.cells #[.int .i64 0, .string ⟨#[]⟩, .slice none 0 0, .int .i64 0] 24)) := Below.refl _ _
    obtain ⟨HG, HH⟩ := two_new BB
    obtain ⟨⟨q0, q1, q2, q3⟩, f0, f1, f2, f3⟩ := cells4 HG
    obtain ⟨⟨r0, r1, r2, r3⟩, -⟩ := cells4 HH
    (try simp only [Exit.inBlock, Exit.then])
    refine bodyPost_ret (v := .tuple #[.agg #[.int .i64 4, .string X, .slice none 0 0, .int .i64 (a : Int)], .int .i64 ((1 : Nat) : Int)]) ?_ rfl ⟨_, _, rfl, .inr ⟨_, unhideR ET, by rw [← unhideR HX]; exact TokV.plain _ 4 _ _⟩, ?_⟩
    · rw [results_cell_tmp rfl]
      go_simp
      (try first | rfl | omega)
    · first | exact set4 (b2_of BB) (Nat.le_refl _) _ _ _ _ | exact bthen (Below.new1 _) (Below.new1 _)
  · go_enter Tryz.func27, Tryz.ntmps27
    go_wp2_with fail
    refine (unhideR CL _).mono ?_
    rintro e w1 ⟨rfl, hw1⟩
    obtain rfl := hw1
    clear CL
    go_wp2_with fail
    have BB : Below ((w.alloc (.cells #[.int .i64 0, .string ⟨#[]⟩, .slice none 0 0, .int .i64 0] 24)).alloc (.cells #[.int .i64 0, .string ⟨#[]⟩, .slice none 0 0, .int .i64 0] 24)).heap.size ((w.alloc (.cells #[.int .i64 0, .string ⟨#[]⟩, .slice none 0 0, .int .i64 0] 24)).alloc (.cells #[.int .i64 0, .string ⟨#[]⟩, .slice none 0 0, .int .i64 0] 24)) ((w.alloc (.cells #[.int .i64 0, .string ⟨#[]⟩, .slice none 0 0, .int .i64 0] 24)).alloc (.cells #[.int .i64 0, .string ⟨#[]⟩, .slice none 0 0, .int .i64 0] 24)) := Below.refl _ _
    obtain ⟨HG, HH⟩ := two_new BB
    obtain ⟨⟨q0, q1, q2, q3⟩, f0, f1, f2, f3⟩ := cells4 HG
    obtain ⟨⟨r0, r1, r2, r3⟩, -⟩ := cells4 HH
    (try simp only [Exit.inBlock, Exit.then])
    refine bodyPost_ret (v := .tuple #[.agg #[.int .i64 4, .string X, .slice none 0 0, .int .i64 (a : Int)], .int .i64 ((1 : Nat) : Int)]) ?_ rfl ⟨_, _, rfl, .inr ⟨_, unhideR ET, by rw [← unhideR HX]; exact TokV.plain _ 4 _ _⟩, ?_⟩
    · rw [results_cell_tmp rfl]
      go_simp
      (try first | rfl | omega)
    · first | exact set4 (b2_of BB) (Nat.le_refl _) _ _ _ _ | exact bthen (Below.new1 _) (Below.new1 _)
  · go_enter Tryz.func27, Tryz.ntmps27
    go_wp2_with fail
    refine (unhideR CL _).mono ?_
    rintro e w1 ⟨rfl, hw1⟩
    obtain rfl := hw1
    clear CL
    go_wp2_with fail
    have BB : Below ((w.alloc (.cells #[.int .i64 0, .string ⟨#[]⟩, .slice none 0 0, .int .i64 0] 24)).alloc (.cells #[.int .i64 0, .string ⟨#[]⟩, .slice none 0 0, .int .i64 0] 24)).heap.size ((w.alloc (.cells #[.int .i64 0, .string ⟨#[]⟩, .slice none 0 0, .int .i64 0] 24)).alloc (.cells #[.int .i64 0, .string ⟨#[]⟩, .slice none 0 0, .int .i64 0] 24)) ((w.alloc (.cells #[.int .i64 0, .string ⟨#[]⟩, .slice none 0 0, .int .i64 0] 24)).alloc (.cells #[.int .i64 0, .string ⟨#[]⟩, .slice none 0 0, .int .i64 0] 24)) := Below.refl _ _
    obtain ⟨HG, HH⟩ := two_new BB
    obtain ⟨⟨q0, q1, q2, q3⟩, f0, f1, f2, f3⟩ := cells4 HG
    obtain ⟨⟨r0, r1, r2, r3⟩, -⟩ := cells4 HH
    (try simp only [Exit.inBlock, Exit.then])
    refine bodyPost_ret (v := .tuple #[.agg #[.int .i64 4, .string X, .slice none 0 0, .int .i64 (a : Int)], .int .i64 ((1 : Nat) : Int)]) ?_ rfl ⟨_, _, rfl, .inr ⟨_, unhideR ET, by rw [← unhideR HX]; exact TokV.plain _ 4 _ _⟩, ?_⟩
    · rw [results_cell_tmp rfl]
      go_simp
      (try first | rfl | omega)
    · first | exact set4 (b2_of BB) (Nat.le_refl _) _ _ _ _ | exact bthen (Below.new1 _) (Below.new1 _)
end Go.Proofs.YtdaadeohamkoiaaGreatDoor.T

/- Contracts of the document's own answers of layer 5: the token from a place on: literals, bytes, classes. -/
namespace Go.Proofs.YtdaadeohamkoiaaGreatDoor.T
open Go.RowKit
set_option linter.unusedVariables false
set_option linter.unusedSimpArgs false

theorem nrm_norm (xs : List (Int × Int)) (n : Int) : nrm (normL xs) n = nrm xs n := by
  unfold nrm
  rw [(norm_is xs).2]
  unfold inN
  cases G.dom n <;> rfl
set_option maxRecDepth 20000 in
set_option maxHeartbeats 4000000 in
theorem rnext_lit (s : ByteArray) (l : List Int) (h : St s l) (hs : l.length ≤ 3000) (a : Nat) (ha : a < l.length) (w : World) (hz : l.getD a 0 = 34) :
    Calls Tryz.prog 27 #[.string s, .int .i64 a] w fun e w' => ∃ v n, e = .returned (.tuple #[v, .int .i64 (n : Nat)]) ∧ TokP w' v n a (tokL (l.drop a)) ∧ Below w.heap.size w w' := by
  have hsz := h.size
  have x0 := h.ix ha
  obtain ⟨z0, z1⟩ := h.byte a
  have hd0 : (l.drop a).getD 0 0 = l.getD a 0 := by rw [drop_getD, Nat.add_zero]
  have haI : (a : Int) < (s.size : Int) := by omega
  have hss : s.size ≤ 3000 := by omega
  have CL := hideR (fun W => letter_any (l.getD a 0) z0 z1 W)
  have hl : isLet (l.getD a 0) = false := by rw [hz]; decide
  rw [hl] at CL
  rw [hz] at x0 CL
  have e1 : (l.drop a).drop 1 = l.drop (a + 1) := by rw [List.drop_drop]
  have CT := hideR (fun W => lit_any s l h (by omega) (a + 1) (by omega) W)
  have et : tokL (l.drop a) = match gatherL pieceL 34 (l.drop (a + 1)) with | none => none | some (x, n) => if x = [] then none else some ((1, x, []), n + 1) := by
    unfold tokL
    rw [hd0, hz, e1, if_neg (by decide), if_neg (by decide), if_neg (by decide), if_pos rfl]
    rfl
  have hbd : U.isBytes (l.drop (a + 1)) := U.isBytes_drop h.2 _
  have gl := fun xs m hg => gather_len (stop := 34) piece_good _ (l.drop (a + 1)) xs m hbd (Nat.le_refl _) hg
  have hneg : (litR (l.drop (a + 1)) = ([], 0) ∧ tokL (l.drop a) = none) ∨ ∃ x n, 1 ≤ n ∧ n ≤ 3000 ∧ litR (l.drop (a + 1)) = (x, n) ∧ tokL (l.drop a) = some ((1, x, []), n + 1) := by
    unfold litR
    rw [et]
    cases hg : gatherL pieceL 34 (l.drop (a + 1)) with
    | none => exact .inl ⟨rfl, rfl⟩
    | some p =>
      obtain ⟨x, n⟩ := p
      simp only
      by_cases c : x = []
      · rw [if_pos c, if_pos c]; exact .inl ⟨rfl, rfl⟩
      · rw [if_neg c, if_neg c]
        have g := gl x n hg
        rw [List.length_drop] at g
        exact .inr ⟨x, n, g.1, by omega, rfl, rfl⟩
  clear et gl hbd
  rcases hneg with ⟨e2, e3⟩ | ⟨x, n, n1, n2, e2, e3⟩
  · rw [e2] at CT
    replace CT : Hid (∀ W, Calls Tryz.prog 54 #[.string s, .int .i64 ((a : Int) + 1)] W fun e w' => e = .returned (.tuple #[.string ⟨#[]⟩, .int .i64 0]) ∧ Below W.heap.size W w') := CT
    have ET := hideR e3
    clear e2 e3 hd0 hsz h hl e1 hz
    go_enter Tryz.func27, Tryz.ntmps27
    go_wp2_with fail
    refine (unhideR CL _).mono ?_
    rintro e w1 ⟨rfl, hw1⟩
    obtain rfl := hw1
    clear CL
    go_wp2_with fail
    refine (unhideR CT _).mono ?_
    rintro e w1 ⟨rfl, BB⟩
    clear CT
    obtain ⟨HG, HH⟩ := two_new BB
    obtain ⟨⟨q0, q1, q2, q3⟩, f0, f1, f2, f3⟩ := cells4 HG
    obtain ⟨⟨r0, r1, r2, r3⟩, -⟩ := cells4 HH
    go_wp2_with fail
    (try simp only [Exit.inBlock, Exit.then])
    refine bodyPost_ret (v := .tuple #[zeroTok, .int .i64 (0 : Nat)]) ?_ rfl ⟨_, _, rfl, .inl ⟨unhideR ET, rfl, rfl⟩, ?_⟩
    · rw [results_cell_tmp rfl]
      go_simp
      (try rfl)
    · first | exact set4 (b2_of BB) (Nat.le_refl _) _ _ _ _ | exact bthen (Below.new1 _) (Below.new1 _)
  · rw [e2] at CT
    replace CT : Hid (∀ W, Calls Tryz.prog 54 #[.string s, .int .i64 ((a : Int) + 1)] W fun e w' => e = .returned (.tuple #[.string (strOfNums x), .int .i64 (n : Int)]) ∧ Below W.heap.size W w') := CT
    have ET := hideR e3
    have n0 : ((n : Int) == 0) = false := beq_eq_false_iff_ne.2 (by omega)
    clear e2 e3 hd0 hsz h hl e1 hz
    generalize hX : strOfNums x = X at *
    have HX := hideR hX
    clear hX
    go_enter Tryz.func27, Tryz.ntmps27
    go_wp2_with fail
    refine (unhideR CL _).mono ?_
    rintro e w1 ⟨rfl, hw1⟩
    obtain rfl := hw1
    clear CL
    go_wp2_with fail
    refine (unhideR CT _).mono ?_
    rintro e w1 ⟨rfl, BB⟩
    clear CT
    obtain ⟨HG, HH⟩ := two_new BB
    obtain ⟨⟨q0, q1, q2, q3⟩, f0, f1, f2, f3⟩ := cells4 HG
    obtain ⟨⟨r0, r1, r2, r3⟩, -⟩ := cells4 HH
    go_wp2_with fail
    (try simp only [Exit.inBlock, Exit.then])
    refine bodyPost_ret (v := .tuple #[.agg #[.int .i64 1, .string X, .slice none 0 0, .int .i64 (a : Int)], .int .i64 ((n + 1 : Nat) : Int)]) ?_ rfl ⟨_, _, rfl, .inr ⟨_, unhideR ET, by rw [← unhideR HX]; exact TokV.plain _ 1 _ _⟩, ?_⟩
    · rw [results_cell_tmp rfl]
      go_simp
      (try first | rfl | omega)
    · first | exact set4 (b2_of BB) (Nat.le_refl _) _ _ _ _ | exact bthen (Below.new1 _) (Below.new1 _)
set_option maxRecDepth 20000 in
set_option maxHeartbeats 4000000 in
theorem rnext_bytes (s : ByteArray) (l : List Int) (h : St s l) (hs : l.length ≤ 3000) (a : Nat) (ha : a < l.length) (w : World) (hz : l.getD a 0 = 60) :
    Calls Tryz.prog 27 #[.string s, .int .i64 a] w fun e w' => ∃ v n, e = .returned (.tuple #[v, .int .i64 (n : Nat)]) ∧ TokP w' v n a (tokL (l.drop a)) ∧ Below w.heap.size w w' := by
  have hsz := h.size
  have x0 := h.ix ha
  obtain ⟨z0, z1⟩ := h.byte a
  have hd0 : (l.drop a).getD 0 0 = l.getD a 0 := by rw [drop_getD, Nat.add_zero]
  have haI : (a : Int) < (s.size : Int) := by omega
  have hss : s.size ≤ 3000 := by omega
  have CL := hideR (fun W => letter_any (l.getD a 0) z0 z1 W)
  have hl : isLet (l.getD a 0) = false := by rw [hz]; decide
  rw [hl] at CL
  rw [hz] at x0 CL
  have e1 : (l.drop a).drop 1 = l.drop (a + 1) := by rw [List.drop_drop]
  have CT := hideR (fun W => items_any s l h (by omega) (a + 1) (by omega) 62 (by omega) (by omega) true W)
  have et : tokL (l.drop a) = match gatherL (itemL true) 62 (l.drop (a + 1)) with | none => none | some (l, n) => some ((3, [], normL l), n + 1) := by
    unfold tokL
    rw [hd0, hz, e1, if_neg (by decide), if_neg (by decide), if_neg (by decide), if_neg (by decide), if_pos rfl]
    rfl
  have hbd : U.isBytes (l.drop (a + 1)) := U.isBytes_drop h.2 _
  have gl := fun xs m hg => gather_len (stop := 62) (item_good true) _ (l.drop (a + 1)) xs m hbd (Nat.le_refl _) hg
  cases hg : gatherL (itemL true) 62 (l.drop (a + 1)) with
  | none =>
    rw [hg] at CT et
    replace CT : Hid (∀ W, Calls Tryz.prog 55 #[.string s, .int .i64 ((a : Int) + 1), .int .u8 62, .bool true] W fun e w' => e = .returned (.tuple #[.slice none 0 0, .int .i64 0]) ∧ Below W.heap.size W w') := CT
    replace et : tokL (l.drop a) = none := et
    have ET := hideR et
    clear et hg gl hbd hd0 hsz h hl e1 hz
    go_enter Tryz.func27, Tryz.ntmps27
    go_wp2_with fail
    refine (unhideR CL _).mono ?_
    rintro e w1 ⟨rfl, hw1⟩
    obtain rfl := hw1
    clear CL
    go_wp2_with fail
    refine (unhideR CT _).mono ?_
    rintro e w1 ⟨rfl, BB⟩
    clear CT
    obtain ⟨HG, HH⟩ := two_new BB
    obtain ⟨⟨q0, q1, q2, q3⟩, f0, f1, f2, f3⟩ := cells4 HG
    obtain ⟨⟨r0, r1, r2, r3⟩, -⟩ := cells4 HH
    go_wp2_with fail
    (try simp only [Exit.inBlock, Exit.then])
    refine bodyPost_ret (v := .tuple #[zeroTok, .int .i64 (0 : Nat)]) ?_ rfl ⟨_, _, rfl, .inl ⟨unhideR ET, rfl, rfl⟩, ?_⟩
    · rw [results_cell_tmp rfl]
      go_simp
      (try rfl)
    · first | exact set4 (b2_of BB) (Nat.le_refl _) _ _ _ _ | exact bthen (Below.new1 _) (Below.new1 _)
  | some p =>
    obtain ⟨xs, n⟩ := p
    have g := gl xs n hg
    rw [List.length_drop] at g
    obtain ⟨n1, n2, -⟩ := g
    rw [hg] at CT et
    replace CT : Hid (∀ W, Calls Tryz.prog 55 #[.string s, .int .i64 ((a : Int) + 1), .int .u8 62, .bool true] W fun e w' => (∃ y cy, e = .returned (.tuple #[.slice y (normL xs).length cy, .int .i64 (n : Int)]) ∧ Rs w' y (normL xs).length cy (normL xs) ∧ Ty w' y) ∧ Below W.heap.size W w') := CT
    replace et : tokL (l.drop a) = some ((3, [], normL xs), n + 1) := et
    have ET := hideR et
    have n0 : ((n : Int) == 0) = false := beq_eq_false_iff_ne.2 (by omega)
    have n3 : n ≤ 3000 := by omega
    clear et hg gl hbd hd0 hsz h hl e1 hz n2
    go_enter Tryz.func27, Tryz.ntmps27
    go_wp2_with fail
    refine (unhideR CL _).mono ?_
    rintro e w1 ⟨rfl, hw1⟩
    obtain rfl := hw1
    clear CL
    go_wp2_with fail
    refine (unhideR CT _).mono ?_
    rintro e w1 ⟨⟨y, cy, rfl, hR⟩, BB⟩
    have HR := hideR hR
    clear CT hR
    obtain ⟨HG, HH⟩ := two_new BB
    obtain ⟨⟨q0, q1, q2, q3⟩, f0, f1, f2, f3⟩ := cells4 HG
    obtain ⟨⟨r0, r1, r2, r3⟩, -⟩ := cells4 HH
    go_wp2_with fail
    (try simp only [Exit.inBlock, Exit.then])
    refine bodyPost_ret (v := .tuple #[.agg #[.int .i64 3, .string ⟨#[]⟩, .slice y (normL xs).length cy, .int .i64 (a : Int)], .int .i64 ((n + 1 : Nat) : Int)]) ?_ rfl ⟨_, _, rfl, .inr ⟨_, unhideR ET, y, cy, rfl, Rs.set4 (unhideR HR) HG _ _ _ _⟩, ?_⟩
    · rw [results_cell_tmp rfl]
      go_simp
      (try first | rfl | omega)
    · first | exact set4 (b2_of BB) (Nat.le_refl _) _ _ _ _ | exact bthen (Below.new1 _) (Below.new1 _)
set_option maxRecDepth 20000 in
set_option maxHeartbeats 4000000 in
theorem rnext_none (s : ByteArray) (l : List Int) (h : St s l) (hs : l.length ≤ 3000) (a : Nat) (ha : a < l.length) (w : World) (hl : isLet (l.getD a 0) = false) (h2 : l.getD a 0 ∉ signs) (h3 : l.getD a 0 ≠ 64) (h4 : l.getD a 0 ≠ 34) (h5 : l.getD a 0 ≠ 91) (h6 : l.getD a 0 ≠ 60) :
    Calls Tryz.prog 27 #[.string s, .int .i64 a] w fun e w' => ∃ v n, e = .returned (.tuple #[v, .int .i64 (n : Nat)]) ∧ TokP w' v n a (tokL (l.drop a)) ∧ Below w.heap.size w w' := by
  have hsz := h.size
  have x0 := h.ix ha
  obtain ⟨z0, z1⟩ := h.byte a
  have hd0 : (l.drop a).getD 0 0 = l.getD a 0 := by rw [drop_getD, Nat.add_zero]
  have haI : (a : Int) < (s.size : Int) := by omega
  have hss : s.size ≤ 3000 := by omega
  have CL := hideR (fun W => letter_any (l.getD a 0) z0 z1 W)
  rw [hl] at CL
  have et : tokL (l.drop a) = none := tok_none (by rw [hd0]; exact hl) (by rw [hd0]; exact h2) (by rw [hd0]; exact h3) (by rw [hd0]; exact h4) (by rw [hd0]; exact h5) (by rw [hd0]; exact h6)
  have ET := hideR et
  have k0 : (l.getD a 0 == 64) = false := beq_eq_false_iff_ne.2 h3
  have k1 : (l.getD a 0 == 34) = false := beq_eq_false_iff_ne.2 h4
  have k2 : (l.getD a 0 == 91) = false := beq_eq_false_iff_ne.2 h5
  have k3 : (l.getD a 0 == 60) = false := beq_eq_false_iff_ne.2 h6
  simp only [signs, List.mem_cons, List.not_mem_nil, or_false, not_or] at h2
  obtain ⟨s1, s2, s3, s4, s5, s6, s7, s8, s9, s0⟩ := h2
  have p1 : (l.getD a 0 == 61) = false := beq_eq_false_iff_ne.2 s1
  have p2 : (l.getD a 0 == 124) = false := beq_eq_false_iff_ne.2 s2
  have p3 : (l.getD a 0 == 59) = false := beq_eq_false_iff_ne.2 s3
  have p4 : (l.getD a 0 == 40) = false := beq_eq_false_iff_ne.2 s4
  have p5 : (l.getD a 0 == 41) = false := beq_eq_false_iff_ne.2 s5
  have p6 : (l.getD a 0 == 42) = false := beq_eq_false_iff_ne.2 s6
  have p7 : (l.getD a 0 == 43) = false := beq_eq_false_iff_ne.2 s7
  have p8 : (l.getD a 0 == 63) = false := beq_eq_false_iff_ne.2 s8
  have p9 : (l.getD a 0 == 47) = false := beq_eq_false_iff_ne.2 s9
  have p10 : (l.getD a 0 == 37) = false := beq_eq_false_iff_ne.2 s0
  clear et hd0 hsz h hl ha
  generalize l.getD a 0 = z at *
  go_enter Tryz.func27, Tryz.ntmps27
  go_wp2_with fail
  refine (unhideR CL _).mono ?_
  rintro e w1 ⟨rfl, hw1⟩
  obtain rfl := hw1
  clear CL
  have BB : Below ((w.alloc (.cells #[.int .i64 0, .string ⟨#[]⟩, .slice none 0 0, .int .i64 0] 24)).alloc (.cells #[.int .i64 0, .string ⟨#[]⟩, .slice none 0 0, .int .i64 0] 24)).heap.size ((w.alloc (.cells #[.int .i64 0, .string ⟨#[]⟩, .slice none 0 0, .int .i64 0] 24)).alloc (.cells #[.int .i64 0, .string ⟨#[]⟩, .slice none 0 0, .int .i64 0] 24)) ((w.alloc (.cells #[.int .i64 0, .string ⟨#[]⟩, .slice none 0 0, .int .i64 0] 24)).alloc (.cells #[.int .i64 0, .string ⟨#[]⟩, .slice none 0 0, .int .i64 0] 24)) := Below.refl _ _
  obtain ⟨HG, HH⟩ := two_new BB
  obtain ⟨⟨q0, q1, q2, q3⟩, f0, f1, f2, f3⟩ := cells4 HG
  obtain ⟨⟨r0, r1, r2, r3⟩, -⟩ := cells4 HH
  go_wp2_with fail
  (try simp only [Exit.inBlock, Exit.then])
  refine bodyPost_ret (v := .tuple #[zeroTok, .int .i64 (0 : Nat)]) ?_ rfl ⟨_, _, rfl, .inl ⟨unhideR ET, rfl, rfl⟩, ?_⟩
  · rw [results_cell_tmp rfl]
    go_simp
    (try rfl)
  · first | exact set4 (b2_of BB) (Nat.le_refl _) _ _ _ _ | exact bthen (Below.new1 _) (Below.new1 _)
end Go.Proofs.YtdaadeohamkoiaaGreatDoor.T
