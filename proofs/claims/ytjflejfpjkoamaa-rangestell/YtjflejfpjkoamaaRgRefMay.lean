/- The contract of the document's answer to May. -/
import Derived.Test.YtjflejfpjkoamaaRgSets
import Derived.Test.YtjflejfpjkoamaaRgSame
namespace Go.Proofs.Ytjflejfpjkoamaa
open Go.RowKit
set_option linter.unusedVariables false

theorem may_step {l : List (Int × Int)} {k : Nat} {lo hi : Int} (ht : l.take (k + 1) = l.take k ++ [(lo, hi)]) : G.mayB (l.take (k + 1)) = true ↔ G.mayB (l.take k) = true ∧ G.endOf 0 (l.take k) ≤ lo ∧ lo ≤ hi ∧ hi ≤ 1114111 := by
  rw [ht, G.may_snoc]
theorem may_not {l : List (Int × Int)} {k : Nat} (h : ¬ G.mayB (l.take k) = true) : G.mayB l = false := by
  cases e : G.mayB l with
  | false => rfl
  | true => exact absurd (may_take e k) h

theorem end_nonneg {l : List (Int × Int)} (h : G.mayB l = true) : 0 ≤ G.endOf 0 l := by
  rcases List.eq_nil_or_concat l with e | ⟨o, r, e⟩
  · rw [e]; exact Int.le_refl _
  · rw [List.concat_eq_append] at e
    have := G.may_mem h (r := r) (by rw [e]; simp)
    rw [e, G.endOf_append]; omega

set_option maxHeartbeats 2000000 in
theorem refMay_any (a : Option Addr) (len cap : Nat) (l : List (Int × Int)) (w : World) (h : Rs w a len cap l) :
    Calls Try.prog 12 #[.slice a len cap] w fun e w' => e = .returned (.bool (G.mayB l)) ∧ Below w.heap.size w w' := by
  have hl := h.hlen
  have hmax := h.hmax
  have hcap := h.hcap
  unfold maxLen at hmax
  go_enter Try.func12, Try.ntmps12
  go_wp2
  go_loopw [3] (fun i wr => ∃ (k : Nat), k ≤ len ∧ i = .int .i64 k ∧ Hid (G.mayB (l.take k) = true) ∧ Hid (∃ d, wr = w.drewN d)) (fun i _ => len - (intOf i).toNat)
  case atStart => exact ⟨0, Nat.zero_le _, rfl, by show G.mayB _ = true; rfl, ⟨0, rfl⟩⟩
  case round =>
    obtain ⟨k, hk, rfl, hn, hw⟩ := hrel
    obtain ⟨d0, hw⟩ := hw
    have bw : Below w.heap.size w wr := by rw [hw]; exact draws_below
    have hw' := hideR hw
    clear hw
    by_cases hlt : k < len
    · obtain ⟨b, off, rfl, hr⟩ := (h.later bw (Nat.le_refl _)).open (by omega)
      obtain ⟨lo, hi, -, ht, f1, f2, c0, c1⟩ := hr.at k hlt
      unfold fits at f1 f2
      obtain ⟨f1a, f1b⟩ := f1
      obtain ⟨f2a, f2b⟩ := f2
      have k0 : ∀ d, (wr.drewN d).cell? ⟨b, off + k * 2, none⟩ = some (.int .i64 lo) := fun d => by simpa using c0
      have k1 : ∀ d, (wr.drewN d).cell? ⟨b, off + k * 2 + 1, none⟩ = some (.int .i64 hi) := fun d => by simpa using c1
      have ms := hideR (may_step ht)
      clear c0 c1 ht
      by_cases t1 : hi < lo
      · have fin := hideR (may_not (l := l) (k := k + 1) (fun e => by have := (unhideR ms).1 e; omega))
        have q1 : decide (hi < lo) = true := decide_eq_true t1
        clear hr
        go_wp2
        go_quiet (fail)
        go_wp2
        go_ret
        exact ⟨ret_bool (unhideR fin).symm, bw.trans draws_below⟩
      · have q1 : decide (hi < lo) = false := decide_eq_false t1
        by_cases t2 : lo < 0
        · have fin := hideR (may_not (l := l) (k := k + 1) (fun e => by have e2 := (unhideR ms).1 e; have e3 := end_nonneg e2.1; omega))
          have q2 : decide (lo < 0) = true := decide_eq_true t2
          clear hr
          go_wp2
          go_quiet (fail)
          go_wp2
          go_ret
          exact ⟨ret_bool (unhideR fin).symm, bw.trans draws_below⟩
        · have q2 : decide (lo < 0) = false := decide_eq_false t2
          by_cases t3 : 1114111 < hi
          · have fin := hideR (may_not (l := l) (k := k + 1) (fun e => by have := (unhideR ms).1 e; omega))
            have q3 : decide (1114111 < hi) = true := decide_eq_true t3
            clear hr
            go_wp2
            go_quiet (fail)
            go_wp2
            go_ret
            exact ⟨ret_bool (unhideR fin).symm, bw.trans draws_below⟩
          · have q3 : decide (1114111 < hi) = false := decide_eq_false t3
            cases k with
            | zero =>
              have st := hideR ((unhideR ms).2 ⟨hn.out, by simp [G.endOf]; omega, by omega, by omega⟩)
              simp only [Nat.zero_mul, Nat.add_zero] at k0 k1
              clear hr
              go_wp2
              go_quiet (fail)
              go_wp2
              go_roundw
              case rel => exact ⟨0 + 1, by omega, by go_num, unhideR st, ⟨d0 + nq, by rw [unhideR hw', World.drewN_drewN]⟩⟩
              case measure => simp [intOf]; omega
            | succ j =>
              obtain ⟨plo, phi, -, htp, g1, g2, e0, e1⟩ := hr.at j (by omega)
              have l1 : ∀ d, (wr.drewN d).cell? ⟨b, off + j * 2 + 1, none⟩ = some (.int .i64 phi) := fun d => by simpa using e1
              have eo : G.endOf 0 (l.take (j + 1)) = phi + 2 := by rw [htp, G.endOf_append]
              have pm := G.may_mem hn.out (r := (plo, phi)) (by rw [htp]; simp)
              simp only at pm
              obtain ⟨pm0, pm1, pm2⟩ := pm
              rw [eo] at ms
              clear htp g1 g2 e0 e1 eo hr
              by_cases t4 : lo < phi + 2
              · have fin := hideR (may_not (l := l) (k := j + 1 + 1) (fun e => by have := (unhideR ms).1 e; omega))
                go_wp2
                go_quiet (fail)
                go_wp2
                go_ret
                exact ⟨ret_bool (unhideR fin).symm, bw.trans draws_below⟩
              · have st := hideR ((unhideR ms).2 ⟨hn.out, by omega, by omega, by omega⟩)
                have t4' : phi + 2 ≤ lo := by omega
                go_wp2
                go_quiet (fail)
                go_wp2
                go_roundw
                case rel => exact ⟨j + 1 + 1, by omega, by go_num, unhideR st, ⟨d0 + nq, by rw [unhideR hw', World.drewN_drewN]⟩⟩
                case measure => simp [intOf]; omega
    · have fin : Hid (G.mayB l = true) := by
        have := hn.out
        rw [List.take_of_length_le (by omega)] at this
        exact this
      go_wp2
      go_ret
      exact ⟨ret_bool (unhideR fin).symm, bw⟩

end Go.Proofs.Ytjflejfpjkoamaa
