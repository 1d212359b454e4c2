/- Contracts of the document's answers: Norm, Size, Both, Either, Less, Not. -/
import Derived.Test.YtjflejfpjkoamaaRgRefOf
import Derived.Test.YtjflejfpjkoamaaRgRefMay
namespace Go.Proofs.Ytjflejfpjkoamaa
open Go.RowKit
set_option linter.unusedVariables false

theorem fits_m1 : fits (-1) := by unfold fits; omega

theorem isP_0 (high : Int) (x y : Bool) (n : Int) : isP 0 high x y n = (x || y) := rfl
theorem isP_1 (high : Int) (x y : Bool) (n : Int) : isP 1 high x y n = (x && y) := rfl
theorem isP_2 (high : Int) (x y : Bool) (n : Int) : isP 2 high x y n = (x && !y) := rfl
theorem isP_3 (high : Int) (x y : Bool) (n : Int) : isP 3 high x y n = (!x && decide (n ≤ high)) := rfl

set_option maxHeartbeats 400000 in
theorem refNorm_any (a : Option Addr) (la ca : Nat) (A : List (Int × Int)) (w : World) (ha : Rs w a la ca A) :
    Calls Try.prog 16 #[.slice a la ca] w (An w (nrm A)) := by
  have C1 := hideR (refOf_any a la ca A none 0 0 [] 0 (-1) w ha (Rs.nil w) fits_m1)
  clear ha
  go_enter Try.func16, Try.ntmps16
  go_wp2_with fail
  refine (unhideR C1).mono ?_
  rintro e w1 ⟨a1, l1, k1, A1, rfl, r1, i1, b1⟩
  have i1' := hideR i1
  clear i1 C1
  go_wp2_with fail
  go_ret
  refine ⟨a1, l1, k1, A1, rfl, r1, (unhideR i1').congr fun n => ?_, b1⟩
  unfold ofP nrm
  rw [isP_0, G.hasB_nil, Bool.or_false]

set_option maxHeartbeats 400000 in
theorem refNot_any (a : Option Addr) (la ca : Nat) (A : List (Int × Int)) (high : Int) (w : World) (ha : Rs w a la ca A) (hh : fits high) :
    Calls Try.prog 29 #[.slice a la ca, .int .i64 high] w (An w (notP A high)) := by
  have C1 := hideR (refOf_any a la ca A none 0 0 [] 3 high w ha (Rs.nil w) hh)
  clear ha
  go_enter Try.func29, Try.ntmps29
  go_wp2_with fail
  refine (unhideR C1).mono ?_
  rintro e w1 ⟨a1, l1, k1, A1, rfl, r1, i1, b1⟩
  have i1' := hideR i1
  clear i1 C1
  go_wp2_with fail
  go_ret
  refine ⟨a1, l1, k1, A1, rfl, r1, (unhideR i1').congr fun n => ?_, b1⟩
  unfold ofP notP nrm
  rw [isP_3, G.hasB_one]
  unfold G.dom
  rcases Bool.eq_false_or_eq_true (G.hasB A n) with h | h <;> rw [h]
  · simp; omega
  · rw [Bool.eq_iff_iff]; simp only [Bool.and_eq_true, decide_eq_true_eq, Bool.not_false, Bool.and_false, and_true, true_and]; omega

set_option maxHeartbeats 400000 in
theorem refBoth_any (a : Option Addr) (la ca : Nat) (A : List (Int × Int)) (b : Option Addr) (lb cb : Nat) (B : List (Int × Int)) (w : World) (ha : Rs w a la ca A) (hb : Rs w b lb cb B) :
    Calls Try.prog 23 #[.slice a la ca, .slice b lb cb] w (An w fun n => nrm A n && nrm B n) := by
  have C1 := hideR (refOf_any a la ca A b lb cb B 1 (-1) w ha hb fits_m1)
  clear ha hb
  go_enter Try.func23, Try.ntmps23
  go_wp2_with fail
  refine (unhideR C1).mono ?_
  rintro e w1 ⟨a1, l1, k1, A1, rfl, r1, i1, b1⟩
  have i1' := hideR i1
  clear i1 C1
  go_wp2_with fail
  go_ret
  refine ⟨a1, l1, k1, A1, rfl, r1, (unhideR i1').congr fun n => ?_, b1⟩
  unfold ofP nrm
  rw [isP_1]
  cases G.dom n <;> simp

set_option maxHeartbeats 400000 in
theorem refEither_any (a : Option Addr) (la ca : Nat) (A : List (Int × Int)) (b : Option Addr) (lb cb : Nat) (B : List (Int × Int)) (w : World) (ha : Rs w a la ca A) (hb : Rs w b lb cb B) :
    Calls Try.prog 25 #[.slice a la ca, .slice b lb cb] w (An w fun n => nrm A n || nrm B n) := by
  have C1 := hideR (refOf_any a la ca A b lb cb B 0 (-1) w ha hb fits_m1)
  clear ha hb
  go_enter Try.func25, Try.ntmps25
  go_wp2_with fail
  refine (unhideR C1).mono ?_
  rintro e w1 ⟨a1, l1, k1, A1, rfl, r1, i1, b1⟩
  have i1' := hideR i1
  clear i1 C1
  go_wp2_with fail
  go_ret
  refine ⟨a1, l1, k1, A1, rfl, r1, (unhideR i1').congr fun n => ?_, b1⟩
  unfold ofP nrm
  rw [isP_0]
  cases G.dom n <;> simp

set_option maxHeartbeats 400000 in
theorem refLess_any (a : Option Addr) (la ca : Nat) (A : List (Int × Int)) (b : Option Addr) (lb cb : Nat) (B : List (Int × Int)) (w : World) (ha : Rs w a la ca A) (hb : Rs w b lb cb B) :
    Calls Try.prog 27 #[.slice a la ca, .slice b lb cb] w (An w fun n => nrm A n && !nrm B n) := by
  have C1 := hideR (refOf_any a la ca A b lb cb B 2 (-1) w ha hb fits_m1)
  clear ha hb
  go_enter Try.func27, Try.ntmps27
  go_wp2_with fail
  refine (unhideR C1).mono ?_
  rintro e w1 ⟨a1, l1, k1, A1, rfl, r1, i1, b1⟩
  have i1' := hideR i1
  clear i1 C1
  go_wp2_with fail
  go_ret
  refine ⟨a1, l1, k1, A1, rfl, r1, (unhideR i1').congr fun n => ?_, b1⟩
  unfold ofP nrm
  rw [isP_2]
  cases G.dom n <;> simp

set_option maxHeartbeats 1000000 in
theorem refSize_any (a : Option Addr) (la ca : Nat) (A : List (Int × Int)) (w : World) (ha : Rs w a la ca A) :
    Calls Try.prog 21 #[.slice a la ca] w fun e w' => e = .returned (.int .i64 (G.size (nrm A))) ∧ Below w.heap.size w w' := by
  have C1 := hideR (refNorm_any a la ca A w ha)
  clear ha
  obtain ⟨S, hS⟩ : ∃ S, G.size (nrm A) = S := ⟨_, rfl⟩
  rw [hS]
  have HS := hideR hS
  clear hS
  go_enter Try.func21, Try.ntmps21
  go_wp2_with fail
  refine (unhideR C1).mono ?_
  rintro e w1 ⟨pa, m, pc, P, rfl, hr, hi, hb1⟩
  have hI := hideR hi
  have hm := hr.hlen
  have hmax := hr.hmax
  have hcap := hr.hcap
  unfold maxLen at hmax
  have hml := G.may_length hi.1
  clear hi C1
  go_wp2
  go_loopw [3, 5] (fun s i wr => ∃ (k : Nat) (z : Int), k ≤ m ∧ i = .int .i64 k ∧ s = .int .i64 z ∧ Hid (z = G.sizeL (P.take k)) ∧ 0 ≤ z ∧ z ≤ 1114113 ∧ Hid (∃ d, wr = w1.drewN d)) (fun _ i _ => m - (intOf i).toNat)
  case atStart => exact ⟨0, 0, Nat.zero_le _, rfl, rfl, by show 0 = _; simp [G.sizeL], by omega, by omega, ⟨0, rfl⟩⟩
  case round =>
    obtain ⟨k, z, hk, rfl, rfl, hz, hz0, hz1, hw⟩ := hrel
    obtain ⟨d0, hw⟩ := hw
    have bw : Below w1.heap.size w1 wr := by rw [hw]; exact draws_below
    have hw' := hideR hw
    clear hw
    by_cases hlt : k < m
    · obtain ⟨b, off, rfl, hq⟩ := (hr.later bw (Nat.le_refl _)).open (by omega)
      obtain ⟨lo, hi, hd, htk, f1, f2, c0, c1⟩ := hq.at k hlt
      have bd := G.sizeL_bounds (may_take (unhideR hI).1 (k + 1)) (by omega)
      have st := sizeL_take htk
      have hmem := G.may_mem (unhideR hI).1 (r := (lo, hi)) (List.mem_of_mem_drop (by rw [hd]; simp))
      simp only at hmem
      obtain ⟨m0, m1, m2⟩ := hmem
      rw [st, ← hz.out] at bd
      have st' : Hid (z + hi - lo + 1 = G.sizeL (P.take (k + 1))) := by show _ = _; rw [st, ← hz.out]; omega
      obtain ⟨bd0, bd1⟩ := bd
      have k0 : ∀ d, (wr.drewN d).cell? ⟨b, off + k * 2, none⟩ = some (.int .i64 lo) := fun d => by simpa using c0
      have k1 : ∀ d, (wr.drewN d).cell? ⟨b, off + k * 2 + 1, none⟩ = some (.int .i64 hi) := fun d => by simpa using c1
      clear st hd htk hq f1 f2 c0 c1
      go_wp2
      go_quiet (fail)
      go_wp2
      go_roundw
      case rel => exact ⟨k + 1, z + hi - lo + 1, by omega, by go_num, rfl, st', by omega, by omega, ⟨d0 + nq, by rw [unhideR hw', World.drewN_drewN]⟩⟩
      case measure => simp [intOf]; omega
    · have hk2 : k = m := by omega
      subst hk2
      have hz' := hz.out
      rw [List.take_of_length_le (by omega), (unhideR hI).size, unhideR HS] at hz'
      subst hz'
      clear hz
      go_wp2
      go_ret
      exact ⟨rfl, hb1.trans (bw.mono hb1.size)⟩

end Go.Proofs.Ytjflejfpjkoamaa
