/- The contract of awake, the statements' example. -/
import Derived.Test.YtejipaapbfjooaaDoorSqMatch
namespace Go.Proofs.YtejipaapbfjooaaDoor
open Go.RowKit
set_option linter.unusedVariables false
set_option linter.unusedSimpArgs false

theorem by2 : U.isBytes [195, 164] := by intro z hz; simp at hz; omega
theorem by1 : U.isBytes [195] := by intro z hz; simp at hz; omega
theorem aw_is : G.Is [(128, 2047)] (nrm [(128, 2047)]) := by
  refine ⟨by decide, fun n => ?_⟩
  unfold nrm G.dom
  rw [G.hasB_one, Bool.eq_iff_iff]
  simp only [Bool.and_eq_true, decide_eq_true_eq]
  omega
theorem aw_of : Q.ofN [(128, 2047)] = [[(194, 223), (128, 191)]] := by decide +kernel
theorem aw_match : Q.matchL [[(194, 223), (128, 191)]] (Q.rest [195, 164] 0) = 2 := by decide +kernel
theorem aw_part : Q.partL [[(194, 223), (128, 191)]] (Q.rest [195] 0) = 1 := by decide +kernel

set_option maxRecDepth 20000 in
set_option maxHeartbeats 1000000 in
theorem awake3_any (w : World) (hW : Wd w) : Calls Tryd.prog 10 #[] w fun e w' => e = .returned (.bool true) ∧ Below w.heap.size w w' := by
  have CO := hideR (of_any (some ⟨w.heap.size, 0, none⟩) 1 1 [(128, 2047)] (w.alloc (boxRg 128 2047)) (Rs.single w 128 2047 (by unfold fits; omega) (by unfold fits; omega) _ rfl) (by omega) (hW.later (Below.new1 _) hW.pos))
  have CM := hideR match_any
  have CP := hideR part_any
  clear hW
  go_enter Tryd.func10, Tryd.ntmps10
  go_wp2_with fail
  refine (unhideR CO).mono ?_
  rintro e w1 ⟨N, v, hi, rfl, hq, hb⟩
  obtain rfl : N = [(128, 2047)] := hi.unique aw_is fun _ => rfl
  rw [aw_of] at hq
  obtain ⟨a, cap, rfl, hS⟩ := hq.sq
  obtain ⟨b, off, x, c, s, rfl, es, -, -, hc, hr⟩ := hS.at 0 (by simp)
  obtain rfl : s = [(194, 223), (128, 191)] := by simpa using es.symm
  obtain ⟨xb, xo, rfl, hrb⟩ := hr.open (by simp)
  have k0 := hrb.hcell 0 (by simp)
  have k1 := hrb.hcell 1 (by simp)
  have B1 : Below w.heap.size w w1 := (Below.new1 _).trans (hb.mono (by simp))
  have HS := hideR hS
  simp only [List.length_cons, List.length_nil, Nat.zero_add, Nat.reduceAdd, Nat.add_zero, Nat.zero_mul, Nat.one_mul] at k0 k1 hc
  obtain ⟨k00, k01⟩ := k0
  obtain ⟨k10, k11⟩ := k1
  have e2 := hS.hcap
  have e3 := hS.hmax
  unfold maxLen at e3
  clear hr hrb hS hi CO hq hb es
  go_wp2_with fail
  refine (unhideR CM (some ⟨b, off, none⟩) 1 cap _ (some ⟨w1.heap.size, 0, none⟩) 2 2 [195, 164] 0 _ ((unhideR HS).later (Below.new1 _) (Nat.le_refl _)) (Bs.fresh w1 [195, 164] by2 (by decide)) (fun e => by cases e)).mono ?_
  rintro e w2 ⟨rfl, b2⟩
  rw [aw_match]
  have B2 := (Below.new1 _).trans (b2.mono (by simp))
  have HS2 := hideR ((unhideR HS).later B2 (Nat.le_refl _))
  have B3 : Below w.heap.size w w2 := B1.trans (B2.mono B1.size)
  clear b2 B2 B1 HS hc k00 k01 k10 k11 CM
  go_wp2_with fail
  refine (unhideR CP (some ⟨b, off, none⟩) 1 cap _ (some ⟨w2.heap.size, 0, none⟩) 1 1 [195] 0 _ ((unhideR HS2).later (Below.new1 _) (Nat.le_refl _)) (Bs.fresh w2 [195] by1 (by decide)) (fun e => by cases e)).mono ?_
  rintro e w3 ⟨rfl, b3⟩
  rw [aw_part]
  have B4 : Below w.heap.size w w3 := B3.trans (((Below.new1 _).trans (b3.mono (by simp))).mono B3.size)
  clear b3 B3 HS2 CP
  go_wp2_with fail
  go_ret
  exact ⟨rfl, B4⟩

end Go.Proofs.YtejipaapbfjooaaDoor
