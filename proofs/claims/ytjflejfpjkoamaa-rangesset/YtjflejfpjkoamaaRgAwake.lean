/- The chapter's example, which every statement of layer 2 asks first: 'awake' returns true. -/
import Derived.Test.YtjflejfpjkoamaaRgSets
import Derived.Test.YtjflejfpjkoamaaRgSame
namespace Go.Proofs.Ytjflejfpjkoamaa
open Go.RowKit
set_option linter.unusedVariables false

theorem eqRg (a b c d : Int) (w : World) : (binOp .eql 34 (.agg #[.int .i64 a, .int .i64 b]) (.agg #[.int .i64 c, .int .i64 d])).run Try.prog w = .ok (.bool (a == c && b == d)) w := by
  have u3 := Try.underlying3
  have a3 := Try.isAgg3
  have z3 := Try.sizeOf3
  have hS : Try.prog.underlying 34 = some (.struct (Try.prog.fieldsOf 34)) := by kernel_rfl
  have hp : Try.prog.stoodInHeld 34 = false := by kernel_rfl
  rw [run_eql_struct, show (10000 : Nat) = 9999 + 1 from rfl, run_equalIn_agg w 9999 34 _ _ hS hp]
  simp only [Program.fieldsOf, Try.underlying34]
  go_simp
  by_cases h1 : a = c <;> by_cases h2 : b = d <;> simp [h1, h2]

theorem ex_is : G.Is [(3, 9)] (nrm [(3, 5), (6, 9)]) := by
  refine ⟨rfl, fun n => ?_⟩
  unfold nrm G.dom
  rw [G.hasB_one, G.hasB_cons, G.hasB_one]
  rw [Bool.eq_iff_iff]; simp only [Bool.and_eq_true, Bool.or_eq_true, decide_eq_true_eq]; omega
theorem ex_size : G.size (nrm [(3, 5), (6, 9)]) = 7 := by rw [← ex_is.size]; rfl
theorem ex_may : G.mayB [(3, 5), (6, 9)] = false := by decide
theorem ex_may2 : G.mayB [(3, 9)] = true := by decide
theorem ex_has : G.hasB [(3, 5), (6, 9)] 6 = true := by decide

/-- the example's list, as it lies -/
theorem ex_rs (w : World) (n : Nat) (hn : n = w.heap.size) : Rs (w.alloc (.cells #[.int .i64 3, .int .i64 5, .int .i64 6, .int .i64 9] 34)) (some ⟨n, 0, none⟩) 2 2 [(3, 5), (6, 9)] := by
  subst hn
  refine ⟨rfl, Nat.le_refl _, by decide, fun r hr => ?_, fun i hi => ⟨_, _, rfl, ?_⟩⟩
  · simp at hr
    rcases hr with rfl | rfl <;> (unfold fits; simp)
  · have : i = 0 ∨ i = 1 := by omega
    rcases this with rfl | rfl
    · exact ⟨by rw [World.cell?_alloc_at _ _ _ _ rfl]; rfl, by rw [World.cell?_alloc_at _ _ _ _ rfl]; rfl⟩
    · exact ⟨by rw [World.cell?_alloc_at _ _ _ _ rfl]; rfl, by rw [World.cell?_alloc_at _ _ _ _ rfl]; rfl⟩

set_option maxHeartbeats 2000000 in
theorem rgAwake_any (w : World) :
    Calls Try.prog 11 #[] w fun e w' => e = .returned (.bool true) ∧ Below w.heap.size w w' := by
  have R0 := ex_rs w _ rfl
  have B0 : Below w.heap.size w (w.alloc (.cells #[.int .i64 3, .int .i64 5, .int .i64 6, .int .i64 9] 34)) := Below.new1 _
  have C1 := hideR (normAn _ _ _ _ _ R0 (by omega))
  have R := hideR R0
  clear R0
  go_enter Try.func11, Try.ntmps11
  go_wp2_with fail
  refine (unhideR C1).mono ?_
  rintro e w1 ⟨a1, l1, k1, A1, rfl, r1, i1, b1⟩
  have eA : A1 = [(3, 9)] := i1.unique ex_is (fun _ => rfl)
  subst eA
  have hl1 := r1.hlen
  simp only [List.length_cons, List.length_nil, Nat.zero_add] at hl1
  subst hl1
  obtain ⟨g, off, rfl, hq⟩ := r1.open (by omega)
  obtain ⟨q0, q1⟩ := hq.hcell 0 (by omega)
  simp only [Nat.zero_mul, Nat.add_zero] at q0 q1
  have q0' : w1.cell? ⟨g, off, none⟩ = some (.int .i64 3) := q0
  have q1' : w1.cell? ⟨g, off + 1, none⟩ = some (.int .i64 9) := q1
  have hcap := hq.hcap
  have R1 := hideR r1
  have RL := hideR ((unhideR R).later b1 (Nat.le_refl _))
  have B1 := hideR (B0.trans (b1.mono B0.size))
  clear i1 C1 R q0 q1 hq r1 b1 B0
  have eq1 : ∀ w, (binOp .eql 34 (.agg #[.int .i64 3, .int .i64 9]) (.agg #[.int .i64 3, .int .i64 9])).run Try.prog w = .ok (.bool true) w := fun w => by rw [eqRg]; rfl
  have C2 := hideR (rgMay_any _ _ _ _ _ (unhideR R1))
  rw [ex_may2] at C2
  go_wp2_with fail
  refine (unhideR C2).mono ?_
  rintro e w2 ⟨rfl, b2⟩
  have RL2 := hideR ((unhideR RL).later b2 (Nat.le_refl _))
  have B2 := hideR ((unhideR B1).trans (b2.mono (unhideR B1).size))
  have C3 := hideR (rgMay_any _ _ _ _ _ (unhideR RL2))
  rw [ex_may] at C3
  clear C2 RL B1 b2 R1 q0' q1'
  go_wp2_with fail
  refine (unhideR C3).mono ?_
  rintro e w3 ⟨rfl, b3⟩
  have RL3 := hideR ((unhideR RL2).later b3 (Nat.le_refl _))
  have B3 := hideR ((unhideR B2).trans (b3.mono (unhideR B2).size))
  have C4 := hideR (rgSize_any _ _ _ _ _ (unhideR RL3) (by omega))
  rw [ex_size] at C4
  clear C3 RL2 B2 b3
  go_wp2_with fail
  refine (unhideR C4).mono ?_
  rintro e w4 ⟨rfl, b4⟩
  have RL4 := hideR ((unhideR RL3).later b4 (Nat.le_refl _))
  have B4 := hideR ((unhideR B3).trans (b4.mono (unhideR B3).size))
  have C5 := hideR (has_any _ _ _ _ 6 _ (unhideR RL4))
  rw [ex_has] at C5
  clear C4 RL3 B3 b4
  go_wp2_with fail
  refine (unhideR C5).mono ?_
  rintro e w5 ⟨rfl, b5⟩
  go_wp2_with fail
  go_ret
  exact ⟨rfl, (unhideR B4).trans (b5.mono (unhideR B4).size)⟩

end Go.Proofs.Ytjflejfpjkoamaa
