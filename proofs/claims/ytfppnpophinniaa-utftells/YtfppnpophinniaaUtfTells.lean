/- The walk of the statement UtfTells. -/
import Derived.Test.YtfppnpophinniaaUtfRef
namespace Go.Proofs.Ytfppnpophinniaa
open Go.RowKit
set_option linter.unusedVariables false

set_option maxHeartbeats 2000000 in
theorem utfTells_walk (r : Int) (a : Option Addr) (len cap : Nat) (l : List Int) (at' : Int) (w : World) (h : Bs w a len cap l) :
    Calls Try.prog 3 #[.int .i64 r, .slice a len cap, .int .i64 at'] w fun e w' => e = .returned (.bool true) ∧ Below w.heap.size w w' := by
  have AW := hideC awake_any
  have hmax := h.hmax
  have hcap := h.hcap
  unfold maxLen at hmax
  by_cases h1 : 300 < len
  · go_enter Try.func3, Try.ntmps3
    go_wp2_with fail
    refine (unhideC AW _).mono ?_
    rintro e w1 ⟨rfl, hb1⟩
    go_wp2_with fail
    go_ret
    exact ⟨rfl, hb1⟩
  have NX := hideC (fun (w' : World) (hw : Below w.heap.size w w') => next_any _ _ _ l w' (h.later hw (Nat.le_refl _)) at')
  have RX := hideC (fun (w' : World) (hw : Below w.heap.size w w') => refNext_any _ _ _ l w' (h.later hw (Nat.le_refl _)) at')
  have UA := hideC (fun (w' : World) (hw : Below w.heap.size w w') => units_any _ _ _ l w' (h.later hw (Nat.le_refl _)))
  have RA := hideC (fun (w' : World) (hw : Below w.heap.size w w') => refUnits_any _ _ _ l w' (h.later hw (Nat.le_refl _)))
  have MA := hideC (may_any r)
  have RM := hideC (refMay_any r)
  clear h
  generalize nx l at' = p at *
  obtain ⟨x, n⟩ := p
  generalize U.units l = u at *
  cases hr : U.mayB r
  · have PN := hideC (fun w => put_no r w hr)
    have RN := hideC (fun w => refPut_no r w hr)
    rw [hr] at MA RM
    clear hr
    have cv0 : ∀ w : World, (convert 22 9 (.slice none 0 0)).run Try.prog w = .ok (.string ByteArray.empty) w := fun w => run_convert_bytes_nil w 22 5 Try.underlying22 Try.underlying5 0 0 9 Try.underlying9
    go_enter Try.func3, Try.ntmps3
    go_wp2_with fail
    refine (unhideC AW _).mono ?_
    rintro e w1 ⟨rfl, hb1⟩
    go_wp2_with fail
    refine (unhideC PN _).mono ?_
    rintro e w2 ⟨rfl, rfl⟩
    go_wp2_with fail
    refine (unhideC RN _).mono ?_
    rintro e w2 ⟨rfl, rfl⟩
    go_wp2_with fail
    refine (unhideC NX _ hb1).mono ?_
    rintro e w3 ⟨rfl, hb3⟩
    have hbB := Below.next hb1 hb3
    go_wp2_with fail
    refine (unhideC RX _ hbB).mono ?_
    rintro e w4 ⟨rfl, hb4⟩
    have hbC := Below.next hbB hb4
    go_wp2_with fail
    refine (unhideC RM _).mono ?_
    rintro e w5 ⟨rfl, rfl⟩
    go_wp2_with fail
    refine (unhideC MA _).mono ?_
    rintro e w5 ⟨rfl, rfl⟩
    go_wp2_with fail
    refine (unhideC UA _ hbC).mono ?_
    rintro e w6 ⟨rfl, hb6⟩
    have hbD := Below.next hbC hb6
    go_wp2_with fail
    refine (unhideC RA _ hbD).mono ?_
    rintro e w7 ⟨rfl, hb7⟩
    have hbE := Below.next hbD hb7
    go_wp2_with fail
    go_ret
    exact ⟨rfl, hbE⟩
  · have PY := hideC (fun w => put_yes r w hr)
    have RY := hideC (fun w => refPut_yes r w hr)
    unfold putVal at PY RY
    rw [hr] at MA RM
    have CV := hideC (fun (w1 w' : World) (hw : Below (w1.heap.size + 1) (w1.alloc (putObj r)) w') => ((put_bs r hr w1).later hw (by simp)).str)
    clear hr
    generalize (U.putL r).length = m at *
    generalize strOfNums (U.putL r) = s at *
    generalize putObj r = o at *
    go_enter Try.func3, Try.ntmps3
    go_wp2_with fail
    refine (unhideC AW _).mono ?_
    rintro e w1 ⟨rfl, hb1⟩
    go_wp2_with fail
    refine (unhideC PY _).mono ?_
    rintro e w2 ⟨rfl, rfl⟩
    go_wp2_with fail
    refine (unhideC RY _).mono ?_
    rintro e w2 ⟨rfl, rfl⟩
    have s1 := hb1.size
    have hbA : Below w.heap.size w ((w1.alloc o).alloc o) := (hb1.alloc s1 _).alloc (by simp; omega) _
    have k1 : Below (w1.heap.size + 1) (w1.alloc o) ((w1.alloc o).alloc o) := by simpa using (Below.one (w := w1.alloc o) o)
    have k2 : Below (w1.heap.size + 1 + 1) ((w1.alloc o).alloc o) ((w1.alloc o).alloc o) := Below.refl _ _
    go_wp2_with fail
    refine (unhideC NX _ hbA).mono ?_
    rintro e w3 ⟨rfl, hb3⟩
    have hbB := Below.next hbA hb3
    go_wp2_with fail
    refine (unhideC RX _ hbB).mono ?_
    rintro e w4 ⟨rfl, hb4⟩
    have hbC := Below.next hbB hb4
    go_wp2_with fail
    refine (unhideC RM _).mono ?_
    rintro e w5 ⟨rfl, rfl⟩
    go_wp2_with fail
    refine (unhideC MA _).mono ?_
    rintro e w5 ⟨rfl, rfl⟩
    have s3 := hb3.size
    simp only [World.size_alloc] at hb3 s3
    have k3 : Below (w1.heap.size + 1 + 1) ((w1.alloc o).alloc o) w5 := hb3.trans (hb4.mono (by omega))
    have cv1 := unhideC CV w1 w5 (k1.trans (k3.mono (by omega)))
    have cv2 := unhideC CV (w1.alloc o) w5 (by simpa using k3)
    simp only [World.size_alloc] at cv2
    go_wp2_with fail
    refine (unhideC UA _ hbC).mono ?_
    rintro e w6 ⟨rfl, hb6⟩
    have hbD := Below.next hbC hb6
    go_wp2_with fail
    refine (unhideC RA _ hbD).mono ?_
    rintro e w7 ⟨rfl, hb7⟩
    have hbE := Below.next hbD hb7
    go_wp2_with fail
    go_ret
    exact ⟨rfl, hbE⟩
end Go.Proofs.Ytfppnpophinniaa
