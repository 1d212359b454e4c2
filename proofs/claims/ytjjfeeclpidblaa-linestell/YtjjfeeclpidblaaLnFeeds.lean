/- The function that hands on the places behind line feeds: what it yields, whatever the loop's body does with its own memory. -/
import Derived.Test.YtjjfeeclpidblaaLnSmall
namespace Go.Proofs.Ytjjfeeclpidblaa.Ln
open Go.RowKit Go.Shelf
set_option linter.unusedVariables false
set_option linter.unusedSimpArgs false

/-- the block in which the slice lies that the closure has caught -/
abbrev boxB (a : Option Addr) (len cap : Nat) : Obj := .cells #[.slice a len cap] 22
/-- the closure -/
abbrev feedF (k : Nat) : Value := .func (.func 31) #[] #[.pointer (some ⟨k, 0, none⟩)]

set_option maxHeartbeats 400000 in
theorem behind_any (a : Option Addr) (len cap : Nat) (w : World) :
    Calls Try.prog 23 #[.slice a len cap] w fun e w' => e = .returned (feedF w.heap.size) ∧ w' = w.alloc (boxB a len cap) := by
  have hmf : ∀ (fn : Fn) (first cap : Array Value) (w : World), (Instr.makeFunc fn first cap).run Try.prog w = .ok (.func fn first cap) w := fun _ _ _ _ => rfl
  go_enter Try.func23, Try.ntmps23
  go_wp2
  go_ret
  exact ⟨rfl, rfl⟩

attribute [local go_sem] Oper.semAt_some

set_option maxHeartbeats 2000000 in
theorem feeds_iter (n : Nat) (hn : 3 ≤ n) (lr B : Nat) (a : Option Addr) (len cap : Nat) (l : List Int) (W : World) (J : List Int → World → Prop)
    (hP : ∀ pre W1, J pre W1 → Bs W1 a len cap l ∧ W1.heap[B]? = some (boxB a len cap))
    (hY : ∀ pre x W1, J pre W1 → (∃ rest, pre ++ x :: rest = feedsN l len) → YieldAt Fence.wide (n - 1) Try.prog lr #[.int .i64 x] W1 fun e W' => e = .returned (.bool true) ∧ J (pre ++ [x]) W')
    (h0 : J [] W) :
    CallsIn Fence.wide n Try.prog 31 #[.func (.yield lr) #[] #[], .pointer (some ⟨B, 0, none⟩)] W fun e W' => (∃ v, e = .returned v) ∧ J (feedsN l len) W' := by
  have h1n : 1 ≤ n := by omega
  have h1m : 1 ≤ n - 1 := by omega
  have hl := (hP _ _ h0).1.hlen
  have hmax := (hP _ _ h0).1.hmax
  have hcap := (hP _ _ h0).1.hcap
  unfold maxLen at hmax
  have k0 := (cell_of (hP _ _ h0).2).1
  have hY' := hideR hY
  have hP' := hideR hP
  clear hY hP
  refine callsIn_of_wp Try.func31 rfl trivial ?_ rfl
  simp only [Try.ntmps31, List.size_toArray, List.length_cons, List.length_nil, Nat.reduceAdd, Nat.reduceSub, Array.replicate_succ, Array.replicate_zero, List.push_toArray, List.append_toArray, List.nil_append, List.cons_append]
  gi_wp2
  gi_loopw [7] (fun i wr => ∃ (k : Nat), k ≤ len ∧ i = .int .i64 k ∧ J (feedsN l k) wr) (fun i _ => len - (intOf i).toNat)
  case atStart => exact ⟨0, Nat.zero_le _, rfl, h0⟩
  case round =>
    obtain ⟨k, hk, rfl, hJ⟩ := hrel
    by_cases hlt : k < len
    · obtain ⟨b, off, rfl, hb⟩ := (unhideR hP' _ _ hJ).1.open (by omega)
      obtain ⟨z, hz, z0, z1, cz⟩ := bat hb k hlt
      clear hb
      by_cases h10 : z = 10
      · subst h10
        obtain ⟨rest, hrest⟩ := feeds_pre l (k + 1) len (by omega)
        have hfy := feeds_yes hz
        rw [hfy, List.append_assoc] at hrest
        obtain ⟨fn, tmps, assign, body, hy, hR⟩ := unhideR hY' _ _ _ hJ ⟨rest, hrest⟩
        have HF := hideR hfy
        rw [show ((k + 1 : Nat) : Int) = (k : Int) + 1 by omega] at hy
        clear hY' hP' hrest hz hfy
        gi_wp2
        refine hR.mono ?_
        rintro e W3 ⟨rfl, hJ3⟩
        rw [← unhideR HF] at hJ3
        clear hR hy
        gi_wp2
        go_roundw
        case rel => exact ⟨k + 1, by omega, by go_num, hJ3⟩
        case measure => simp [intOf]; omega
      · have hfn := feeds_no (show l.getD k 0 ≠ 10 by rw [hz]; exact h10)
        rw [← hfn] at hJ
        have e1 : (z == 10) = false := by rw [beq_eq_false_iff_ne]; exact h10
        clear hY' hP' hz hfn
        gi_wp2
        refine ⟨fun f hf => (by cases hf), ?_⟩
        gi_wp2
        go_roundw
        case rel => exact ⟨k + 1, by omega, by go_num, hJ⟩
        case measure => simp [intOf]; omega
    · obtain rfl : k = len := by omega
      clear hY' hP'
      gi_wp2
      refine bodyPost_end (results_none rfl _ _ _) rfl ?_
      exact ⟨⟨_, rfl⟩, hJ⟩

end Go.Proofs.Ytjjfeeclpidblaa.Ln
