/- A range over a bound method value whose loop runs to its end: one law, for what the kit's laws on plain function values do not reach. -/
import Derived.Test.YtdaadeohamkoiaaGreatDoorRgBorders
namespace Go.Proofs.YtdaadeohamkoiaaGreatDoor
open Go.RowKit Go.Shelf
set_option linter.unusedVariables false

/-- left at its end alone -/
abbrev onlyEnd (R : World → Prop) : Exit → Act → World → Prop := Exit.then (fun _ W => R W) (fun _ _ _ => False)

theorem rangeBound {n : Nat} {P : Program} {g : Operand} {t : Tmp} {assign body : Code} {Q : Exit → Act → World → Prop} {a : Act} {w : World}
    (h1 : 1 ≤ n) {gf : Nat} {rb : Array Value} (hg : a.eval g = .func (.func gf) rb #[]) (eg : ∀ args w, (callFunc gf args).run P w = .ok (.enter gf args) w)
    (xs : List Int) (ob : Obj) (I : List Int → World → Prop)
    (hIput : ∀ pre W l o o', I pre W → w.heap.size ≤ l → W.heap[l]? = some o → o.isCells = false → I pre (W.putObj l o'))
    (hIalloc : ∀ pre W o, I pre W → I pre (W.alloc o)) (hIdraw : ∀ pre W k, I pre W → I pre (W.drewN k)) (h0 : I [] w) (a₁ : Int → Act)
    (hassign : ∀ (l : Nat) (x : Int) (W : World) (K : Act → World → Prop), K (a₁ x) W →
      assign.wpIn (Fence.wide.inRound l) (n - 1 - 1) P (Exit.then K (fun _ _ _ => False)) { tmps := a.tmps.setIfInBounds t (.int .i64 x), defers := [] } W)
    (hbody : ∀ (l : Nat) (pre : List Int) (x : Int) (W : World), I pre W → W.heap[w.heap.size + 2]? = some ob → (∃ rest, pre ++ x :: rest = xs) →
      body.wpIn (Fence.wide.inRound l) (n - 1 - 1) P (onlyEnd fun W' => KeepsFrom w.heap.size W W' ∧ I (pre ++ [x]) W' ∧ W'.heap[w.heap.size + 2]? = some ob) (a₁ x) W)
    (hiter : ∀ (lr : Nat) (W : World) (J : List Int → World → Prop), W.heap.size = w.heap.size + 2 → (∀ pre W1, J pre W1 → I pre W1) → (∀ pre W1 k, J pre W1 → J pre (W1.drewN k)) →
      (∀ pre x W1, J pre W1 → W1.heap[w.heap.size + 2]? = some ob → (∃ rest, pre ++ x :: rest = xs) → YieldAt Fence.wide (n - 1 - 1) P lr #[.int .i64 x] W1 fun e W' => e = .returned (.bool true) ∧ J (pre ++ [x]) W' ∧ W'.heap[w.heap.size + 2]? = some ob) →
      J [] (W.alloc ob) → CallsIn Fence.wide (n - 1) P gf (rb ++ #[.func (.yield lr) #[] #[]]) W fun e W' => (∃ v, e = .returned v) ∧ J xs W')
    (hdone : ∀ W : World, I xs W → W.heap[w.heap.size]? = some (.deferred (some [])) → Q .normal { a with defers := { target := .collected w.heap.size, args := #[] } :: a.defers } W) :
    (Code.rangeFunc g #[t] assign body).wpIn Fence.wide n P Q a w := by
  refine wpIn_rangeFunc fun fn hfn => ?_
  obtain ⟨rc, hrc⟩ : ∃ rc : LoopState → Loop, rc = fun st => { state := st, pending := none, fn := fn, tmps := a.tmps, params := #[t], assign := assign, body := body, defers := w.heap.size } := ⟨_, rfl⟩
  obtain ⟨W1, hW1⟩ : ∃ W1, (w.alloc (.deferred (some []))).alloc (.loop (rc .ready)) = W1 := ⟨_, rfl⟩
  have s1 : W1.heap.size = w.heap.size + 2 := by rw [← hW1]; simp
  have d1 : W1.heap[w.heap.size]? = some (.deferred (some [])) := by
    rw [← hW1]; exact (Below.heap_alloc _ _ _ (by simp)).trans (World.alloc_heap_new w _)
  have r1 : W1.heap[w.heap.size + 1]? = some (.loop (rc .ready)) := by
    rw [← hW1]; have := World.alloc_heap_new (w.alloc (.deferred (some []))) (.loop (rc .ready)); rwa [World.size_alloc] at this
  have i1 : I [] W1 := by rw [← hW1]; exact hIalloc _ _ _ (hIalloc _ _ _ h0)
  refine ⟨w.heap.size + 1, [{ target := .collected w.heap.size, args := #[] }], W1, { target := .fn (.func gf) #[], args := rb ++ #[.func (.yield (w.heap.size + 1)) #[] #[]] }, W1, gf,
    rb ++ #[.func (.yield (w.heap.size + 1)) #[] #[]], W1, ?_, ?_, fun _ _ => trivial, ?_, fun _ => h1, ?_⟩
  · rw [← hW1, hrc]; exact run_enterLoop_outer _ _ _ _ _
  · simp only [resolve, hg]
    simp [go_sem]
  · simp [invoke, go_sem, eg]
  · refine (hiter (w.heap.size + 1) W1 (fun pre W => I pre W ∧ W.heap[w.heap.size + 1]? = some (.loop (rc .ready)) ∧ W.heap[w.heap.size]? = some (.deferred (some [])))
      s1 (fun _ _ h => h.1) (fun pre W k h => ⟨hIdraw _ _ _ h.1, by simpa using h.2.1, by simpa using h.2.2⟩) ?_
      ⟨hIalloc _ _ _ i1, (Below.heap_alloc _ _ _ (by omega)).trans r1, (Below.heap_alloc _ _ _ (by omega)).trans d1⟩).mono ?_
    · rintro pre x W ⟨hi, hl, hd⟩ hob hx
      have hlt : w.heap.size + 1 < W.heap.size := (Array.getElem?_eq_some_iff.1 hl).1
      have hy : (Instr.yield (w.heap.size + 1) #[.int .i64 x]).run P W = .ok (.round (w.heap.size + 1) fn (a.tmps.setIfInBounds t (.int .i64 x)) assign body) W := by
        have := run_yield (P := P) (args := #[.int .i64 x]) hl (by rw [hrc]; rfl)
        rw [hrc] at this
        simpa using this
      refine ⟨fn, _, assign, body, hy, roundIn_of_wpIn hfn ?_⟩
      refine hassign _ x W _ ?_
      refine ⟨_, run_beginRound hl (by rw [hrc]), ?_⟩
      obtain ⟨Wb, hWb⟩ : ∃ Wb, W.putObj (w.heap.size + 1) (.loop { rc .ready with state := .busy }) = Wb := ⟨_, rfl⟩
      rw [hWb]
      have lb : Wb.heap[w.heap.size + 1]? = some (.loop { rc .ready with state := .busy }) := by rw [← hWb]; exact World.putObj_heap_same hlt
      have db : Wb.heap[w.heap.size]? = some (.deferred (some [])) := by rw [← hWb]; exact (World.putObj_heap_other (by omega)).trans hd
      have ib : I pre Wb := by rw [← hWb]; exact hIput _ _ _ _ _ hi (by omega) hl rfl
      have bb : Wb.heap[w.heap.size + 2]? = some ob := by rw [← hWb]; exact (World.putObj_heap_other (by omega)).trans hob
      refine wpIn_mono (hbody _ pre x Wb ib bb hx) ?_
      rintro e a3 W3 hp
      cases e with
      | normal =>
        obtain ⟨hk, hi3, hb3⟩ := hp
        have l3 := hk.same _ _ (by omega) lb rfl
        have d3 := hk.same _ _ (Nat.le_refl _) db rfl
        have er := run_endRound (P := P) none l3
        refine ⟨_, _, er, rfl, ⟨hIput _ _ _ _ _ hi3 (by omega) l3 rfl, ?_, (World.putObj_heap_other (by omega)).trans d3⟩, (World.putObj_heap_other (by omega)).trans hb3⟩
        rw [World.putObj_heap_same (Array.getElem?_eq_some_iff.1 l3).1, hrc]
        rfl
      | _ => exact hp.elim
    · rintro e W2 ⟨⟨v, rfl⟩, hi, hl, hd⟩
      refine ⟨none, _, ?_, hdone _ (hIput _ _ _ _ (.loop { rc .ready with state := .exhausted }) hi (by omega) hl rfl) ((World.putObj_heap_other (by omega)).trans hd)⟩
      have := run_endLoop (P := P) hl (by rw [hrc]; simp)
      rw [hrc] at this ⊢
      exact this

end Go.Proofs.YtdaadeohamkoiaaGreatDoor
