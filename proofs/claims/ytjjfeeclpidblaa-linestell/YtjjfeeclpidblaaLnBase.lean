/- What the walks of layer 4 share: hidden facts, boxes, rows of numbers, a range over a closure, the places behind line feeds. -/
import Derived.Test.YtjjfeeclpidblaaUtfUnitsLaw
import Derived.Test.YtjjfeeclpidblaaLnMath
import Derived.OwnWalk
import Derived.Deep.AppendLies
import Derived.RangeFuncNested
import Derived.RangeFuncCalls
import Derived.RangeFuncLeaves
import Derived.RangeFuncBox
import Derived.Shelf.Abstract
import Derived.Shelf.RegionOpen
import Derived.OwnWalkIn
import Derived.TacticsInMore
import Derived.LoopNIn
import Derived.LoopIn
import Derived.Sort.QuietIn
namespace Go.Proofs.Ytjjfeeclpidblaa.Ln
open Go.RowKit Go.Shelf
set_option linter.unusedVariables false
set_option linter.unusedSimpArgs false

theorem hideR {p : Prop} (h : p) : Hid p := h
theorem unhideR {p : Prop} (h : Hid p) : p := h
theorem ret_bool {a b : Bool} (h : a = b) : Ending.returned (.bool a) = .returned (.bool b) := by rw [h]
theorem ret_int {a b : Int} (h : a = b) : Ending.returned (.int .i64 a) = .returned (.int .i64 b) := by rw [h]
theorem new1 {w : World} (o : Obj) : Below w.heap.size w (w.alloc o) := (Below.refl _ _).alloc (Nat.le_refl _) o

/-- one byte of a slice -/
theorem bat {w : World} {b off len cap : Nat} {l : List Int} (h : Bb w b off len cap l) (k : Nat) (hk : k < len) :
    ∃ z, l.getD k 0 = z ∧ 0 ≤ z ∧ z ≤ 255 ∧ w.cell? ⟨b, off + k, none⟩ = some (.int .u8 z) := by
  have hl := h.hlen
  have hc := h.hcell k hk
  have hk' : k < l.length := by omega
  have e : l.getD k 0 = l[k] := by simp [List.getD, hk']
  rw [e] at hc
  have hb := h.hbytes l[k] (List.getElem_mem hk')
  exact ⟨l[k], e, hb.1, hb.2, hc⟩

theorem bat_drop {l : List Int} {k : Nat} (hk : k < l.length) : l.drop k = l.getD k 0 :: l.drop (k + 1) := by
  rw [List.drop_eq_getElem_cons hk]
  simp [List.getD, hk]

/-! ### What is owned, and boxes -/
theorem own_mono {W : World} {base base' : Nat} {e : TypeId} {size : Nat} {v : Value} {n : Nat} {xs : List Value} (h : W.ownsRow base e size v n xs) (hb : base' ≤ base) : W.ownsRow base' e size v n xs := by
  refine ⟨h.1, ?_⟩
  rcases h.2 with hn | ⟨g, cap, cur, hv, hg, rest⟩
  · exact .inl hn
  · exact .inr ⟨g, cap, cur, hv, by omega, rest⟩
theorem own_form {W : World} {base : Nat} {e : TypeId} {size : Nat} {v : Value} {n : Nat} {xs : List Value} (h : W.ownsRow base e size v n xs) : ∃ a cap, v = .slice a n cap := by
  rcases h.2 with ⟨rfl, h0⟩ | ⟨g, cap, cur, hv, _⟩
  · exact ⟨none, 0, by rw [h0]⟩
  · exact ⟨_, cap, hv⟩
theorem own_apart {W : World} {base : Nat} {e : TypeId} {size : Nat} {v : Value} {n : Nat} {xs : List Value} (h : W.ownsRow base e size v n xs) {k : Nat} {cs : Array Value} {t : TypeId} (hk : W.heap[k]? = some (.cells cs t)) (ht : t ≠ e) : some k ≠ v.ownBlock := by
  rcases h.2 with ⟨rfl, _⟩ | ⟨g, cap, cur, rfl, _, hg, _⟩
  · simp [Value.ownBlock]
  · intro e'
    simp only [Value.ownBlock, Option.some.injEq] at e'
    subst e'
    rw [hg] at hk
    simp only [Option.some.injEq, Obj.cells.injEq] at hk
    exact ht hk.2.1.symm
theorem own_cells {W : World} {base : Nat} {e : TypeId} {size : Nat} {v : Value} {n : Nat} {xs : List Value} (h : W.ownsRow base e size v n xs) : ∀ (j : Nat) (o : Obj), v.ownBlock = some j → W.heap[j]? = some o → o.isCells = true := by
  intro j o hj ho
  rcases h.2 with ⟨rfl, _⟩ | ⟨g, cap, cur, rfl, _, hg, _⟩
  · simp [Value.ownBlock] at hj
  · simp only [Value.ownBlock, Option.some.injEq] at hj
    subst hj
    rw [hg] at ho
    cases ho; rfl
theorem below_grow {B : Nat} {w w2 w1 : World} {e : TypeId} {sz n : Nat} {v : Value} {xs : List Value} (h : w2.ownsRow B e sz v n xs) (hb : Below B w w2) (hB : B ≤ w2.heap.size) (hg : w2.grownBy w1 v.ownBlock) : Below B w w1 :=
  hb.grown hg hB (fun k hk => (h.lt k hk).1)
theorem alloc_at (w : World) (o : Obj) (k : Nat) (hk : k = w.heap.size) : (w.alloc o).heap[k]? = some o := by subst hk; exact World.alloc_heap_new w o
theorem below_others {W W' : World} (h : Below W.heap.size W W') : KeepsOthers W W' := ⟨h.size, fun k o hk _ => (h.block k (Array.getElem?_eq_some_iff.1 hk).1).trans hk⟩
theorem below_grown {W W' : World} (h : Below W.heap.size W W') : W.grownBy W' none := ⟨h.os, h.tape, h.output, h.size, fun k hk _ => h.block k hk⟩
theorem own_later {W W' : World} (h : Below W.heap.size W W') {base : Nat} {e : TypeId} {size : Nat} {v : Value} {n : Nat} {xs : List Value} (ho : W.ownsRow base e size v n xs) : W'.ownsRow base e size v n xs :=
  ho.kept (below_grown h) (by cases v.ownBlock <;> simp)
theorem cell_of {W : World} {k : Nat} {u : Value} {t : TypeId} (h : W.heap[k]? = some (.cells #[u] t)) : W.cell? ⟨k, 0, none⟩ = some u ∧ W.frozen? ⟨k, 0, none⟩ = false := by
  constructor
  · simp [World.cell?, h]
  · simp [World.frozen?, h]
theorem put_cell {W : World} {k : Nat} {u v : Value} {t : TypeId} (h : W.heap[k]? = some (.cells #[u] t)) : (W.setCell ⟨k, 0, none⟩ v).heap[k]? = some (.cells #[v] t) := by
  have := heap_setCell_same W k 0 #[u] t v h
  simpa using this

/-! ### A slice of ints -/
def intsV (l : List Int) : List Value := l.map (Value.int .i64)
/-- what is told of a slice of ints: its elements, each in its cell -/
structure Is4 (w : World) (a : Option Addr) (len cap : Nat) (l : List Int) : Prop where
  hlen : l.length = len
  hcap : len ≤ cap
  hmax : cap ≤ maxLen
  hcell : ∀ i, i < len → ∃ b off, a = some ⟨b, off, none⟩ ∧ w.cell? ⟨b, off + i, none⟩ = some (.int .i64 (l.getD i 0))
theorem Is4.later {w w' : World} {a : Option Addr} {len cap : Nat} {l : List Int} (h : Is4 w a len cap l) {B : Nat} (hb : Below B w w') (hB : w.heap.size ≤ B) : Is4 w' a len cap l := by
  refine ⟨h.hlen, h.hcap, h.hmax, fun i hi => ?_⟩
  obtain ⟨b, off, ha, hc⟩ := h.hcell i hi
  have hlt : b < w.heap.size := block_lt_of_cell hc
  exact ⟨b, off, ha, by rw [hb.cell (p := ⟨b, off + i, none⟩) (Nat.lt_of_lt_of_le hlt hB)]; exact hc⟩
theorem Is4.drewN {w : World} {a : Option Addr} {len cap : Nat} {l : List Int} (h : Is4 w a len cap l) (k : Nat) : Is4 (w.drewN k) a len cap l :=
  ⟨h.hlen, h.hcap, h.hmax, fun i hi => by
    obtain ⟨b, off, ha, hc⟩ := h.hcell i hi
    exact ⟨b, off, ha, by simpa using hc⟩⟩
theorem Is4.ofOwn {w : World} {base : Nat} {v : Value} {l : List Int} (h : w.ownsRow base 3 1 v l.length (intsV l)) : ∃ a cap, v = .slice a l.length cap ∧ Is4 w a l.length cap l := by
  rcases h.2 with ⟨rfl, h0⟩ | ⟨g, cap, cur, rfl, hb, hg, hn, hm, hs, ht⟩
  · exact ⟨none, 0, by rw [h0], rfl, by omega, Nat.zero_le _, fun i hi => by omega⟩
  · refine ⟨some ⟨g, 0, none⟩, cap, rfl, rfl, hn, hm, fun i hi => ⟨g, 0, rfl, ?_⟩⟩
    have := World.ownsRow.cells h (g := g) rfl i (.int .i64 (l.getD i 0)) (by simp [intsV, List.getD, hi])
    rw [Addr.add_lit] at this
    exact this
theorem Is4.open {w : World} {a : Option Addr} {len cap : Nat} {l : List Int} (h : Is4 w a len cap l) (hp : 1 ≤ len) : ∃ b off, a = some ⟨b, off, none⟩ ∧ ∀ i, i < len → w.cell? ⟨b, off + i, none⟩ = some (.int .i64 (l.getD i 0)) := by
  obtain ⟨b, off, ha, hc⟩ := h.hcell 0 (by omega)
  refine ⟨b, off, ha, fun i hi => ?_⟩
  obtain ⟨b', off', ha', hc'⟩ := h.hcell i hi
  rw [ha] at ha'
  injection ha' with e
  injection e with e1 e2
  subst e1; subst e2
  exact hc'

theorem infoInt : (Try.prog.info? 3).map (fun i => (i.zero, i.size, i.bytes)) = some (some (.int .i64 0), 1, 8) := by kernel_rfl
/-- the cell of the number that is appended lies in a block just made -/
theorem new_int (w : World) (n : Nat) (x : Int) (hn : n = w.heap.size) : ∀ (j : Nat) (u : Value), [Value.int .i64 x][j]? = some u → (w.alloc (.cells #[.int .i64 x] 3)).cell? ((⟨n, 0, none⟩ : Addr).add j) = some u := by
  subst hn
  exact World.news_of_block (cs := #[.int .i64 x]) (t := 3) (fr := (0, 0)) (heap_alloc_new w _)

/-! ### A range over a closure -/
abbrev onlyEnd (R : World → Prop) : Exit → Act → World → Prop := Exit.then (fun _ W => R W) (fun _ _ _ => False)

theorem rangeClos {n : Nat} {P : Program} {g : Operand} {t : Tmp} {assign body : Code} {Q : Exit → Act → World → Prop} {a : Act} {w : World}
    (h1 : 1 ≤ n) {gf : Nat} {cs : Array Value} (hg : a.eval g = .func (.func gf) #[] cs) (eg : ∀ args w, (callFunc gf args).run P w = .ok (.enter gf args) w)
    (xs : List Int) (I : List Int → World → Prop)
    (hIput : ∀ pre W l o o', I pre W → w.heap.size ≤ l → W.heap[l]? = some o → o.isCells = false → I pre (W.putObj l o'))
    (hIalloc : ∀ pre W o, I pre W → I pre (W.alloc o)) (h0 : I [] w) (a₁ : Int → Act)
    (hassign : ∀ (l : Nat) (x : Int) (W : World) (K : Act → World → Prop), K (a₁ x) W →
      assign.wpIn (Fence.wide.inRound l) (n - 1 - 1) P (Exit.then K (fun _ _ _ => False)) { tmps := a.tmps.setIfInBounds t (.int .i64 x), defers := [] } W)
    (hbody : ∀ (l : Nat) (pre : List Int) (x : Int) (W : World), I pre W → (∃ rest, pre ++ x :: rest = xs) →
      body.wpIn (Fence.wide.inRound l) (n - 1 - 1) P (onlyEnd fun W' => KeepsFrom w.heap.size W W' ∧ I (pre ++ [x]) W') (a₁ x) W)
    (hiter : ∀ (lr : Nat) (W : World) (J : List Int → World → Prop), (∀ pre W1, J pre W1 → I pre W1) →
      (∀ pre x W1, J pre W1 → (∃ rest, pre ++ x :: rest = xs) → YieldAt Fence.wide (n - 1 - 1) P lr #[.int .i64 x] W1 fun e W' => e = .returned (.bool true) ∧ J (pre ++ [x]) W') →
      J [] W → CallsIn Fence.wide (n - 1) P gf (#[.func (.yield lr) #[] #[]] ++ cs) W fun e W' => (∃ v, e = .returned v) ∧ J xs W')
    (hdone : ∀ W : World, I xs W → W.heap[w.heap.size]? = some (.deferred (some [])) → Q .normal { a with defers := { target := .collected w.heap.size, args := #[] } :: a.defers } W) :
    (Code.rangeFunc g #[t] assign body).wpIn Fence.wide n P Q a w := by
  refine wpIn_rangeFunc fun fn hfn => ?_
  obtain ⟨rc, hrc⟩ : ∃ rc : LoopState → Loop, rc = fun st => { state := st, pending := none, fn := fn, tmps := a.tmps, params := #[t], assign := assign, body := body, defers := w.heap.size } := ⟨_, rfl⟩
  obtain ⟨W1, hW1⟩ : ∃ W1, (w.alloc (.deferred (some []))).alloc (.loop (rc .ready)) = W1 := ⟨_, rfl⟩
  have d1 : W1.heap[w.heap.size]? = some (.deferred (some [])) := by
    rw [← hW1]; exact (Below.heap_alloc _ _ _ (by simp)).trans (World.alloc_heap_new w _)
  have r1 : W1.heap[w.heap.size + 1]? = some (.loop (rc .ready)) := by
    rw [← hW1]; have := World.alloc_heap_new (w.alloc (.deferred (some []))) (.loop (rc .ready)); rwa [World.size_alloc] at this
  have i1 : I [] W1 := by rw [← hW1]; exact hIalloc _ _ _ (hIalloc _ _ _ h0)
  refine ⟨w.heap.size + 1, [{ target := .collected w.heap.size, args := #[] }], W1, { target := .fn (.func gf) cs, args := #[.func (.yield (w.heap.size + 1)) #[] #[]] }, W1, gf,
    #[.func (.yield (w.heap.size + 1)) #[] #[]] ++ cs, W1, ?_, ?_, fun _ _ => trivial, ?_, fun _ => h1, ?_⟩
  · rw [← hW1, hrc]; exact run_enterLoop_outer _ _ _ _ _
  · simp only [resolve, hg]
    simp [go_sem]
  · simp [invoke, go_sem, eg]
  · refine (hiter (w.heap.size + 1) W1 (fun pre W => I pre W ∧ W.heap[w.heap.size + 1]? = some (.loop (rc .ready)) ∧ W.heap[w.heap.size]? = some (.deferred (some [])))
      (fun _ _ h => h.1) ?_ ⟨i1, r1, d1⟩).mono ?_
    · rintro pre x W ⟨hi, hl, hd⟩ hx
      have hlt : w.heap.size + 1 < W.heap.size := (Array.getElem?_eq_some_iff.1 hl).1
      have hy : (Instr.yield (w.heap.size + 1) #[.int .i64 x]).run P W = .ok (.round (w.heap.size + 1) fn (a.tmps.setIfInBounds t (.int .i64 x)) assign body) W := by
        have := run_yield (P := P) (args := #[.int .i64 x]) hl (by rw [hrc]; rfl)
        rw [hrc] at this
        simpa using this
      refine ⟨fn, _, assign, body, hy, roundIn_of_wpIn hfn ?_⟩
      refine hassign _ x W _ ?_
      refine ⟨_, run_beginRound hl (by rw [hrc]), ?_⟩
      obtain ⟨Wb, hWb⟩ : ∃ Wb, W.putObj (w.heap.size + 1) (.loop { rc .ready with state := .busy }) = Wb := ⟨_, rfl⟩
      rw [hWb]
      have lb : Wb.heap[w.heap.size + 1]? = some (.loop { rc .ready with state := .busy }) := by rw [← hWb]; exact World.putObj_heap_same hlt
      have db : Wb.heap[w.heap.size]? = some (.deferred (some [])) := by rw [← hWb]; exact (World.putObj_heap_other (by omega)).trans hd
      have ib : I pre Wb := by rw [← hWb]; exact hIput _ _ _ _ _ hi (by omega) hl rfl
      refine wpIn_mono (hbody _ pre x Wb ib hx) ?_
      rintro e a3 W3 hp
      cases e with
      | normal =>
        obtain ⟨hk, hi3⟩ := hp
        have l3 := hk.same _ _ (by omega) lb rfl
        have d3 := hk.same _ _ (Nat.le_refl _) db rfl
        have er := run_endRound (P := P) none l3
        refine ⟨_, _, er, rfl, hIput _ _ _ _ _ hi3 (by omega) l3 rfl, ?_, (World.putObj_heap_other (by omega)).trans d3⟩
        rw [World.putObj_heap_same (Array.getElem?_eq_some_iff.1 l3).1, hrc]
        rfl
      | _ => exact hp.elim
    · rintro e W2 ⟨⟨v, rfl⟩, hi, hl, hd⟩
      refine ⟨none, _, ?_, hdone _ (hIput _ _ _ _ (.loop { rc .ready with state := .exhausted }) hi (by omega) hl rfl) ((World.putObj_heap_other (by omega)).trans hd)⟩
      have := run_endLoop (P := P) hl (by rw [hrc]; simp)
      rw [hrc] at this ⊢
      exact this

end Go.Proofs.Ytjjfeeclpidblaa.Ln
