/- Parts of the proof of FlatText that stand ahead of it (3). -/
import Derived.Test.YtfcfcgeodghmpaaGreatDoorFlatTextMore2
import Derived.RangeFuncNested
import Derived.RangeFuncCalls
import Derived.RangeFuncLeaves
import Derived.Shelf.Abstract
import Derived.Shelf.RegionOpen
import Derived.OwnWalkIn
import Derived.TacticsInMore
import Derived.LoopNIn
import Derived.LoopIn
import Derived.Sort.QuietIn
import Derived.RangeFuncBox
import Derived.Test.YtfcfcgeodghmpaaGreatDoorChecked
import Derived.Shelf.SlSortCmp.WholeK
import Derived.KernelRfl
import Derived.Shelf.SlSortCmp.NoneTotal
import Derived.Deep.QuietTactic
import Derived.BigQuiet
import Derived.Deep.RegionHeld3
import Derived.OwnWalk
import Derived.Deep.AppendLies
namespace Go.Proofs.YtfcfcgeodghmpaaGreatDoor
open Go.RowKit Go.Shelf
set_option linter.unusedVariables false

namespace G
theorem bs_le {l : List (Int × Int)} (h : mayB l = true) {x : Int} (hx : x ∈ bs l) : 0 ≤ x ∧ x ≤ 1114112 := by
  have := up_mem (bs_up h) hx; omega
end G

theorem bord_lt {l : List (Int × Int)} (h : G.mayB l = true) {p : Nat} (hp : p < (G.bs l).length) : 0 ≤ bord l p ∧ bord l p ≤ 1114112 ∧ (G.bs l).drop p = bord l p :: (G.bs l).drop (p + 1) := by
  have e : bord l p = (G.bs l)[p] := by unfold bord; rw [List.getD_eq_getElem?_getD, List.getElem?_eq_getElem hp]; rfl
  rw [e]
  have := G.bs_le h (List.getElem_mem hp)
  exact ⟨this.1, this.2, List.drop_eq_getElem_cons hp⟩
theorem bord_ge {l : List (Int × Int)} {p : Nat} (hp : (G.bs l).length ≤ p) : bord l p = 1114113 ∧ (G.bs l).drop p = [] := by
  refine ⟨?_, List.drop_of_length_le hp⟩
  unfold bord
  rw [List.getD_eq_getElem?_getD, List.getElem?_eq_none hp]; rfl

theorem mrg_next {A B : List (Int × Int)} (ha : G.mayB A = true) (hb : G.mayB B = true) (p q : Nat) (hp : p ≤ (G.bs A).length) (hq : q ≤ (G.bs B).length) :
    (bord A p = 1114113 ∧ bord B q = 1114113 ∧ G.mrg ((G.bs A).drop p) ((G.bs B).drop q) = []) ∨
    (bord A p < bord B q ∧ p + 1 ≤ (G.bs A).length ∧ bord A p ≤ 1114112 ∧ 0 ≤ bord A p ∧ bord B q ≤ 1114113 ∧ G.mrg ((G.bs A).drop p) ((G.bs B).drop q) = bord A p :: G.mrg ((G.bs A).drop (p + 1)) ((G.bs B).drop q)) ∨
    (bord B q < bord A p ∧ q + 1 ≤ (G.bs B).length ∧ bord B q ≤ 1114112 ∧ 0 ≤ bord B q ∧ bord A p ≤ 1114113 ∧ G.mrg ((G.bs A).drop p) ((G.bs B).drop q) = bord B q :: G.mrg ((G.bs A).drop p) ((G.bs B).drop (q + 1))) ∨
    (bord A p = bord B q ∧ p + 1 ≤ (G.bs A).length ∧ q + 1 ≤ (G.bs B).length ∧ bord A p ≤ 1114112 ∧ 0 ≤ bord A p ∧ G.mrg ((G.bs A).drop p) ((G.bs B).drop q) = bord A p :: G.mrg ((G.bs A).drop (p + 1)) ((G.bs B).drop (q + 1))) := by
  by_cases h1 : p < (G.bs A).length
  · obtain ⟨a0, a1, a2⟩ := bord_lt ha h1
    by_cases h2 : q < (G.bs B).length
    · obtain ⟨b0, b1, b2⟩ := bord_lt hb h2
      rw [a2, b2, G.mrg_cons]
      by_cases c1 : bord A p < bord B q
      · right; left; rw [if_pos c1]; exact ⟨c1, by omega, a1, a0, by omega, rfl⟩
      · by_cases c2 : bord B q < bord A p
        · right; right; left; rw [if_neg c1, if_pos c2]; exact ⟨c2, by omega, b1, b0, by omega, rfl⟩
        · right; right; right; rw [if_neg c1, if_neg c2]; exact ⟨by omega, by omega, by omega, a1, a0, rfl⟩
    · obtain ⟨b1, b2⟩ := bord_ge (l := B) (p := q) (by omega)
      right; left
      rw [a2, b2, b1, G.mrg_nil, G.mrg_nil]
      exact ⟨by omega, by omega, a1, a0, by omega, rfl⟩
  · obtain ⟨a1, a2⟩ := bord_ge (l := A) (p := p) (by omega)
    by_cases h2 : q < (G.bs B).length
    · obtain ⟨b0, b1, b2⟩ := bord_lt hb h2
      right; right; left
      rw [a2, b2, a1]
      exact ⟨by omega, by omega, b1, b0, by omega, by simp [G.mrg_left]⟩
    · obtain ⟨b1, b2⟩ := bord_ge (l := B) (p := q) (by omega)
      left
      rw [a2, b2]
      exact ⟨a1, b1, by simp [G.mrg_left]⟩

theorem Rs.drewN {w : World} {a : Option Addr} {len cap : Nat} {l : List (Int × Int)} (h : Rs w a len cap l) (k : Nat) : Rs (w.drewN k) a len cap l :=
  ⟨h.hlen, h.hcap, h.hmax, h.hfit, fun i hi => by
    obtain ⟨b, off, ha, h1, h2⟩ := h.hcell i hi
    exact ⟨b, off, ha, by simpa using h1, by simpa using h2⟩⟩

attribute [local go_sem] Oper.semAt_some

set_option maxHeartbeats 2000000 in
theorem borders_iter (n : Nat) (hn : 3 ≤ n) (lr : Nat) (a : Option Addr) (la ca : Nat) (A : List (Int × Int)) (b : Option Addr) (lb cb : Nat) (B : List (Int × Int)) (W : World) (J : List Int → World → Prop)
    (hP : ∀ pre W1, J pre W1 → Pr W1 a la ca A b lb cb B)
    (hD : ∀ pre W1 k, J pre W1 → J pre (W1.drewN k))
    (hY : ∀ pre x W1, J pre W1 → W1.heap[W.heap.size]? = some (boxPr a la ca b lb cb) → (∃ rest, pre ++ x :: rest = G.mrg (G.bs A) (G.bs B)) → YieldAt Fence.wide (n - 1) Tryz.prog lr #[.int .i64 x] W1 fun e W' => e = .returned (.bool true) ∧ J (pre ++ [x]) W' ∧ W'.heap[W.heap.size]? = some (boxPr a la ca b lb cb))
    (h0 : J [] (W.alloc (boxPr a la ca b lb cb))) :
    CallsIn Fence.wide n Tryz.prog 177 #[.agg #[.slice a la ca, .slice b lb cb], .func (.yield lr) #[] #[]] W fun e W' => (∃ v, e = .returned v) ∧ J (G.mrg (G.bs A) (G.bs B)) W' := by
  have h1n : 1 ≤ n := by omega
  have h1m : 1 ≤ n - 1 := by omega
  have hma := (hP _ _ h0).ma
  have hmb := (hP _ _ h0).mb
  have hla := (hP _ _ h0).ha.hlen
  have hlb := (hP _ _ h0).hb.hlen
  have bA := G.bs_length A
  have bB := G.bs_length B
  have lA := G.may_length hma
  have lB := G.may_length hmb
  have hY' := hideR hY
  have hP' := hideR hP
  have hD' := hideR hD
  clear hY hP hD
  refine callsIn_of_wp Tryz.func177 rfl trivial ?_ rfl
  simp only [Tryz.ntmps177, List.size_toArray, List.length_cons, List.length_nil, Nat.reduceAdd, Nat.reduceSub, Array.replicate_succ, Array.replicate_zero, List.push_toArray, List.append_toArray, List.nil_append, List.cons_append]
  gi_wp2
  gi_loopw [4, 5] (fun i j wr => ∃ (p q : Nat) (pre : List Int), p ≤ (G.bs A).length ∧ q ≤ (G.bs B).length ∧ i = .int .i64 p ∧ j = .int .i64 q ∧ Hid (pre ++ G.mrg ((G.bs A).drop p) ((G.bs B).drop q) = G.mrg (G.bs A) (G.bs B)) ∧ J pre wr ∧ Hid (wr.heap[W.heap.size]? = some (boxPr a la ca b lb cb))) (fun i j _ => ((G.bs A).length - (intOf i).toNat) + ((G.bs B).length - (intOf j).toNat))
  case atStart =>
    refine ⟨0, 0, [], Nat.zero_le _, Nat.zero_le _, rfl, rfl, by show _ = _; simp, h0, ?_⟩
    exact heap_alloc_new W _
  case round =>
    obtain ⟨p, q, pre, hp, hq, rfl, rfl, hrem, hJ, hbox⟩ := hrel
    have cA : ∀ k, Calls Tryz.prog 201 #[.slice a la ca, .int .i64 p] (wr.drewN k) fun e w' => e = .returned (.int .i64 (bord A p)) ∧ w' = wr.drewN k := fun k => border_any a la ca A p _ ((unhideR hP' _ _ hJ).ha.drewN k) hma (by omega)
    have cB : ∀ k, Calls Tryz.prog 201 #[.slice b lb cb, .int .i64 q] (wr.drewN k) fun e w' => e = .returned (.int .i64 (bord B q)) ∧ w' = wr.drewN k := fun k => border_any b lb cb B q _ ((unhideR hP' _ _ hJ).hb.drewN k) hmb (by omega)
    have hnx := mrg_next hma hmb p q hp hq
    generalize hx : bord A p = x at *
    generalize hy : bord B q = y at *
    clear hx hy
    have cc : ∀ (v : Value) (i z : Int) (k : Nat), ((v = .slice a la ca ∧ i = p ∧ z = x) ∨ (v = .slice b lb cb ∧ i = q ∧ z = y)) → Calls Tryz.prog 201 #[v, .int .i64 i] (wr.drewN k) fun e w' => e = .returned (.int .i64 z) ∧ w' = wr.drewN k := by
      rintro v i z k (⟨rfl, rfl, rfl⟩ | ⟨rfl, rfl, rfl⟩)
      · exact cA k
      · exact cB k
    have CC := hideR cc
    clear cA cB cc
    have k1 : ∀ k, (wr.drewN k).cell? ⟨W.heap.size, 0, none⟩ = some (.slice a la ca) := by
      intro k
      simp [World.cell?, hbox.out]
    have k2 : ∀ k, (wr.drewN k).cell? ⟨W.heap.size, 1, none⟩ = some (.slice b lb cb) := by
      intro k
      simp [World.cell?, hbox.out]
    gi_wp2
    have hfw : ∀ f, Fence.wide.fn f := fun _ => trivial
    gi_quiet ((gi_at_call 201; first | exact CallsIn.quiet_of_same (callsIn_wide.2 (unhideR CC _ _ x _ (.inl ⟨rfl, rfl, rfl⟩))) | exact CallsIn.quiet_of_same (callsIn_wide.2 (unhideR CC _ _ y _ (.inr ⟨rfl, rfl, rfl⟩)))))
    have hJ2 := unhideR hD' _ _ nq hJ
    have hbox2 : Hid ((wr.drewN nq).heap[W.heap.size]? = some (boxPr a la ca b lb cb)) := by show _ = _; simpa using hbox.out
    clear k1 k2 CC hbox
    rcases hnx with ⟨rfl, rfl, hm⟩ | ⟨hxy, hp1, hx1, hx0, hy1, hm⟩ | ⟨hxy, hq1, hy1, hy0, hx1, hm⟩ | ⟨rfl, hp1, hq1, hx1, hx0, hm⟩
    · have hm := hideR hm
      have fin : Hid (pre = G.mrg (G.bs A) (G.bs B)) := by
        show _ = _
        rw [← hrem.out, hm.out, List.append_nil]
      clear hY' hP' hD'
      gi_wp2
      refine bodyPost_ret (results_none rfl _ _ _) rfl ?_
      refine ⟨⟨_, rfl⟩, ?_⟩
      rw [← fin.out]; exact hJ2
    · have hm := hideR hm
      obtain ⟨fn, tmps, assign, body, hy, hR⟩ := unhideR hY' pre x _ hJ2 hbox2.out ⟨_, by rw [← hm.out]; exact hrem.out⟩
      clear hY' hP' hD'
      have e1 : (x == 1114113) = false := by rw [beq_eq_false_iff_ne]; omega
      have e2 : (y == x) = false := by rw [beq_eq_false_iff_ne]; omega
      gi_wp2
      refine hR.mono ?_
      rintro e W3 ⟨rfl, hJ3, hbox3⟩
      have hbox3' := hideR hbox3
      clear hbox3 hR hy
      gi_wp2
      go_roundw
      case rel =>
        refine ⟨p + 1, q, pre ++ [x], by omega, by omega, by go_num, rfl, ?_, hJ3, hbox3'⟩
        show _ = _
        rw [← hrem.out, hm.out]; simp
      case measure => simp [intOf]; omega
    · have hm := hideR hm
      obtain ⟨fn, tmps, assign, body, hy, hR⟩ := unhideR hY' pre y _ hJ2 hbox2.out ⟨_, by rw [← hm.out]; exact hrem.out⟩
      clear hY' hP' hD'
      have e1 : (y == 1114113) = false := by rw [beq_eq_false_iff_ne]; omega
      have e2 : (x == y) = false := by rw [beq_eq_false_iff_ne]; omega
      gi_wp2
      refine hR.mono ?_
      rintro e W3 ⟨rfl, hJ3, hbox3⟩
      have hbox3' := hideR hbox3
      clear hbox3 hR hy
      gi_wp2
      go_roundw
      case rel =>
        refine ⟨p, q + 1, pre ++ [y], by omega, by omega, rfl, by go_num, ?_, hJ3, hbox3'⟩
        show _ = _
        rw [← hrem.out, hm.out]; simp
      case measure => simp [intOf]; omega
    · have hm := hideR hm
      obtain ⟨fn, tmps, assign, body, hy, hR⟩ := unhideR hY' pre x _ hJ2 hbox2.out ⟨_, by rw [← hm.out]; exact hrem.out⟩
      clear hY' hP' hD'
      have e1 : (x == 1114113) = false := by rw [beq_eq_false_iff_ne]; omega
      gi_wp2
      refine hR.mono ?_
      rintro e W3 ⟨rfl, hJ3, hbox3⟩
      have hbox3' := hideR hbox3
      clear hbox3 hR hy
      gi_wp2
      go_roundw
      case rel =>
        refine ⟨p + 1, q + 1, pre ++ [x], by omega, by omega, by go_num, by go_num, ?_, hJ3, hbox3'⟩
        show _ = _
        rw [← hrem.out, hm.out]; simp
      case measure => simp [intOf]; omega

end Go.Proofs.YtfcfcgeodghmpaaGreatDoor

namespace Go.Proofs.YtfcfcgeodghmpaaGreatDoor
open Go.RowKit Go.Shelf
set_option linter.unusedVariables false

abbrev onlyEnd (R : World → Prop) : Exit → Act → World → Prop := Exit.then (fun _ W => R W) (fun _ _ _ => False)

theorem rangeBound {n : Nat} {P : Program} {g : Operand} {t : Tmp} {assign body : Code} {Q : Exit → Act → World → Prop} {a : Act} {w : World}
    (h1 : 1 ≤ n) {gf : Nat} {rb : Array Value} (hg : a.eval g = .func (.func gf) rb #[]) (eg : ∀ args w, (callFunc gf args).run P w = .ok (.enter gf args) w)
    (xs : List Int) (ob : Obj) (I : List Int → World → Prop)
    (hIput : ∀ pre W l o o', I pre W → w.heap.size ≤ l → W.heap[l]? = some o → o.isCells = false → I pre (W.putObj l o'))
    (hIalloc : ∀ pre W o, I pre W → I pre (W.alloc o)) (hIdraw : ∀ pre W k, I pre W → I pre (W.drewN k)) (h0 : I [] w) (a₁ : Int → Act)
    (hassign : ∀ (l : Nat) (x : Int) (W : World) (K : Act → World → Prop), K (a₁ x) W →
      assign.wpIn (Fence.wide.inRound l) (n - 1 - 1) P (Exit.then K (fun _ _ _ => False)) { tmps := a.tmps.setIfInBounds t (.int .i64 x), defers := [] } W)
    (hbody : ∀ (l : Nat) (pre : List Int) (x : Int) (W : World), I pre W → W.heap[w.heap.size + 2]? = some ob → (∃ rest, pre ++ x :: rest = xs) →
      body.wpIn (Fence.wide.inRound l) (n - 1 - 1) P (onlyEnd fun W' => KeepsFrom w.heap.size W W' ∧ I (pre ++ [x]) W' ∧ W'.heap[w.heap.size + 2]? = some ob) (a₁ x) W)
    (hiter : ∀ (lr : Nat) (W : World) (J : List Int → World → Prop), W.heap.size = w.heap.size + 2 → (∀ pre W1, J pre W1 → I pre W1) → (∀ pre W1 k, J pre W1 → J pre (W1.drewN k)) →
      (∀ pre x W1, J pre W1 → W1.heap[w.heap.size + 2]? = some ob → (∃ rest, pre ++ x :: rest = xs) → YieldAt Fence.wide (n - 1 - 1) P lr #[.int .i64 x] W1 fun e W' => e = .returned (.bool true) ∧ J (pre ++ [x]) W' ∧ W'.heap[w.heap.size + 2]? = some ob) →
      J [] (W.alloc ob) → CallsIn Fence.wide (n - 1) P gf (rb ++ #[.func (.yield lr) #[] #[]]) W fun e W' => (∃ v, e = .returned v) ∧ J xs W')
    (hdone : ∀ W : World, I xs W → W.heap[w.heap.size]? = some (.deferred (some [])) → Q .normal { a with defers := { target := .collected w.heap.size, args := #[] } :: a.defers } W) :
    (Code.rangeFunc g #[t] assign body).wpIn Fence.wide n P Q a w := by
  refine wpIn_rangeFunc fun fn hfn => ?_
  obtain ⟨rc, hrc⟩ : ∃ rc : LoopState → Loop, rc = fun st => { state := st, pending := none, fn := fn, tmps := a.tmps, params := #[t], assign := assign, body := body, defers := w.heap.size } := ⟨_, rfl⟩
  obtain ⟨W1, hW1⟩ : ∃ W1, (w.alloc (.deferred (some []))).alloc (.loop (rc .ready)) = W1 := ⟨_, rfl⟩
  have s1 : W1.heap.size = w.heap.size + 2 := by rw [← hW1]; simp
  have d1 : W1.heap[w.heap.size]? = some (.deferred (some [])) := by
    rw [← hW1]; exact (Below.heap_alloc _ _ _ (by simp)).trans (World.alloc_heap_new w _)
  have r1 : W1.heap[w.heap.size + 1]? = some (.loop (rc .ready)) := by
    rw [← hW1]; have := World.alloc_heap_new (w.alloc (.deferred (some []))) (.loop (rc .ready)); rwa [World.size_alloc] at this
  have i1 : I [] W1 := by rw [← hW1]; exact hIalloc _ _ _ (hIalloc _ _ _ h0)
  refine ⟨w.heap.size + 1, [{ target := .collected w.heap.size, args := #[] }], W1, { target := .fn (.func gf) #[], args := rb ++ #[.func (.yield (w.heap.size + 1)) #[] #[]] }, W1, gf,
    rb ++ #[.func (.yield (w.heap.size + 1)) #[] #[]], W1, ?_, ?_, fun _ _ => trivial, ?_, fun _ => h1, ?_⟩
  · rw [← hW1, hrc]; exact run_enterLoop_outer _ _ _ _ _
  · simp only [resolve, hg]
    simp [go_sem]
  · simp [invoke, go_sem, eg]
  · refine (hiter (w.heap.size + 1) W1 (fun pre W => I pre W ∧ W.heap[w.heap.size + 1]? = some (.loop (rc .ready)) ∧ W.heap[w.heap.size]? = some (.deferred (some [])))
      s1 (fun _ _ h => h.1) (fun pre W k h => ⟨hIdraw _ _ _ h.1, by simpa using h.2.1, by simpa using h.2.2⟩) ?_
      ⟨hIalloc _ _ _ i1, (Below.heap_alloc _ _ _ (by omega)).trans r1, (Below.heap_alloc _ _ _ (by omega)).trans d1⟩).mono ?_
    · rintro pre x W ⟨hi, hl, hd⟩ hob hx
      have hlt : w.heap.size + 1 < W.heap.size := (Array.getElem?_eq_some_iff.1 hl).1
      have hy : (Instr.yield (w.heap.size + 1) #[.int .i64 x]).run P W = .ok (.round (w.heap.size + 1) fn (a.tmps.setIfInBounds t (.int .i64 x)) assign body) W := by
        have := run_yield (P := P) (args := #[.int .i64 x]) hl (by rw [hrc]; rfl)
        rw [hrc] at this
        simpa using this
      refine ⟨fn, _, assign, body, hy, roundIn_of_wpIn hfn ?_⟩
      refine hassign _ x W _ ?_
      refine ⟨_, run_beginRound hl (by rw [hrc]), ?_⟩
      obtain ⟨Wb, hWb⟩ : ∃ Wb, W.putObj (w.heap.size + 1) (.loop { rc .ready with state := .busy }) = Wb := ⟨_, rfl⟩
      rw [hWb]
      have lb : Wb.heap[w.heap.size + 1]? = some (.loop { rc .ready with state := .busy }) := by rw [← hWb]; exact World.putObj_heap_same hlt
      have db : Wb.heap[w.heap.size]? = some (.deferred (some [])) := by rw [← hWb]; exact (World.putObj_heap_other (by omega)).trans hd
      have ib : I pre Wb := by rw [← hWb]; exact hIput _ _ _ _ _ hi (by omega) hl rfl
      have bb : Wb.heap[w.heap.size + 2]? = some ob := by rw [← hWb]; exact (World.putObj_heap_other (by omega)).trans hob
      refine wpIn_mono (hbody _ pre x Wb ib bb hx) ?_
      rintro e a3 W3 hp
      cases e with
      | normal =>
        obtain ⟨hk, hi3, hb3⟩ := hp
        have l3 := hk.same _ _ (by omega) lb rfl
        have d3 := hk.same _ _ (Nat.le_refl _) db rfl
        have er := run_endRound (P := P) none l3
        refine ⟨_, _, er, rfl, ⟨hIput _ _ _ _ _ hi3 (by omega) l3 rfl, ?_, (World.putObj_heap_other (by omega)).trans d3⟩, (World.putObj_heap_other (by omega)).trans hb3⟩
        rw [World.putObj_heap_same (Array.getElem?_eq_some_iff.1 l3).1, hrc]
        rfl
      | _ => exact hp.elim
    · rintro e W2 ⟨⟨v, rfl⟩, hi, hl, hd⟩
      refine ⟨none, _, ?_, hdone _ (hIput _ _ _ _ (.loop { rc .ready with state := .exhausted }) hi (by omega) hl rfl) ((World.putObj_heap_other (by omega)).trans hd)⟩
      have := run_endLoop (P := P) hl (by rw [hrc]; simp)
      rw [hrc] at this ⊢
      exact this

end Go.Proofs.YtfcfcgeodghmpaaGreatDoor

namespace Go.Proofs.YtfcfcgeodghmpaaGreatDoor
open Go.RowKit Go.Shelf
set_option linter.unusedVariables false

def outL (done : List (Int × Int)) : Option Int → List (Int × Int)
  | none => done
  | some lo => done ++ [(lo, lo)]

structure MI (w : World) (fv : Value) (p : Int → Bool) (pre : List Int) (W : World) : Prop where
  bel : Below w.heap.size w W
  size : w.heap.size + 4 ≤ W.heap.size
  ask : W.heap[w.heap.size + 1]? = some (.cells #[fv] 60)
  ex : ∃ v done st, W.heap[w.heap.size + 2]? = some (.cells #[v] 33) ∧ W.heap[w.heap.size + 3]? = some (.cells #[.bool st.isSome] 4) ∧
    W.ownsRow (w.heap.size + 4) 58 2 v (outL done st).length (cellsL (outL done st)) ∧ (∀ rest, G.run p none (pre ++ rest) = done ++ G.run p st rest) ∧ (outL done st).length ≤ pre.length

theorem MI.put {w : World} {fv : Value} {p : Int → Bool} {pre : List Int} {W : World} (h : MI w fv p pre W) {l : Nat} {o : Obj} (o' : Obj) (hl : w.heap.size + 4 ≤ l) (ho : W.heap[l]? = some o) (hc : o.isCells = false) : MI w fv p pre (W.putObj l o') := by
  obtain ⟨v, done, st, h2, h3, h4, h5, h6⟩ := h.ex
  have hs := h.size
  exact ⟨h.bel.grown (grownBy_putObj' W l o') (by omega) (fun k e => by cases e; omega), by simpa using hs, (World.putObj_heap_other (by omega)).trans h.ask,
    v, done, st, (World.putObj_heap_other (by omega)).trans h2, (World.putObj_heap_other (by omega)).trans h3, ownsRow_putObj h4 o' ho hc, h5, h6⟩
theorem MI.alloc {w : World} {fv : Value} {p : Int → Bool} {pre : List Int} {W : World} (h : MI w fv p pre W) (o : Obj) : MI w fv p pre (W.alloc o) := by
  obtain ⟨v, done, st, h2, h3, h4, h5, h6⟩ := h.ex
  have hs := h.size
  exact ⟨h.bel.alloc (by omega) o, by simp; omega, (Below.heap_alloc _ _ _ (by omega)).trans h.ask,
    v, done, st, (Below.heap_alloc _ _ _ (by omega)).trans h2, (Below.heap_alloc _ _ _ (by omega)).trans h3, h4.alloc o, h5, h6⟩
theorem MI.drewN {w : World} {fv : Value} {p : Int → Bool} {pre : List Int} {W : World} (h : MI w fv p pre W) (k : Nat) : MI w fv p pre (W.drewN k) := by
  obtain ⟨v, done, st, h2, h3, h4, h5, h6⟩ := h.ex
  exact ⟨⟨h.bel.os, h.bel.tape, h.bel.output, by simpa using h.bel.size, by simpa using h.bel.block⟩, by simpa using h.size, by simpa using h.ask, v, done, st, by simpa using h2, by simpa using h3, h4, h5, h6⟩

namespace G
theorem mrg_length (xs ys : List Int) : (mrg xs ys).length ≤ xs.length + ys.length := by
  induction xs generalizing ys with
  | nil => simp [mrg_left]
  | cons x xs ih =>
    induction ys with
    | nil => rw [mrg_nil]; simp
    | cons y ys ihy =>
      rw [mrg_cons]
      split
      · have := ih (y :: ys); simp at *; omega
      · split
        · simp at *; omega
        · have := ih ys; simp at *; omega
end G

theorem own_apart {W : World} {base : Nat} {e : TypeId} {size : Nat} {v : Value} {n : Nat} {xs : List Value} (h : W.ownsRow base e size v n xs) {k : Nat} {cs : Array Value} {t : TypeId} (hk : W.heap[k]? = some (.cells cs t)) (ht : t ≠ e) : some k ≠ v.ownBlock := by
  rcases h.2 with ⟨rfl, _⟩ | ⟨g, cap, cur, rfl, _, hg, _⟩
  · simp [Value.ownBlock]
  · intro e'
    simp only [Value.ownBlock, Option.some.injEq] at e'
    subst e'
    rw [hg] at hk
    simp only [Option.some.injEq, Obj.cells.injEq] at hk
    exact ht hk.2.1.symm
theorem own_cells {W : World} {base : Nat} {e : TypeId} {size : Nat} {v : Value} {n : Nat} {xs : List Value} (h : W.ownsRow base e size v n xs) : ∀ (j : Nat) (o : Obj), v.ownBlock = some j → W.heap[j]? = some o → o.isCells = true := by
  intro j o hj ho
  rcases h.2 with ⟨rfl, _⟩ | ⟨g, cap, cur, rfl, _, hg, _⟩
  · simp [Value.ownBlock] at hj
  · simp only [Value.ownBlock, Option.some.injEq] at hj
    subst hj
    rw [hg] at ho
    cases ho; rfl
theorem alloc_at (w : World) (o : Obj) (k : Nat) (hk : k = w.heap.size) : (w.alloc o).heap[k]? = some o := by subst hk; exact World.alloc_heap_new w o
theorem below_others {W W' : World} (h : Below W.heap.size W W') : KeepsOthers W W' := ⟨h.size, fun k o hk _ => (h.block k (Array.getElem?_eq_some_iff.1 hk).1).trans hk⟩
theorem below_grown {W W' : World} (h : Below W.heap.size W W') : W.grownBy W' none := ⟨h.os, h.tape, h.output, h.size, fun k hk _ => h.block k hk⟩
theorem own_later {W W' : World} (h : Below W.heap.size W W') {base : Nat} {e : TypeId} {size : Nat} {v : Value} {n : Nat} {xs : List Value} (ho : W.ownsRow base e size v n xs) : W'.ownsRow base e size v n xs :=
  ho.kept (below_grown h) (by cases v.ownBlock <;> simp)
theorem cell_of {W : World} {k : Nat} {u : Value} {t : TypeId} (h : W.heap[k]? = some (.cells #[u] t)) : W.cell? ⟨k, 0, none⟩ = some u ∧ W.frozen? ⟨k, 0, none⟩ = false := by
  constructor
  · simp [World.cell?, h]
  · simp [World.frozen?, h]
theorem put_cell {W : World} {k : Nat} {u v : Value} {t : TypeId} (h : W.heap[k]? = some (.cells #[u] t)) : (W.setCell ⟨k, 0, none⟩ v).heap[k]? = some (.cells #[v] t) := by
  have := heap_setCell_same W k 0 #[u] t v h
  simpa using this

def After (w : World) (fv : Value) (p : Int → Bool) (ob : Obj) (pre : List Int) (x : Int) (W W' : World) : Prop := KeepsFrom (w.heap.size + 4) W W' ∧ MI w fv p (pre ++ [x]) W' ∧ W'.heap[w.heap.size + 6]? = some ob

theorem after_end {w : World} {fv : Value} {p : Int → Bool} {ob : Obj} {pre : List Int} {x : Int} {W W' : World} {N : Nat} {a : Act} (hN : N = w.heap.size + 4) (h : After w fv p ob pre x W W') :
    onlyEnd (fun W' => KeepsFrom N W W' ∧ MI w fv p (pre ++ [x]) W' ∧ W'.heap[N + 2]? = some ob) .normal a W' := by
  subst hN
  exact h

theorem MI.idle {w : World} {fv : Value} {p : Int → Bool} {ob : Obj} {pre : List Int} {x : Int} {W W2 : World} (h : MI w fv p pre W) (hob : W.heap[w.heap.size + 6]? = some ob) (h2 : Below W.heap.size W W2) (v : Value) (done : List (Int × Int)) (st st' : Option Int)
    (c2 : W.heap[w.heap.size + 2]? = some (.cells #[v] 33)) (c3 : W.heap[w.heap.size + 3]? = some (.cells #[.bool st.isSome] 4)) (own : W.ownsRow (w.heap.size + 4) 58 2 v (outL done st).length (cellsL (outL done st)))
    (hrun : ∀ rest, G.run p none ((pre ++ [x]) ++ rest) = done ++ G.run p st' rest) (hlen : (outL done st).length ≤ pre.length) (hst : st' = st) :
    After w fv p ob pre x W (W2.setCell ⟨w.heap.size + 3, 0, none⟩ (.bool st.isSome)) := by
  subst hst
  have hs := h.size
  have hs2 := h2.size
  have lob : w.heap.size + 6 < W.heap.size := (Array.getElem?_eq_some_iff.1 hob).1
  have k3 : W2.heap[w.heap.size + 3]? = some (.cells #[.bool st'.isSome] 4) := (h2.block _ (by omega)).trans c3
  have ow2 := own_later h2 own
  refine ⟨((below_others h2).trans (KeepsOthers.setCell _ _ _)).from _, ⟨(h.bel.trans (h2.mono (by omega))).setCell (by simp) _, by simp [World.setCell]; omega, (Below.heap_setCell _ _ _ _ (by simp)).trans ((h2.block _ (by omega)).trans h.ask),
    v, done, st', (Below.heap_setCell _ _ _ _ (by simp)).trans ((h2.block _ (by omega)).trans c2), put_cell k3, ownsRow_setCell_below ow2 (by simp) _, hrun, by simp; omega⟩, (Below.heap_setCell _ _ _ _ (by simp)).trans ((h2.block _ lob).trans hob)⟩

theorem MI.begin {w : World} {fv : Value} {p : Int → Bool} {ob : Obj} {pre : List Int} {x : Int} {W W2 W3 : World} (h : MI w fv p pre W) {bc : Array Value} {bt : TypeId} (hobe : ob = .cells bc bt) (hbt : bt ≠ 58) (hob : W.heap[w.heap.size + 6]? = some ob) (h2 : Below W.heap.size W W2) (v v' : Value) (done : List (Int × Int)) (o1 : Obj)
    (c2 : W.heap[w.heap.size + 2]? = some (.cells #[v] 33)) (c3 : W.heap[w.heap.size + 3]? = some (.cells #[.bool false] 4)) (own : W.ownsRow (w.heap.size + 4) 58 2 v done.length (cellsL done))
    (own3 : W3.ownsRow (w.heap.size + 4) 58 2 v' (done.length + 1) (cellsL done ++ [.int .i64 x, .int .i64 x])) (hg : (W2.alloc o1).grownBy W3 v.ownBlock)
    (hrun : ∀ rest, G.run p none ((pre ++ [x]) ++ rest) = done ++ G.run p (some x) rest) (hlen : done.length ≤ pre.length) :
    After w fv p ob pre x W ((W3.setCell ⟨w.heap.size + 2, 0, none⟩ v').setCell ⟨w.heap.size + 3, 0, none⟩ (.bool true)) := by
  subst hobe
  have hs := h.size
  have hs2 := h2.size
  have hs3 := hg.size
  simp only [World.size_alloc] at hs3
  have lob : w.heap.size + 6 < W.heap.size := (Array.getElem?_eq_some_iff.1 hob).1
  have ow2 := own_later h2 own
  have keep : ∀ k, k < W.heap.size → some k ≠ v.ownBlock → W3.heap[k]? = W.heap[k]? := fun k hk hne => (hg.block k (by simp; omega) hne).trans ((Below.heap_alloc _ _ _ (by omega)).trans (h2.block k hk))
  have k1 : W3.heap[w.heap.size + 1]? = some (.cells #[fv] 60) := (keep _ (by omega) (own_apart own h.ask (by decide))).trans h.ask
  have k2 : W3.heap[w.heap.size + 2]? = some (.cells #[v] 33) := (keep _ (by omega) (own_apart own c2 (by decide))).trans c2
  have k3 : W3.heap[w.heap.size + 3]? = some (.cells #[.bool false] 4) := (keep _ (by omega) (own_apart own c3 (by decide))).trans c3
  have k6 : W3.heap[w.heap.size + 6]? = some (.cells bc bt) := (keep _ lob (own_apart own hob hbt)).trans hob
  have cl : cellsL (done ++ [(x, x)]) = cellsL done ++ [.int .i64 x, .int .i64 x] := by rw [cellsL_append]; rfl
  refine ⟨((((below_others h2).trans (KeepsOthers.alloc _ o1)).trans (KeepsOthers.of_grownBy hg (own_cells (ow2.alloc o1)))).trans ((KeepsOthers.setCell _ _ _).trans (KeepsOthers.setCell _ _ _))).from _,
    ⟨((((h.bel.trans (h2.mono (by omega))).alloc (by omega) o1).grown hg (by simp; omega) (fun k hk => by have := (own.lt k hk).1; omega)).setCell (by simp) _).setCell (by simp) _, by simp [World.setCell]; omega,
      (Below.heap_setCell _ _ _ _ (by simp)).trans ((Below.heap_setCell _ _ _ _ (by simp)).trans k1),
      v', done, some x, (Below.heap_setCell _ _ _ _ (by simp)).trans (put_cell k2), put_cell ((Below.heap_setCell _ _ _ _ (by simp)).trans k3), ?_, hrun, by simp [outL]; omega⟩,
    (Below.heap_setCell _ _ _ _ (by simp)).trans ((Below.heap_setCell _ _ _ _ (by simp)).trans k6)⟩
  show World.ownsRow _ _ _ _ _ (done ++ [(x, x)]).length (cellsL (done ++ [(x, x)]))
  rw [cl, List.length_append]
  exact ownsRow_setCell_below (ownsRow_setCell_below own3 (by simp) _) (by simp) _

theorem cellsL_set (done : List (Int × Int)) (lo y : Int) : (cellsL (done ++ [(lo, lo)])).set (done.length * 2 + 1) (.int .i64 y) = cellsL (done ++ [(lo, y)]) := by
  rw [cellsL_append, cellsL_append, List.set_append_right _ _ (by rw [cellsL_length]; omega), cellsL_length, show done.length * 2 + 1 - done.length * 2 = 1 by omega]
  rfl

theorem MI.over {w : World} {fv : Value} {p : Int → Bool} {ob : Obj} {pre : List Int} {x : Int} {W W2 : World} (h : MI w fv p pre W) {bc : Array Value} {bt : TypeId} (hobe : ob = .cells bc bt) (hbt : bt ≠ 58) (hob : W.heap[w.heap.size + 6]? = some ob) (h2 : Below W.heap.size W W2) (g cap : Nat) (done : List (Int × Int)) (lo : Int)
    (c2 : W.heap[w.heap.size + 2]? = some (.cells #[.slice (some ⟨g, 0, none⟩) (done.length + 1) cap] 33)) (c3 : W.heap[w.heap.size + 3]? = some (.cells #[.bool true] 4)) (own : W.ownsRow (w.heap.size + 4) 58 2 (.slice (some ⟨g, 0, none⟩) (done.length + 1) cap) (done.length + 1) (cellsL (done ++ [(lo, lo)])))
    (hrun : ∀ rest, G.run p none ((pre ++ [x]) ++ rest) = (done ++ [(lo, x - 1)]) ++ G.run p none rest) (hlen : done.length + 1 ≤ pre.length) :
    After w fv p ob pre x W ((W2.setCell ⟨g, done.length * 2 + 1, none⟩ (.int .i64 (x - 1))).setCell ⟨w.heap.size + 3, 0, none⟩ (.bool false)) := by
  subst hobe
  have hs := h.size
  have hs2 := h2.size
  have lob : w.heap.size + 6 < W.heap.size := (Array.getElem?_eq_some_iff.1 hob).1
  have ow2 := own_later h2 own
  obtain ⟨o3, g3⟩ := ow2.stored (done.length * 2 + 1) (.int .i64 (x - 1))
  rw [cellsL_set] at o3
  have keep : ∀ k, k < W.heap.size → some k ≠ (Value.slice (some ⟨g, 0, none⟩) (done.length + 1) cap).ownBlock → (W2.setCell ⟨g, done.length * 2 + 1, none⟩ (.int .i64 (x - 1))).heap[k]? = W.heap[k]? := fun k hk hne => (g3.block k (by omega) hne).trans (h2.block k hk)
  have k1 := (keep _ (by omega) (own_apart own h.ask (by decide))).trans h.ask
  have k2 := (keep _ (by omega) (own_apart own c2 (by decide))).trans c2
  have k3 := (keep _ (by omega) (own_apart own c3 (by decide))).trans c3
  have k6 := (keep _ lob (own_apart own hob hbt)).trans hob
  have gb := (own.lt g rfl).1
  refine ⟨(((below_others h2).trans (KeepsOthers.setCell _ _ _)).trans (KeepsOthers.setCell _ _ _)).from _,
    ⟨((h.bel.trans (h2.mono (by omega))).setCell (by simp; omega) _).setCell (by simp) _, by simp [World.setCell]; omega, (Below.heap_setCell _ _ _ _ (by simp)).trans k1,
      .slice (some ⟨g, 0, none⟩) (done.length + 1) cap, done ++ [(lo, x - 1)], none, (Below.heap_setCell _ _ _ _ (by simp)).trans k2, put_cell k3, ?_, hrun, by simp [outL]; omega⟩,
    (Below.heap_setCell _ _ _ _ (by simp)).trans k6⟩
  show World.ownsRow _ _ _ _ _ (done ++ [(lo, x - 1)]).length (cellsL (done ++ [(lo, x - 1)]))
  rw [List.length_append]
  exact ownsRow_setCell_below o3 (by simp) _

attribute [local go_sem] Oper.semAt_some

set_option maxHeartbeats 2000000 in
theorem merge_any (fa : Nat) (p : Int → Bool) (a : Option Addr) (la ca : Nat) (A : List (Int × Int)) (b : Option Addr) (lb cb : Nat) (B : List (Int × Int)) (w : World) (h : Pr w a la ca A b lb cb B)
    (hen : ∀ args w, (callFunc fa args).run Tryz.prog w = .ok (.enter fa args) w)
    (hask : ∀ (n : Int) (W : World), Pr W a la ca A b lb cb B → Calls Tryz.prog fa #[.agg #[.slice a la ca, .slice b lb cb], .int .i64 n] W fun e w' => e = .returned (.bool (p n)) ∧ Below W.heap.size W w') :
    Calls Tryz.prog 153 #[.agg #[.slice a la ca, .slice b lb cb], .func (.func fa) #[.agg #[.slice a la ca, .slice b lb cb]] #[]] w fun e w' =>
      ∃ v, e = .returned v ∧ Ow w' w.heap.size v (G.run p none (G.mrg (G.bs A) (G.bs B))) ∧ Below w.heap.size w w' := by
  have hmf : ∀ (fn : Fn) (first cap : Array Value) (w : World), (Instr.makeFunc fn first cap).run Tryz.prog w = .ok (.func fn first cap) w := fun _ _ _ _ => rfl
  refine (callsIn_wide (n := 6)).1 ?_
  refine callsIn_of_wp_marks Tryz.func153 rfl trivial ?_ rfl
  simp only [Tryz.ntmps153, List.size_toArray, List.length_cons, List.length_nil, Nat.reduceAdd, Nat.reduceSub, Array.replicate_succ, Array.replicate_zero, List.push_toArray, List.append_toArray, List.nil_append, List.cons_append]
  have HA := hideR hask
  clear hask
  have HP := hideR h
  clear h
  have hx48 : ∀ args w, (callFunc 177 args).run Tryz.prog w = .ok (.enter 177 args) w := enters_of Tryz.func177 (by kernel_rfl) rfl
  obtain ⟨i0, hi0, hz0, hz1, hz2⟩ := info_parts infoRg
  gi_wp2
  have bel0 : Below w.heap.size w ((((w.alloc (boxPr a la ca b lb cb)).alloc (.cells #[.func (.func fa) #[.agg #[.slice a la ca, .slice b lb cb]] #[]] 60)).alloc (.cells #[.slice none 0 0] 33)).alloc (.cells #[.bool false] 4)) :=
    ((((Below.refl _ w).alloc (Nat.le_refl _) _).alloc (by simp) _).alloc (by simp; omega) _).alloc (by simp; omega) _
  generalize hfv : Value.func (.func fa) #[.agg #[.slice a la ca, .slice b lb cb]] #[] = fv at *
  refine rangeBound (n := 6) (by omega) (gf := 177) (rb := #[.agg #[.slice a la ca, .slice b lb cb]]) rfl hx48 (G.mrg (G.bs A) (G.bs B)) (boxPr a la ca b lb cb) (MI w fv p)
    (fun pre W l o o' hi hl ho hc => hi.put o' (by simp at hl; omega) ho hc) (fun pre W o hi => hi.alloc o) (fun pre W k hi => hi.drewN k) ?start
    (fun x => { tmps := #[.agg #[.slice a la ca, .slice b lb cb], fv, .pointer (some ⟨w.heap.size, 0, none⟩), .pointer (some ⟨w.heap.size + 1, 0, none⟩), .slice none 0 0, .pointer (some ⟨w.heap.size + 1 + 1, 0, none⟩), .pointer (some ⟨w.heap.size + 1 + 1 + 1, 0, none⟩), .int .i64 x, undef, .agg #[.slice a la ca, .slice b lb cb], .func (.func 177) #[.agg #[.slice a la ca, .slice b lb cb]] #[], .int .i64 x, undef, undef, undef, undef, undef, undef, undef, undef, undef, undef, undef, undef, undef, undef, undef, undef, undef, undef, undef, undef, undef, undef, undef, undef, undef, undef, undef, undef, undef], defers := [] })
    ?assign ?body ?iter ?done
  case start =>
    refine ⟨bel0, by simp, ?_, .slice none 0 0, [], none, ?_, ?_, World.ownsRow_nil _ _ _ _, fun rest => by simp, by simp [outL]⟩
    · exact (Below.heap_alloc _ _ _ (by simp)).trans ((Below.heap_alloc _ _ _ (by simp)).trans (alloc_at _ _ _ (by simp)))
    · exact (Below.heap_alloc _ _ _ (by simp)).trans (alloc_at _ _ _ (by simp))
    · exact alloc_at _ _ _ (by simp)
  case assign =>
    intro l x W K hK
    gi_wp2
    exact hK
  case iter =>
    intro lr W J hsz hJI hJd hY h0
    rw [← hsz] at hY
    exact borders_iter 5 (by omega) lr a la ca A b lb cb B W J (fun pre W1 hj => (unhideR HP).later (hJI _ _ hj).bel (Nat.le_refl _)) hJd hY h0
  case body =>
    rintro l pre x W hI hob ⟨rest, hrest⟩
    obtain ⟨v, done, st, c2, c3, own, hrun, hlen⟩ := hI.ex
    have ask := (cell_of hI.ask).1
    have cA := unhideR HA x W ((unhideR HP).later hI.bel (Nat.le_refl _))
    have hsz := hI.size
    have hI' := hideR hI
    have hob' : Hid (W.heap[w.heap.size + 6]? = some (boxPr a la ca b lb cb)) := by
      have := hob
      simp only [World.size_alloc] at this
      exact this
    have hbnd : pre.length + 1 ≤ 5000000 := by
      have l1 := G.mrg_length (G.bs A) (G.bs B)
      rw [← hrest, List.length_append, G.bs_length, G.bs_length] at l1
      have := G.may_length (unhideR HP).ma
      have := G.may_length (unhideR HP).mb
      simp at l1
      omega
    have hx : 0 ≤ x ∧ x ≤ 1114112 := by
      have m : x ∈ G.mrg (G.bs A) (G.bs B) := by rw [← hrest]; simp
      rcases (G.mem_mrg _ _).1 m with m | m
      · exact G.bs_le (unhideR HP).ma m
      · exact G.bs_le (unhideR HP).mb m
    obtain ⟨hx0, hx1⟩ := hx
    subst hfv
    clear hI hmf hob hrest bel0
    cases st with
    | none =>
      have C2 := hideR c2
      have C3 := hideR c3
      have own' := hideR own
      clear c2 c3 own
      simp only [outL] at hlen own'
      cases hpx : p x with
      | false =>
        rw [hpx] at cA
        have CA := hideR cA
        have HR : Hid (∀ rest, G.run p none ((pre ++ [x]) ++ rest) = done ++ G.run p none rest) := fun rest => by
          rw [List.append_assoc, List.singleton_append, hrun, G.run, hpx]; simp
        clear cA hrun hpx
        gi_wp2_with fail
        refine ⟨trivial, ?_⟩
        refine (CallsIn.inRound l (callsIn_wide.2 (unhideR CA))).mono ?_
        rintro e W2 ⟨rfl, hb2⟩
        have g2 := cell_of ((hb2.block _ (by omega)).trans (unhideR C2))
        have g3 := cell_of ((hb2.block _ (by omega)).trans (unhideR C3))
        obtain ⟨g2, g2f⟩ := g2
        obtain ⟨g3, g3f⟩ := g3
        gi_wp2_with fail
        refine after_end (by simp) ?_
        exact (unhideR hI').idle (unhideR hob') hb2 v done none none (unhideR C2) (unhideR C3) (unhideR own') (unhideR HR) hlen rfl
      | true =>
        rw [hpx] at cA
        have CA := hideR cA
        have HR : Hid (∀ rest, G.run p none ((pre ++ [x]) ++ rest) = done ++ G.run p (some x) rest) := fun rest => by
          rw [List.append_assoc, List.singleton_append, hrun, G.run, hpx]; simp
        clear cA hrun hpx
        gi_wp2_with fail
        refine ⟨trivial, ?_⟩
        refine (CallsIn.inRound l (callsIn_wide.2 (unhideR CA))).mono ?_
        rintro e W2 ⟨rfl, hb2⟩
        have g2 := cell_of ((hb2.block _ (by omega)).trans (unhideR C2))
        have g3 := cell_of ((hb2.block _ (by omega)).trans (unhideR C3))
        obtain ⟨g2, g2f⟩ := g2
        obtain ⟨g3, g3f⟩ := g3
        have own2 := own_later hb2 (unhideR own')
        have b2 := hb2.size
        have n2 := fun k u t (hk : W.heap[k]? = some (Obj.cells #[u] t)) (ht : t ≠ 58) => own_apart (unhideR own') hk ht
        have a2 := hideR (n2 _ _ _ (unhideR C2) (by decide))
        have a3 := hideR (n2 _ _ _ (unhideR C3) (by decide))
        clear n2
        gi_wp2_with (gi_at_builtin; refine wpListIn_append_own _ rfl _ _ 33 rfl (w.heap.size + 4) 58 i0 _ 2 16 Tryz.underlying33 hi0 hz0 hz1 hz2 rfl (by omega) _ _ _ rfl (own2.alloc _) ⟨W2.heap.size, 0, none⟩ 1 1 [.int .i64 x, .int .i64 x] rfl rfl (new_cells _ _ _ _ rfl) (by simp [Value.oneCell']) (by unfold maxLen; omega) (by omega) (by simp; omega) ?_; intro v' W3 hown3 hgrow _; obtain ⟨g', cap', rfl⟩ := ownsRow_succ hown3; have q2 := cell_of ((hgrow.block _ (by simp; omega) (unhideR a2)).trans ((Below.heap_alloc _ _ _ (by omega)).trans ((hb2.block _ (by omega)).trans (unhideR C2)))); have q3 := cell_of ((hgrow.block _ (by simp; omega) (unhideR a3)).trans ((Below.heap_alloc _ _ _ (by omega)).trans ((hb2.block _ (by omega)).trans (unhideR C3)))); obtain ⟨q2, q2f⟩ := q2; obtain ⟨q3, q3f⟩ := q3)
        refine after_end (by simp) ?_
        exact (unhideR hI').begin rfl (by decide) (unhideR hob') hb2 v _ done _ (unhideR C2) (unhideR C3) (unhideR own') hown3 hgrow (unhideR HR) hlen
    | some lo =>
      obtain ⟨g, cap, hv⟩ := ownsRow_succ (k := done.length) (by simpa [outL] using own)
      subst hv
      have C2 := hideR c2
      have C3 := hideR c3
      have own' : Hid (W.ownsRow (w.heap.size + 4) 58 2 (.slice (some ⟨g, 0, none⟩) (done.length + 1) cap) (done.length + 1) (cellsL (done ++ [(lo, lo)]))) := by
        have := own
        simp only [outL, List.length_append, List.length_cons, List.length_nil, Nat.zero_add] at this
        exact this
      clear c2 c3 own
      simp only [outL, List.length_append, List.length_cons, List.length_nil, Nat.zero_add] at hlen
      cases hpx : p x with
      | true =>
        rw [hpx] at cA
        have CA := hideR cA
        have HR : Hid (∀ rest, G.run p none ((pre ++ [x]) ++ rest) = done ++ G.run p (some lo) rest) := fun rest => by
          rw [List.append_assoc, List.singleton_append, hrun, G.run, hpx]; simp
        clear cA hrun hpx
        gi_wp2_with fail
        refine ⟨trivial, ?_⟩
        refine (CallsIn.inRound l (callsIn_wide.2 (unhideR CA))).mono ?_
        rintro e W2 ⟨rfl, hb2⟩
        have g2 := cell_of ((hb2.block _ (by omega)).trans (unhideR C2))
        have g3 := cell_of ((hb2.block _ (by omega)).trans (unhideR C3))
        obtain ⟨g2, g2f⟩ := g2
        obtain ⟨g3, g3f⟩ := g3
        gi_wp2_with fail
        refine after_end (by simp) ?_
        exact (unhideR hI').idle (unhideR hob') hb2 _ done (some lo) (some lo) (unhideR C2) (unhideR C3) (by simpa [outL] using unhideR own') (unhideR HR) (by simp [outL]; omega) rfl
      | false =>
        rw [hpx] at cA
        have CA := hideR cA
        have HR : Hid (∀ rest, G.run p none ((pre ++ [x]) ++ rest) = (done ++ [(lo, x - 1)]) ++ G.run p none rest) := fun rest => by
          rw [List.append_assoc, List.singleton_append, hrun, G.run, hpx]; simp
        clear cA hrun hpx
        gi_wp2_with fail
        refine ⟨trivial, ?_⟩
        refine (CallsIn.inRound l (callsIn_wide.2 (unhideR CA))).mono ?_
        rintro e W2 ⟨rfl, hb2⟩
        have g2 := cell_of ((hb2.block _ (by omega)).trans (unhideR C2))
        have g3 := cell_of ((hb2.block _ (by omega)).trans (unhideR C3))
        obtain ⟨g2, g2f⟩ := g2
        obtain ⟨g3, g3f⟩ := g3
        have own2 := own_later hb2 (unhideR own')
        have u1 := own2.cellAt (done.length * 2 + 1) (by omega)
        have u2 := own2.frozenAt (done.length * 2 + 1)
        rw [cellsL_append, List.getElem?_append_right (by rw [cellsL_length]; omega), cellsL_length, show done.length * 2 + 1 - done.length * 2 = 1 by omega, show (cellsL [(lo, lo)])[1]? = some (.int .i64 lo) from rfl] at u1
        gi_wp2_with fail
        refine after_end (by simp) ?_
        exact (unhideR hI').over rfl (by decide) (unhideR hob') hb2 g cap done lo (unhideR C2) (unhideR C3) (unhideR own') (unhideR HR) hlen
  case done =>
    intro W hi hD
    obtain ⟨v, done, st, c2, c3, own, hrun, hlen⟩ := hi.ex
    have ho := (cell_of c2).1
    have e : outL done st = G.run p none (G.mrg (G.bs A) (G.bs B)) := by
      have := hrun []
      rw [List.append_nil] at this
      rw [this]
      cases st <;> simp [outL, G.run]
    rw [e] at own
    have hi' := hideR hi
    have own' := hideR own
    clear hi own e hrun hlen c2 c3
    gi_wp2
    refine ⟨by simp, .inl ⟨_, _, rfl, run_takeDeferred hD, ?_⟩⟩
    exact ⟨_, results_tmp rfl _ _ _, v, rfl, ownsRow_putObj (own_mono (unhideR own') (by omega)) _ hD rfl, (unhideR hi').bel.grown (grownBy_putObj' W _ _) (unhideR hi').bel.size (fun k hk => by cases hk; simp; omega)⟩


end Go.Proofs.YtfcfcgeodghmpaaGreatDoor

namespace Go.Proofs.YtfcfcgeodghmpaaGreatDoor.T
open Go.RowKit
set_option linter.unusedVariables false
set_option linter.unusedSimpArgs false

def itemsF (b : Bool) : Nat → List Int → List (Int × Int) × Nat
  | 0, _ => ([], 0)
  | f + 1, r => match itemL b r with
    | none => ([], 0)
    | some (x, n) => (x :: (itemsF b f (r.drop n)).1, n + (itemsF b f (r.drop n)).2)
theorem item_nil (b : Bool) : itemL b [] = none := by
  cases b
  · rfl
  · have : hexI [] = -1 := by decide
    unfold itemL oneL
    simp [this]
theorem itemsF_nil (b : Bool) : ∀ f, itemsF b f [] = ([], 0) := by
  intro f
  cases f with
  | zero => rfl
  | succ f => simp only [itemsF, item_nil]
theorem items_fuel (b : Bool) : ∀ (f g : Nat) (r : List Int), U.isBytes r → r.length ≤ f → r.length ≤ g → itemsF b f r = itemsF b g r := by
  intro f
  induction f with
  | zero =>
    intro g r hb h1 h2
    have : r = [] := List.eq_nil_of_length_eq_zero (by omega)
    subst this
    rw [itemsF_nil, itemsF_nil]
  | succ f ih =>
    intro g r hb h1 h2
    cases g with
    | zero =>
      have : r = [] := List.eq_nil_of_length_eq_zero (by omega)
      subst this
      rw [itemsF_nil, itemsF_nil]
    | succ g =>
      simp only [itemsF]
      cases e : itemL b r with
      | none => rfl
      | some p =>
        obtain ⟨x, n⟩ := p
        have := item_good b r x n hb e
        simp only
        rw [ih g (r.drop n) (U.isBytes_drop hb n) (by rw [List.length_drop]; omega) (by rw [List.length_drop]; omega)]
def itemsG (b : Bool) (r : List Int) : List (Int × Int) × Nat := itemsF b r.length r
theorem items_no {b : Bool} {r : List Int} (h : itemL b r = none) : itemsG b r = ([], 0) := by
  unfold itemsG
  cases e : r.length with
  | zero => rfl
  | succ f => simp only [itemsF, h]
theorem items_yes {b : Bool} {r : List Int} (hb : U.isBytes r) {x : Int × Int} {n : Nat} (h : itemL b r = some (x, n)) : itemsG b r = (x :: (itemsG b (r.drop n)).1, n + (itemsG b (r.drop n)).2) := by
  have hn := item_good b r x n hb h
  unfold itemsG
  obtain ⟨k, hk⟩ : ∃ k, r.length = k + 1 := ⟨r.length - 1, by omega⟩
  rw [hk]
  simp only [itemsF, h]
  rw [items_fuel b k (r.drop n).length (r.drop n) (U.isBytes_drop hb n) (by rw [List.length_drop]; omega) (Nat.le_refl _)]
theorem items_len (b : Bool) : ∀ (f : Nat) (r : List Int), U.isBytes r → r.length ≤ f → (itemsG b r).2 ≤ r.length ∧ (itemsG b r).1.length ≤ (itemsG b r).2 := by
  intro f
  induction f with
  | zero =>
    intro r hb h
    have : r = [] := List.eq_nil_of_length_eq_zero (by omega)
    subst this
    rw [items_no (item_nil b)]
    simp
  | succ f ih =>
    intro r hb h
    cases e : itemL b r with
    | none => rw [items_no e]; simp
    | some p =>
      obtain ⟨x, n⟩ := p
      have hn := item_good b r x n hb e
      have := ih (r.drop n) (U.isBytes_drop hb n) (by rw [List.length_drop]; omega)
      rw [List.length_drop] at this
      rw [items_yes hb e]
      simp only [List.length_cons]
      omega
theorem items_gather {b : Bool} {stop : Int} (h0 : stop ≠ 0) (hs : ∀ r : List Int, r.getD 0 0 = stop → itemL b r = none) : ∀ (f : Nat) (r : List Int), U.isBytes r → r.length ≤ f →
    gatherL (itemL b) stop r = if (r.drop (itemsG b r).2).getD 0 0 = stop then some ((itemsG b r).1, (itemsG b r).2 + 1) else none := by
  intro f
  induction f with
  | zero =>
    intro r hb h
    have : r = [] := List.eq_nil_of_length_eq_zero (by omega)
    subst this
    rw [items_no (item_nil b), gather_nil, if_neg (by simp [List.getD]; omega)]
  | succ f ih =>
    intro r hb h
    by_cases hr : r = []
    · subst hr
      rw [items_no (item_nil b), gather_nil, if_neg (by simp [List.getD]; omega)]
    · by_cases hst : r.getD 0 0 = stop
      · rw [items_no (hs r hst), gather_stop hr hst, List.drop_zero, if_pos hst]
      · cases e : itemL b r with
        | none => rw [gather_bad hr hst e, items_no e, List.drop_zero, if_neg hst]
        | some p =>
          obtain ⟨x, n⟩ := p
          have hn := item_good b r x n hb e
          rw [gather_step (item_good b) hb hr hst e, ih (r.drop n) (U.isBytes_drop hb n) (by rw [List.length_drop]; omega), items_yes hb e, List.drop_drop]
          by_cases cc : (List.drop (n + (itemsG b (r.drop n)).2) r).getD 0 0 = stop
          · rw [if_pos cc, if_pos cc]
            simp only [Option.some.injEq, Prod.mk.injEq, true_and]
            omega
          · rw [if_neg cc, if_neg cc]
theorem ownL {W W' : World} (h : Below W.heap.size W W') {base : Nat} {e : TypeId} {size : Nat} {v : Value} {n : Nat} {xs : List Value} (ho : W.ownsRow base e size v n xs) : W'.ownsRow base e size v n xs :=
  ho.kept (show W.grownBy W' none from ⟨h.os, h.tape, h.output, h.size, fun k hk _ => h.block k hk⟩) (by cases v.ownBlock <;> simp)
theorem below_app2 {B : Nat} {w w1 : World} {o1 o2 : Obj} {e : TypeId} {sz n : Nat} {v : Value} {xs : List Value} (h : w.ownsRow B e sz v n xs) (hB : B ≤ w.heap.size) (hg : ((w.alloc o1).alloc o2).grownBy w1 v.ownBlock) : Below B w w1 :=
  (((Below.refl B w).alloc hB _).alloc (by simp; omega) _).grown hg (by simp; omega) (fun k hk => (h.lt k hk).1)
set_option maxRecDepth 20000 in
set_option maxHeartbeats 4000000 in
theorem itemsH (a : Option Addr) (len cap : Nat) (l : List Int) (w : World) (h : Bs w a len cap l) (hl : len ≤ 100000) :
    Calls Tryz.prog 121 #[.slice a len cap, .func (.func 126) #[] #[]] w fun e w' => ∃ v, e = .returned (.tuple #[v, .int .i64 ((itemsG true l).2 : Nat)]) ∧ Ow w' w.heap.size v (itemsG true l).1 ∧ Below w.heap.size w w' := by
  have hlen := h.hlen
  have hcap := h.hcap
  have hbb := h.hbytes
  have HB := hideR h
  have HBB := hideR hbb
  obtain ⟨i0, hi0, hz0, hz1, hz2⟩ := info_parts infoRg
  clear h hbb
  go_enter Tryz.func121, Tryz.ntmps121
  go_wp2_with fail
  go_loopw [6, 7] (fun v j wr => ∃ (k : Nat) (out : List (Int × Int)), k ≤ len ∧ out.length ≤ k ∧ j = .int .i64 (k : Int) ∧ Hid (itemsG true l = (out ++ (itemsG true (l.drop k)).1, k + (itemsG true (l.drop k)).2)) ∧ wr.ownsRow w.heap.size 58 2 v out.length (cellsL out) ∧ Below w.heap.size w wr) (fun _ j _ => len - (intOf j).toNat)
  case atStart => exact ⟨0, [], Nat.zero_le _, Nat.le_refl _, rfl, by show _ = _; simp, World.ownsRow_nil _ _ _ _, Below.refl _ _⟩
  case round =>
    obtain ⟨k, out, hk, hok, rfl, hg, hown, hb⟩ := hrel
    have hB := Bs.later (unhideR HB) hb (Nat.le_refl _)
    have sl := tail_run a len cap k k rfl hk
    have CI := hideR (itemH _ _ _ _ wr (Bs.dropA hB k hk) (by omega))
    have HO := hideR hown
    have hws := hb.size
    cases e1 : itemL true (l.drop k) with
    | none =>
      have HG : Hid (itemsG true l = (out, k)) := by
        show _ = _
        rw [hg.out, items_no e1]
        simp
      rw [e1] at CI
      replace CI : Hid (Calls Tryz.prog 145 #[.slice (dropA a cap k) (len - k) (cap - k), .func (.func 126) #[] #[]] wr fun e w' => e = .returned (.tuple #[.agg #[.int .i64 0, .int .i64 0], .int .i64 0]) ∧ Below wr.heap.size wr w') := CI
      clear e1 hg hB HB HBB hown
      go_wp2_with fail
      refine (unhideR CI).mono ?_
      rintro e w1 ⟨rfl, b1⟩
      clear CI
      go_wp2_with fail
      go_ret2
      refine ⟨u6, ?_, ?_, ?_⟩
      rotate_left
      · rw [unhideR HG]
        exact (ownL b1 (unhideR HO)).alloc _
      · exact (hb.trans (b1.mono hws)).alloc (by have := b1.size; omega) _
      · rw [unhideR HG]
        rfl
    | some p =>
      obtain ⟨⟨lo, hi⟩, n⟩ := p
      have gd := item_good true _ _ n (U.isBytes_drop (unhideR HBB) k) e1
      rw [List.length_drop] at gd
      have HG : Hid (itemsG true l = ((out ++ [(lo, hi)]) ++ (itemsG true (l.drop (k + n))).1, k + n + (itemsG true (l.drop (k + n))).2)) := by
        show _ = _
        rw [hg.out, items_yes (U.isBytes_drop (unhideR HBB) k) e1, List.drop_drop]
        simp only [List.append_assoc, List.singleton_append, Prod.mk.injEq, true_and]
        omega
      rw [e1] at CI
      replace CI : Hid (Calls Tryz.prog 145 #[.slice (dropA a cap k) (len - k) (cap - k), .func (.func 126) #[] #[]] wr fun e w' => e = .returned (.tuple #[.agg #[.int .i64 lo, .int .i64 hi], .int .i64 (n : Int)]) ∧ Below wr.heap.size wr w') := CI
      have t0 : ((n : Int) == 0) = false := beq_eq_false_iff_ne.2 (by omega)
      clear e1 hg hB HB HBB hown
      go_wp2_with fail
      refine (unhideR CI).mono ?_
      rintro e w1 ⟨rfl, b1⟩
      clear CI
      have ho1 := ownL b1 (unhideR HO)
      have hb1 := hb.trans (b1.mono hws)
      have hs1 := hb1.size
      clear HO
      go_wp2_with (at_builtin; refine wpList_append_lies _ rfl _ _ 33 rfl w.heap.size 58 i0 _ 2 16 Tryz.underlying33 hi0 hz0 hz1 hz2 rfl (by omega) _ _ _ rfl ((ho1.alloc _).alloc _) ⟨w1.heap.size + 1, 0, none⟩ 1 1 [.int .i64 lo, .int .i64 hi] rfl rfl (new_cells _ _ _ _ (by simp)) (by simp [Value.oneCell']) (by omega) (by unfold maxLen; omega) (by omega) (by simp; omega) (w1.heap.size + 2) (by simp) ?_; intro gg cap1 w2 hown1 hgrow hat hlt1)
      go_roundw
      case rel => exact ⟨k + n, out ++ [(lo, hi)], by omega, by simp; omega, by go_num, HG, by rw [cellsL_append, List.length_append]; exact hown1, hb1.trans (below_app2 ho1 hs1 hgrow)⟩
      case measure => simp [intOf]; omega
set_option maxRecDepth 20000 in
set_option maxHeartbeats 4000000 in
theorem itemsS (a : Option Addr) (len cap : Nat) (l : List Int) (w : World) (h : Bs w a len cap l) (hl : len ≤ 100000) :
    Calls Tryz.prog 121 #[.slice a len cap, .func (.func 122) #[] #[]] w fun e w' => ∃ v, e = .returned (.tuple #[v, .int .i64 ((itemsG false l).2 : Nat)]) ∧ Ow w' w.heap.size v (itemsG false l).1 ∧ Below w.heap.size w w' := by
  have hlen := h.hlen
  have hcap := h.hcap
  have hbb := h.hbytes
  have HB := hideR h
  have HBB := hideR hbb
  obtain ⟨i0, hi0, hz0, hz1, hz2⟩ := info_parts infoRg
  clear h hbb
  go_enter Tryz.func121, Tryz.ntmps121
  go_wp2_with fail
  go_loopw [6, 7] (fun v j wr => ∃ (k : Nat) (out : List (Int × Int)), k ≤ len ∧ out.length ≤ k ∧ j = .int .i64 (k : Int) ∧ Hid (itemsG false l = (out ++ (itemsG false (l.drop k)).1, k + (itemsG false (l.drop k)).2)) ∧ wr.ownsRow w.heap.size 58 2 v out.length (cellsL out) ∧ Below w.heap.size w wr) (fun _ j _ => len - (intOf j).toNat)
  case atStart => exact ⟨0, [], Nat.zero_le _, Nat.le_refl _, rfl, by show _ = _; simp, World.ownsRow_nil _ _ _ _, Below.refl _ _⟩
  case round =>
    obtain ⟨k, out, hk, hok, rfl, hg, hown, hb⟩ := hrel
    have hB := Bs.later (unhideR HB) hb (Nat.le_refl _)
    have sl := tail_run a len cap k k rfl hk
    have CI := hideR (itemS _ _ _ _ wr (Bs.dropA hB k hk) (by omega))
    have HO := hideR hown
    have hws := hb.size
    cases e1 : itemL false (l.drop k) with
    | none =>
      have HG : Hid (itemsG false l = (out, k)) := by
        show _ = _
        rw [hg.out, items_no e1]
        simp
      rw [e1] at CI
      replace CI : Hid (Calls Tryz.prog 145 #[.slice (dropA a cap k) (len - k) (cap - k), .func (.func 122) #[] #[]] wr fun e w' => e = .returned (.tuple #[.agg #[.int .i64 0, .int .i64 0], .int .i64 0]) ∧ Below wr.heap.size wr w') := CI
      clear e1 hg hB HB HBB hown
      go_wp2_with fail
      refine (unhideR CI).mono ?_
      rintro e w1 ⟨rfl, b1⟩
      clear CI
      go_wp2_with fail
      go_ret2
      refine ⟨u6, ?_, ?_, ?_⟩
      rotate_left
      · rw [unhideR HG]
        exact (ownL b1 (unhideR HO)).alloc _
      · exact (hb.trans (b1.mono hws)).alloc (by have := b1.size; omega) _
      · rw [unhideR HG]
        rfl
    | some p =>
      obtain ⟨⟨lo, hi⟩, n⟩ := p
      have gd := item_good false _ _ n (U.isBytes_drop (unhideR HBB) k) e1
      rw [List.length_drop] at gd
      have HG : Hid (itemsG false l = ((out ++ [(lo, hi)]) ++ (itemsG false (l.drop (k + n))).1, k + n + (itemsG false (l.drop (k + n))).2)) := by
        show _ = _
        rw [hg.out, items_yes (U.isBytes_drop (unhideR HBB) k) e1, List.drop_drop]
        simp only [List.append_assoc, List.singleton_append, Prod.mk.injEq, true_and]
        omega
      rw [e1] at CI
      replace CI : Hid (Calls Tryz.prog 145 #[.slice (dropA a cap k) (len - k) (cap - k), .func (.func 122) #[] #[]] wr fun e w' => e = .returned (.tuple #[.agg #[.int .i64 lo, .int .i64 hi], .int .i64 (n : Int)]) ∧ Below wr.heap.size wr w') := CI
      have t0 : ((n : Int) == 0) = false := beq_eq_false_iff_ne.2 (by omega)
      clear e1 hg hB HB HBB hown
      go_wp2_with fail
      refine (unhideR CI).mono ?_
      rintro e w1 ⟨rfl, b1⟩
      clear CI
      have ho1 := ownL b1 (unhideR HO)
      have hb1 := hb.trans (b1.mono hws)
      have hs1 := hb1.size
      clear HO
      go_wp2_with (at_builtin; refine wpList_append_lies _ rfl _ _ 33 rfl w.heap.size 58 i0 _ 2 16 Tryz.underlying33 hi0 hz0 hz1 hz2 rfl (by omega) _ _ _ rfl ((ho1.alloc _).alloc _) ⟨w1.heap.size + 1, 0, none⟩ 1 1 [.int .i64 lo, .int .i64 hi] rfl rfl (new_cells _ _ _ _ (by simp)) (by simp [Value.oneCell']) (by omega) (by unfold maxLen; omega) (by omega) (by simp; omega) (w1.heap.size + 2) (by simp) ?_; intro gg cap1 w2 hown1 hgrow hat hlt1)
      go_roundw
      case rel => exact ⟨k + n, out ++ [(lo, hi)], by omega, by simp; omega, by go_num, HG, by rw [cellsL_append, List.length_append]; exact hown1, hb1.trans (below_app2 ho1 hs1 hgrow)⟩
      case measure => simp [intOf]; omega
end Go.Proofs.YtfcfcgeodghmpaaGreatDoor.T

namespace Go.Proofs.YtfcfcgeodghmpaaGreatDoor
open Go.Shelf
def sortRg_ren : Go.Shelf.Ren := ⟨fun | 6 => 150 | 15 => 175 | 14 => 174 | 28 => 198 | 29 => 199 | 20 => 190 | 21 => 191 | 22 => 192 | 23 => 193 | 24 => 194 | 25 => 195 | 26 => 196 | 27 => 197 | 46 => 211 | 47 => 212 | 48 => 213 | 49 => 214 | 50 => 215 | 57 => 221 | n => n, fun | 22 => 33 | 24 => 58 | 25 => 196 | 3 => 3 | 39 => 221 | 0 => 0 | 53 => 237 | 55 => 239 | 4 => 4 | 46 => 231 | 45 => 230 | 50 => 150 | 5 => 5 | 9 => 9 | 66 => 249 | 70 => 253 | 76 => 259 | 77 => 190 | n => n, fun n => n⟩
theorem sortRg : Go.Proofs.SlLaysF0.n6 Tryz.prog sortRg_ren :=
  {
    mixed := by kernel_rfl,
    f6 := ⟨Tryz.f150.name, by decide, Tryz.func150.trans (congrArg some (by kernel_rfl))⟩,
    f14 := ⟨Tryz.f174.name, by decide, Tryz.func174.trans (congrArg some (by kernel_rfl))⟩,
    f15 := Tryz.func175.trans (congrArg some (by kernel_rfl)),
    f20 := ⟨Tryz.f190.name, by decide, Tryz.func190.trans (congrArg some (by kernel_rfl))⟩,
    f21 := ⟨Tryz.f191.name, by decide, Tryz.func191.trans (congrArg some (by kernel_rfl))⟩,
    f22 := ⟨Tryz.f192.name, by decide, Tryz.func192.trans (congrArg some (by kernel_rfl))⟩,
    f23 := ⟨Tryz.f193.name, by decide, Tryz.func193.trans (congrArg some (by kernel_rfl))⟩,
    f24 := ⟨Tryz.f194.name, by decide, Tryz.func194.trans (congrArg some (by kernel_rfl))⟩,
    f25 := ⟨Tryz.f195.name, by decide, Tryz.func195.trans (congrArg some (by kernel_rfl))⟩,
    f26 := ⟨Tryz.f196.name, by decide, Tryz.func196.trans (congrArg some (by kernel_rfl))⟩,
    f27 := ⟨Tryz.f197.name, by decide, Tryz.func197.trans (congrArg some (by kernel_rfl))⟩,
    f28 := Tryz.func198.trans (congrArg some (by kernel_rfl)),
    f29 := Tryz.func199.trans (congrArg some (by kernel_rfl)),
    f46 := ⟨Tryz.f211.name, by decide, Tryz.func211.trans (congrArg some (by kernel_rfl))⟩,
    f47 := Tryz.func212.trans (congrArg some (by kernel_rfl)),
    f48 := Tryz.func213.trans (congrArg some (by kernel_rfl)),
    f49 := ⟨Tryz.f214.name, by decide, Tryz.func214.trans (congrArg some (by kernel_rfl))⟩,
    f50 := ⟨Tryz.f215.name, by decide, Tryz.func215.trans (congrArg some (by kernel_rfl))⟩,
    f57 := ⟨Tryz.f221.name, by decide, Tryz.func221.trans (congrArg some (by kernel_rfl))⟩,
    t0 := Tryz.underlying0,
    a0 := Tryz.isAgg0,
    z0 := Tryz.sizeOf0,
    v0 := Tryz.zeroValue0,
    t3 := Tryz.underlying3,
    a3 := Tryz.isAgg3,
    z3 := Tryz.sizeOf3,
    v3 := Tryz.zeroValue3,
    t4 := Tryz.underlying4,
    a4 := Tryz.isAgg4,
    z4 := Tryz.sizeOf4,
    v4 := Tryz.zeroValue4,
    t5 := Tryz.underlying5,
    a5 := Tryz.isAgg5,
    z5 := Tryz.sizeOf5,
    v5 := Tryz.zeroValue5,
    t9 := Tryz.underlying9,
    a9 := Tryz.isAgg9,
    z9 := Tryz.sizeOf9,
    v9 := Tryz.zeroValue9,
    t22 := Tryz.underlying33,
    a22 := Tryz.isAgg33,
    z22 := Tryz.sizeOf33,
    v22 := Tryz.zeroValue33,
    t25 := Tryz.underlying196,
    a25 := Tryz.isAgg196,
    z25 := Tryz.sizeOf196,
    v25 := Tryz.zeroValue196,
    t39 := Tryz.underlying221,
    a39 := Tryz.isAgg221,
    z39 := Tryz.sizeOf221,
    v39 := Tryz.zeroValue221,
    t45 := Tryz.underlying230,
    a45 := Tryz.isAgg230,
    z45 := Tryz.sizeOf230,
    v45 := Tryz.zeroValue230,
    t46 := Tryz.underlying231,
    a46 := Tryz.isAgg231,
    z46 := Tryz.sizeOf231,
    v46 := Tryz.zeroValue231,
    t50 := Tryz.underlying150,
    a50 := Tryz.isAgg150,
    z50 := Tryz.sizeOf150,
    v50 := Tryz.zeroValue150,
    t53 := Tryz.underlying237,
    a53 := Tryz.isAgg237,
    z53 := Tryz.sizeOf237,
    v53 := Tryz.zeroValue237,
    t55 := Tryz.underlying239,
    a55 := Tryz.isAgg239,
    z55 := Tryz.sizeOf239,
    v55 := Tryz.zeroValue239,
    t66 := Tryz.underlying249,
    a66 := Tryz.isAgg249,
    z66 := Tryz.sizeOf249,
    v66 := Tryz.zeroValue249,
    t70 := Tryz.underlying253,
    a70 := Tryz.isAgg253,
    z70 := Tryz.sizeOf253,
    v70 := Tryz.zeroValue253,
    t76 := Tryz.underlying259,
    a76 := Tryz.isAgg259,
    z76 := Tryz.sizeOf259,
    v76 := Tryz.zeroValue259,
    t77 := Tryz.underlying190,
    a77 := Tryz.isAgg190,
    z77 := Tryz.sizeOf190,
    v77 := Tryz.zeroValue190
  }
end Go.Proofs.YtfcfcgeodghmpaaGreatDoor

namespace Go.Proofs.YtfcfcgeodghmpaaGreatDoor
open Go.RowKit Go.Shelf Go.Sort
set_option linter.unusedVariables false

def cmpI (x y : Int) : Int := if x < y then -1 else if y < x then 1 else 0

set_option maxHeartbeats 400000 in
theorem compare_any (x y : Int) (w : World) :
    Calls Tryz.prog 176 #[.int .i64 x, .int .i64 y] w fun e w' => e = .returned (.int .i64 (cmpI x y)) ∧ w' = w := by
  unfold cmpI
  by_cases h1 : x < y
  · rw [if_pos h1]
    go_enter Tryz.func176, Tryz.ntmps176
    go_wp2
    go_ret
    exact ⟨rfl, rfl⟩
  · rw [if_neg h1]
    by_cases h2 : y < x
    · rw [if_pos h2]
      go_enter Tryz.func176, Tryz.ntmps176
      go_wp2
      go_ret
      exact ⟨rfl, rfl⟩
    · rw [if_neg h2]
      go_enter Tryz.func176, Tryz.ntmps176
      go_wp2
      go_ret
      exact ⟨rfl, rfl⟩

def encRg (r : Int × Int) : List Value := [.int .i64 r.1, .int .i64 r.2]

set_option maxHeartbeats 400000 in
theorem byLo_any (x y : Int × Int) (W : World) : Calls Tryz.prog 151 #[.agg #[.int .i64 x.1, .int .i64 x.2], .agg #[.int .i64 y.1, .int .i64 y.2]] W fun e w' => e = .returned (.int .i64 (cmpI x.1 y.1)) ∧ ∃ q os', w' = grow (W.drewN q) os' := by
  have hcon := fun W' => compare_any x.1 y.1 W'
  generalize cmpI x.1 y.1 = r at hcon ⊢
  go_enter Tryz.func151, Tryz.ntmps151
  go_wp2_with (go_at_call 176; refine (hcon _).mono ?_; rintro e w' ⟨rfl, rfl⟩)
  go_ret
  exact ⟨rfl, 0, _, by rw [alloc_eq_grow, alloc_eq_grow, grow_grow]; rfl⟩

theorem ltLo (x y : Int × Int) : ltOf (fun x y : Int × Int => cmpI x.1 y.1) x y = decide (x.1 < y.1) := by
  unfold ltOf cmpI
  by_cases h1 : x.1 < y.1
  · simp [h1]
  · by_cases h2 : y.1 < x.1 <;> simp [h1, h2]

theorem swoLo : SWO (ltOf fun x y : Int × Int => cmpI x.1 y.1) where
  irrefl x := by rw [ltLo]; simp
  trans x y z h1 h2 := by rw [ltLo] at *; simp at *; omega
  ntrans x y z h1 h2 := by rw [ltLo] at *; simp at *; omega

theorem sorted_below {base : Nat} {w : World} {g n : Nat} {F : Array Value} {os : Array Obj} (hg : base ≤ g) (hs : g < w.heap.size) : Below base w (grow (putRow id (Sort.ahead w n) g 0 F) os) := by
  refine ⟨rfl, rfl, rfl, by simp [grow, putRow, mapBlock, Sort.ahead], fun k hk => ?_⟩
  simp only [grow, putRow, mapBlock, Sort.ahead]
  rw [Array.getElem?_append_left (by simp; omega), Array.getElem?_modify, if_neg (by omega)]

structure Sd (l l' : List (Int × Int)) : Prop where
  perm : l'.Perm l
  up : l'.Pairwise fun a b => a.1 ≤ b.1

theorem sort_any (base : Nat) (v : Value) (l : List (Int × Int)) (w : World) (h : Ow w base v l) (hf : ∀ r ∈ l, fits r.1 ∧ fits r.2) (hs : l.length ≤ 1000000) :
    Calls Tryz.prog 150 #[v, .func (.func 151) #[] #[]] w fun e w' => e = .returned (.tuple #[]) ∧ (∃ a cap l', v = .slice a l.length cap ∧ Sd l l' ∧ Rs w' a l.length cap l') ∧ Below base w w' := by
  by_cases hp : l = []
  · subst hp
    obtain ⟨a, cap, hv, hr⟩ := h.rs hf
    subst hv
    have hcon := AnyF.slices_SortFunc_none sortRg a cap (.func (.func 151) #[] #[]) w
    change Calls Tryz.prog 150 _ _ _ at hcon
    refine hcon.mono ?_
    rintro e w' ⟨rfl, rfl⟩
    exact ⟨rfl, ⟨a, cap, [], rfl, ⟨List.Perm.refl _, List.Pairwise.nil⟩, hr⟩, Below.refl _ _⟩
  · have h0 : 0 < l.length := by cases l with
      | nil => exact absurd rfl hp
      | cons => simp
    rcases h.2 with ⟨_, e⟩ | ⟨g, cap, cur, rfl, hb, hg, hn, hm, hsz, ht⟩
    · omega
    · have hlt : g < w.heap.size := (Array.getElem?_eq_some_iff.1 hg).1
      have hH : HoldsK encRg 2 w g 0 l.toArray := by
        intro j hj
        rw [size_flatK] at hj
        rw [get_flatK _ _ _ _ hj]
        have hj2 : j / 2 < l.length := by simp at hj; omega
        have k := cellsL_at l (j / 2) hj2
        have e : (l.toArray[j / 2]! : Int × Int) = l.getD (j / 2) (0, 0) := by
          simp [List.getD, hj2]
        rw [e]
        have c : ∀ (i : Nat) (u : Value), (cellsL l)[i]? = some u → w.cell? ⟨g, 0 + i, none⟩ = some u := by
          intro i u hi
          have := World.ownsRow.cells h (g := g) rfl i u hi
          rw [show (⟨g, 0, none⟩ : Addr).add i = ⟨g, 0 + i, none⟩ from by rw [Addr.add_lit]] at this
          exact this
        refine ⟨?_, by have := h.frozenAt (0 + j); exact this⟩
        rcases Nat.mod_two_eq_zero_or_one j with hj0 | hj0
        · have ej : j = j / 2 * 2 := by omega
          rw [hj0]
          have := c _ _ k.1
          rw [← ej] at this
          exact this
        · have ej : j = j / 2 * 2 + 1 := by omega
          rw [hj0]
          have := c _ _ k.2
          rw [← ej] at this
          exact this
      have eg : ∀ args w, (callFunc 151 args).run Tryz.prog w = .ok (.enter 151 args) w := enters_of Tryz.func151 (by kernel_rfl) rfl
      have hcon := AnyQ.slices_SortFunc sortRg 2 Tryz.isAgg58 Tryz.sizeOf58 encRg (fun _ => rfl) (fun x v hv => by simp [encRg] at hv; rcases hv with rfl | rfl <;> rfl) (fun x y => cmpI x.1 y.1) swoLo 151 #[] g 0 cap l.toArray w eg (fun _ _ _ _ x y => byLo_any x y _) hH hlt (by simp; omega)
      change Calls Tryz.prog 150 _ _ _ at hcon
      simp only [List.size_toArray] at hcon
      refine hcon.mono ?_
      rintro e w' ⟨rfl, d', n, os, hpm, hsd, rfl⟩
      refine ⟨rfl, ⟨_, cap, d'.toList, rfl, ?_, ?_⟩, ?_⟩
      · obtain ⟨p1, _, p3⟩ := hpm
        have p1' : d'.size = l.length := by simpa using p1
        refine ⟨?_, ?_⟩
        · have e1 : d'.extract 0 l.length = d' := by rw [← p1']; simp
          have e2 : l.toArray.extract 0 l.length = l.toArray := by simp
          rw [e1, e2] at p3
          simpa using p3
        · rw [List.pairwise_iff_getElem]
          intro i j hi hj hij
          have := hsd i j (Nat.zero_le _) hij (by simp at hj; omega)
          rw [ltLo] at this
          have hi' : i < d'.size := by simpa using hi
          have hj' : j < d'.size := by simpa using hj
          rw [getElem!_pos d' i hi', getElem!_pos d' j hj'] at this
          simp at this ⊢
          exact this
      · obtain ⟨p1, _, p3⟩ := hpm
        have p1' : d'.size = l.length := by simpa using p1
        have pm : d'.toList.Perm l := by
          have e1 : d'.extract 0 l.length = d' := by rw [← p1']; simp
          have e2 : l.toArray.extract 0 l.length = l.toArray := by simp
          rw [e1, e2] at p3
          simpa using p3
        have hK : HoldsK encRg 2 (sortWorldK encRg 2 w g 0 n d' os) g 0 d' :=
          holdsK_grow _ _ _ _ _ _ _ (by simp [putRowK, putRow, mapBlock, Sort.ahead]; exact hlt) (holdsK_putRowK _ _ _ _ _ l.toArray d' (holdsK_ahead _ _ _ _ _ _ _ hH) p1)
        refine ⟨by simpa using p1', hn, hm, fun r hr => hf r (pm.mem_iff.1 hr), fun i hi => ⟨g, 0, rfl, ?_⟩⟩
        have hi' : i < d'.size := by omega
        have c0 := (hK.cell (i := i) (c := 0) hi' (by omega)).1
        have c1 := (hK.cell (i := i) (c := 1) hi' (by omega)).1
        rw [getElem!_pos d' i hi'] at c0 c1
        have eL : d'.toList.getD i (0, 0) = d'[i] := by simp [List.getD, hi']
        rw [eL]
        exact ⟨c0, c1⟩
      · exact sorted_below hb hlt

end Go.Proofs.YtfcfcgeodghmpaaGreatDoor

namespace Go.Proofs.YtfcfcgeodghmpaaGreatDoor
open Go.RowKit Go.Shelf
set_option linter.unusedVariables false

structure NI (P : List (Int × Int)) (k : Nat) (out : List (Int × Int)) : Prop where
  may : G.mayB out = true
  has : ∀ n, G.hasB out n = G.hasB (P.take k) n
  last : ∀ o x y, out = o ++ [(x, y)] → ∀ r ∈ P.drop k, x ≤ r.1
  len : out.length ≤ k

theorem NI.first {P : List (Int × Int)} {k : Nat} {lo hi : Int} (h : NI P k []) (hP : ∀ r ∈ P, 0 ≤ r.1 ∧ r.1 ≤ r.2 ∧ r.2 ≤ 1114111) (hs : P.Pairwise fun a b => a.1 ≤ b.1) (hd : P.drop k = (lo, hi) :: P.drop (k + 1)) (ht : P.take (k + 1) = P.take k ++ [(lo, hi)]) : NI P (k + 1) [(lo, hi)] := by
  have hm : (lo, hi) ∈ P := List.mem_of_mem_drop (by rw [hd]; simp)
  have hb := hP _ hm
  have hs' : (P.drop k).Pairwise fun a b => a.1 ≤ b.1 := hs.sublist (List.drop_sublist _ _)
  rw [hd, List.pairwise_cons] at hs'
  refine ⟨by unfold G.mayB; rw [G.mayFrom_one]; exact hb, fun n => ?_, fun o x y e r hr => ?_, by simp⟩
  · rw [ht, G.hasB_append, ← h.has]; simp [G.hasB]
  · cases o with
    | nil => simp at e; obtain ⟨rfl, rfl⟩ := e; exact hs'.1 r hr
    | cons => simp at e

theorem NI.new {P : List (Int × Int)} {k : Nat} {o : List (Int × Int)} {x y lo hi : Int} (h : NI P k (o ++ [(x, y)])) (hP : ∀ r ∈ P, 0 ≤ r.1 ∧ r.1 ≤ r.2 ∧ r.2 ≤ 1114111) (hs : P.Pairwise fun a b => a.1 ≤ b.1) (hd : P.drop k = (lo, hi) :: P.drop (k + 1)) (ht : P.take (k + 1) = P.take k ++ [(lo, hi)]) (hlt : y + 1 < lo) : NI P (k + 1) (o ++ [(x, y)] ++ [(lo, hi)]) := by
  have hm : (lo, hi) ∈ P := List.mem_of_mem_drop (by rw [hd]; simp)
  have hb := hP _ hm
  have hs' : (P.drop k).Pairwise fun a b => a.1 ≤ b.1 := hs.sublist (List.drop_sublist _ _)
  rw [hd, List.pairwise_cons] at hs'
  refine ⟨G.join_new h.may hlt hb.2.1 hb.2.2, fun n => ?_, fun o' x' y' e r hr => ?_, by have := h.len; simp at *; omega⟩
  · rw [ht, G.hasB_append, G.hasB_append (P.take k), h.has]
  · have e' := List.append_inj_right' e (by simp)
    simp at e'; obtain ⟨rfl, rfl⟩ := e'
    exact hs'.1 r hr

theorem NI.wide {P : List (Int × Int)} {k : Nat} {o : List (Int × Int)} {x y lo hi z : Int} (h : NI P k (o ++ [(x, y)])) (hP : ∀ r ∈ P, 0 ≤ r.1 ∧ r.1 ≤ r.2 ∧ r.2 ≤ 1114111) (hs : P.Pairwise fun a b => a.1 ≤ b.1) (hd : P.drop k = (lo, hi) :: P.drop (k + 1)) (ht : P.take (k + 1) = P.take k ++ [(lo, hi)]) (hlt : lo ≤ y + 1) (hz : z = max y hi) : NI P (k + 1) (o ++ [(x, z)]) := by
  have hm : (lo, hi) ∈ P := List.mem_of_mem_drop (by rw [hd]; simp)
  have hb := hP _ hm
  have hx := h.last o x y rfl (lo, hi) (by rw [hd]; simp)
  have hs' : (P.drop k).Pairwise fun a b => a.1 ≤ b.1 := hs.sublist (List.drop_sublist _ _)
  rw [hd, List.pairwise_cons] at hs'
  obtain ⟨j1, j2⟩ := G.join_wide h.may hlt hb.2.1 hb.2.2 hx hz
  refine ⟨j1, fun n => ?_, fun o' x' y' e r hr => ?_, by have := h.len; simp at *; omega⟩
  · rw [ht, j2, h.has, G.hasB_append, G.hasB_one]
  · have e' := List.append_inj_right' e (by simp)
    simp at e'; obtain ⟨rfl, rfl⟩ := e'
    have := hs'.1 r hr
    simp only at hx this
    omega

theorem hasB_perm {a b : List (Int × Int)} (h : a.Perm b) (n : Int) : G.hasB a n = G.hasB b n := by
  unfold G.hasB
  rw [Bool.eq_iff_iff, List.any_eq_true, List.any_eq_true]
  constructor
  · rintro ⟨r, hr, hx⟩; exact ⟨r, h.mem_iff.1 hr, hx⟩
  · rintro ⟨r, hr, hx⟩; exact ⟨r, h.mem_iff.2 hr, hx⟩

theorem NI.done {l P : List (Int × Int)} {k : Nat} {out : List (Int × Int)} (h : NI P k out) (hk : P.length ≤ k) (hp : P.Perm (clipL l)) : G.Is out (fun n => G.dom n && G.hasB l n) := by
  refine ⟨h.may, fun n => ?_⟩
  rw [h.has, List.take_of_length_le hk, hasB_perm hp, clipL_has]

theorem cellsL_set2 (done : List (Int × Int)) (x y z : Int) : (cellsL (done ++ [(x, y)])).set (done.length * 2 + 1) (.int .i64 z) = cellsL (done ++ [(x, z)]) := by
  rw [cellsL_append, cellsL_append, List.set_append_right _ _ (by rw [cellsL_length]; omega), cellsL_length, show done.length * 2 + 1 - done.length * 2 = 1 by omega]
  rfl

theorem below_append1 {B : Nat} {w w1 : World} {k : Nat} {o1 : Obj} {e : TypeId} {sz n : Nat} {v : Value} {xs : List Value} (h : w.ownsRow B e sz v n xs) (hB : B ≤ w.heap.size) (hg : ((w.drewN k).alloc o1).grownBy w1 v.ownBlock) : Below B w w1 := by
  have d : Below B w (w.drewN k) := ⟨rfl, rfl, rfl, Nat.le_refl _, fun _ _ => rfl⟩
  exact (d.alloc hB o1).grown hg (by simp; omega) (fun k hk => (h.lt k hk).1)

set_option maxRecDepth 20000 in
set_option maxHeartbeats 2000000 in
theorem norm_any (a : Option Addr) (len cap : Nat) (l : List (Int × Int)) (w : World) (h : Rs w a len cap l) (hs : len ≤ 1000000) :
    Calls Tryz.prog 123 #[.slice a len cap] w fun e w' => ∃ v out, e = .returned v ∧ Ow w' w.heap.size v out ∧ G.Is out (fun n => G.dom n && G.hasB l n) ∧ Below w.heap.size w w' := by
  have hl := h.hlen
  have hcl : (clipL l).length ≤ 1000000 := by have := clipL_length l; omega
  have c1 := clipped_any a len cap l w h hs
  have C1 := hideR c1
  clear c1
  obtain ⟨i0, hi0, hz0, hz1, hz2⟩ := info_parts infoRg
  go_enter Tryz.func123, Tryz.ntmps123
  go_wp2_with fail
  refine (unhideR C1).mono ?_
  rintro e w1 ⟨v1, rfl, hown1, hb1⟩
  have C2 := hideR (sort_any _ _ _ _ hown1 (fun r hr => fits_clip hr) hcl)
  go_wp2_with fail
  refine (unhideR C2).mono ?_
  rintro e w2 ⟨rfl, ⟨pa, pcap, P, rfl, hsd, hrp⟩, hb2⟩
  clear C1 C2 hown1
  have hP : ∀ r ∈ P, 0 ≤ r.1 ∧ r.1 ≤ r.2 ∧ r.2 ≤ 1114111 := fun r hr => clipL_mem (hsd.perm.mem_iff.1 hr)
  have hup := hsd.up
  have hpl : P.length = (clipL l).length := hsd.perm.length_eq
  have hP' := hideR hP
  have hup' := hideR hup
  have hpm' := hideR hsd.perm
  clear hP hup hsd
  have hmax := hrp.hmax
  have hcap := hrp.hcap
  unfold maxLen at hmax
  generalize hm : (clipL l).length = m at *
  clear hm
  go_wp2
  go_loopw [4, 14] (fun v i wr => ∃ (k : Nat) (out : List (Int × Int)), k ≤ m ∧ i = .int .i64 k ∧ NI P k out ∧ wr.ownsRow w2.heap.size 58 2 v out.length (cellsL out) ∧ Below w2.heap.size w2 wr) (fun _ i _ => m - (intOf i).toNat)
  case atStart => exact ⟨0, [], Nat.zero_le _, rfl, ⟨rfl, fun n => by simp, fun o x y e => by simp at e, Nat.le_refl _⟩, World.ownsRow_nil _ _ _ _, Below.refl _ _⟩
  case round =>
    obtain ⟨k, out, hk, rfl, hni, hown, hb⟩ := hrel
    by_cases hlt : k < m
    · obtain ⟨b, off, rfl, hr⟩ := (hrp.later hb (Nat.le_refl _)).open (by omega)
      obtain ⟨lo, hi, hd, htk, f1, f2, c0, c1⟩ := hr.at k hlt
      unfold fits at f1 f2
      have hbd := unhideR hP' (lo, hi) (List.mem_of_mem_drop (by rw [hd]; simp))
      obtain ⟨hbd0, hbd1, hbd2⟩ := hbd
      simp only at hbd0 hbd1 hbd2
      have hd' := hideR hd
      have ht' := hideR htk
      have hol := hni.len
      have hni' := hideR hni
      clear hd htk hr hni
      rcases List.eq_nil_or_concat out with ho | ⟨o, ⟨x, y⟩, ho⟩
      · subst ho
        have st := hideR ((unhideR hni').first (unhideR hP') (unhideR hup') (unhideR hd') (unhideR ht'))
        obtain ⟨va, vc, rfl⟩ := own_form hown
        simp only [List.length_nil] at hown
        have ownA := hown.alloc (boxRg lo hi)
        have bA : Below w2.heap.size w2 (wr.alloc (boxRg lo hi)) := hb.alloc hb.size _
        have b0 : (wr.alloc (boxRg lo hi)).cell? ⟨wr.heap.size, 0, none⟩ = some (.int .i64 lo) := by rw [World.cell?_alloc_at _ _ _ _ rfl]; rfl
        have b1 : (wr.alloc (boxRg lo hi)).cell? ⟨wr.heap.size, 1, none⟩ = some (.int .i64 hi) := by rw [World.cell?_alloc_at _ _ _ _ rfl]; rfl
        have sA : (wr.alloc (boxRg lo hi)).heap.size = wr.heap.size + 1 := by simp
        go_wp2_with fail
        generalize wr.alloc (Obj.cells #[Value.int IntKind.i64 lo, Value.int IntKind.i64 hi] 58) = wa at *
        have b0' : ∀ k, (wa.drewN k).cell? ⟨wr.heap.size, 0, none⟩ = some (.int .i64 lo) := fun k => by simpa using b0
        have b1' : ∀ k, (wa.drewN k).cell? ⟨wr.heap.size, 1, none⟩ = some (.int .i64 hi) := fun k => by simpa using b1
        have sz1 : w2.heap.size ≤ wa.heap.size := bA.size
        have SA := hideR sA
        clear sA
        go_quiet (fail)
        have ownB : (wa.drewN nq).ownsRow w2.heap.size 58 2 (.slice va 0 vc) 0 (cellsL []) := ownA
        go_wp2_with (at_builtin; refine wpList_append_lies _ rfl _ _ 33 rfl w2.heap.size 58 i0 _ 2 16 Tryz.underlying33 hi0 hz0 hz1 hz2 rfl (by omega) _ _ _ rfl (ownB.alloc _) ⟨wa.heap.size, 0, none⟩ 1 1 [.int .i64 lo, .int .i64 hi] rfl rfl (new_cells _ _ _ _ (by simp)) (by simp [Value.oneCell']) (by omega) (by unfold maxLen; omega) (by omega) (by simp; omega) (wa.heap.size + 1) (by simp) ?_; intro gg cap1 w3 hown3 hgrow hat hlt1)
        go_roundw
        case rel => exact ⟨k + 1, [(lo, hi)], by omega, by go_num, unhideR st, hown3, bA.trans (below_append1 ownA sz1 hgrow)⟩
        case measure => simp [intOf]; omega
      · rw [List.concat_eq_append] at ho
        subst ho
        obtain ⟨g, vc, hv⟩ := ownsRow_succ (k := o.length) (by simpa using hown)
        subst hv
        rw [List.length_append] at hown hol
        simp only [List.length_cons, List.length_nil, Nat.zero_add] at hown hol
        have hyb : y ≤ 1114111 ∧ 0 ≤ y := by
          have := G.may_mem (unhideR hni').may (r := (x, y)) (by simp)
          simp only at this; omega
        obtain ⟨hy1, hy0⟩ := hyb
        have hgb := hown.lt g rfl
        have u1 := hown.cellAt (o.length * 2 + 1) (by omega)
        have u2 := hown.frozenAt (o.length * 2 + 1)
        rw [cellsL_append, List.getElem?_append_right (by rw [cellsL_length]; omega), cellsL_length, show o.length * 2 + 1 - o.length * 2 = 1 by omega, show (cellsL [(x, y)])[1]? = some (.int .i64 y) from rfl] at u1
        have hz : decide ((o.length : Int) < 0) = false := decide_eq_false (by omega)
        by_cases t1 : y + 1 < lo
        · have st := hideR ((unhideR hni').new (unhideR hP') (unhideR hup') (unhideR hd') (unhideR ht') t1)
          have ownA := hown.alloc (boxRg lo hi)
          have bA : Below w2.heap.size w2 (wr.alloc (boxRg lo hi)) := hb.alloc hb.size _
          have b0 : (wr.alloc (boxRg lo hi)).cell? ⟨wr.heap.size, 0, none⟩ = some (.int .i64 lo) := by rw [World.cell?_alloc_at _ _ _ _ rfl]; rfl
          have b1 : (wr.alloc (boxRg lo hi)).cell? ⟨wr.heap.size, 1, none⟩ = some (.int .i64 hi) := by rw [World.cell?_alloc_at _ _ _ _ rfl]; rfl
          have u1A : (wr.alloc (boxRg lo hi)).cell? ⟨g, o.length * 2 + 1, none⟩ = some (.int .i64 y) := by rw [(Below.new1 (w := wr) (boxRg lo hi)).cell (p := ⟨g, o.length * 2 + 1, none⟩) hgb.2]; exact u1
          have sA : (wr.alloc (boxRg lo hi)).heap.size = wr.heap.size + 1 := by simp
          go_wp2_with fail
          generalize wr.alloc (Obj.cells #[Value.int IntKind.i64 lo, Value.int IntKind.i64 hi] 58) = wa at *
          have b0' : ∀ k, (wa.drewN k).cell? ⟨wr.heap.size, 0, none⟩ = some (.int .i64 lo) := fun k => by simpa using b0
          have b1' : ∀ k, (wa.drewN k).cell? ⟨wr.heap.size, 1, none⟩ = some (.int .i64 hi) := fun k => by simpa using b1
          have u1' : ∀ k, (wa.drewN k).cell? ⟨g, o.length * 2 + 1, none⟩ = some (.int .i64 y) := fun k => by simpa using u1A
          have sz1 : w2.heap.size ≤ wa.heap.size := bA.size
          have SA := hideR sA
          clear sA
          go_quiet (fail)
          have ownB : (wa.drewN nq).ownsRow w2.heap.size 58 2 (.slice (some ⟨g, 0, none⟩) (o.length + 1) vc) (o.length + 1) (cellsL (o ++ [(x, y)])) := ownA
          go_wp2_with (at_builtin; refine wpList_append_lies _ rfl _ _ 33 rfl w2.heap.size 58 i0 _ 2 16 Tryz.underlying33 hi0 hz0 hz1 hz2 rfl (by omega) _ _ _ rfl (ownB.alloc _) ⟨wa.heap.size, 0, none⟩ 1 1 [.int .i64 lo, .int .i64 hi] rfl rfl (new_cells _ _ _ _ (by simp)) (by simp [Value.oneCell']) (by omega) (by unfold maxLen; omega) (by omega) (by simp; omega) (wa.heap.size + 1) (by simp) ?_; intro gg cap1 w3 hown3 hgrow hat hlt1)
          go_roundw
          case rel => exact ⟨k + 1, o ++ [(x, y)] ++ [(lo, hi)], by omega, by go_num, unhideR st, by rw [cellsL_append (o ++ [(x, y)]), List.length_append, List.length_append]; exact hown3, bA.trans (below_append1 ownA sz1 hgrow)⟩
          case measure => simp [intOf]; omega
        · have st := hideR ((unhideR hni').wide (z := max y hi) (unhideR hP') (unhideR hup') (unhideR hd') (unhideR ht') (by omega) rfl)
          have ownA := hown.alloc (boxRg lo hi)
          have bA : Below w2.heap.size w2 (wr.alloc (boxRg lo hi)) := hb.alloc hb.size _
          have b0 : (wr.alloc (boxRg lo hi)).cell? ⟨wr.heap.size, 0, none⟩ = some (.int .i64 lo) := by rw [World.cell?_alloc_at _ _ _ _ rfl]; rfl
          have b1 : (wr.alloc (boxRg lo hi)).cell? ⟨wr.heap.size, 1, none⟩ = some (.int .i64 hi) := by rw [World.cell?_alloc_at _ _ _ _ rfl]; rfl
          have u1A : (wr.alloc (boxRg lo hi)).cell? ⟨g, o.length * 2 + 1, none⟩ = some (.int .i64 y) := by rw [(Below.new1 (w := wr) (boxRg lo hi)).cell (p := ⟨g, o.length * 2 + 1, none⟩) hgb.2]; exact u1
          have u2A : (wr.alloc (boxRg lo hi)).frozen? ⟨g, o.length * 2 + 1, none⟩ = false := by rw [(Below.new1 (w := wr) (boxRg lo hi)).frozen (p := ⟨g, o.length * 2 + 1, none⟩) hgb.2]; exact u2
          have hne : g ≠ wr.heap.size := by omega
          go_wp2_with fail
          generalize wr.alloc (Obj.cells #[Value.int IntKind.i64 lo, Value.int IntKind.i64 hi] 58) = wa at *
          have b0' : ∀ k, (wa.drewN k).cell? ⟨wr.heap.size, 0, none⟩ = some (.int .i64 lo) := fun k => by simpa using b0
          have u1' : ∀ k, (wa.drewN k).cell? ⟨g, o.length * 2 + 1, none⟩ = some (.int .i64 y) := fun k => by simpa using u1A
          go_quiet (fail)
          have b1' : (wa.drewN nq).cell? ⟨wr.heap.size, 1, none⟩ = some (.int .i64 hi) := by simpa using b1
          have u1'' : (wa.drewN nq).cell? ⟨g, o.length * 2 + 1, none⟩ = some (.int .i64 y) := by simpa using u1A
          have u2' : (wa.drewN nq).frozen? ⟨g, o.length * 2 + 1, none⟩ = false := by simpa using u2A
          have hx1 : (o.length : Int) < ((o.length + 1 : Nat) : Int) := by omega
          have hx0 : (0 : Int) ≤ (o.length : Int) := by omega
          have ownB : (wa.drewN nq).ownsRow w2.heap.size 58 2 (.slice (some ⟨g, 0, none⟩) (o.length + 1) vc) (o.length + 1) (cellsL (o ++ [(x, y)])) := ownA
          have bB : Below w2.heap.size w2 (wa.drewN nq) := bA.trans ⟨rfl, rfl, rfl, Nat.le_refl _, fun _ _ => rfl⟩
          clear b0' u1' b0 b1 u1A u2A ownA bA c0 c1
          generalize wa.drewN nq = wb at *
          go_wp2_with fail
          have hx2 : (o.length : Int) < (o.length : Int) + 1 := by omega
          go_region
          go_wp2_with fail
          obtain ⟨o3, g3⟩ := ownB.stored (o.length * 2 + 1) (.int .i64 (max y hi))
          rw [cellsL_set2] at o3
          refine ⟨⟨k + 1, o ++ [(x, max y hi)], by omega, by go_num, unhideR st, ?_, ((bB.setCell (by simp; omega) _)).drew⟩, by simp [intOf]; omega⟩
          rw [List.length_append]
          exact o3
    · have fin := hideR (hni.done (l := l) (by omega) (unhideR hpm'))
      clear hni
      go_wp2
      go_ret
      have s1 := hb1.size
      have s2 := hb2.size
      exact ⟨_, out, rfl, own_mono hown (by omega), unhideR fin, (hb1.trans hb2).trans (hb.mono (by omega))⟩

end Go.Proofs.YtfcfcgeodghmpaaGreatDoor

namespace Go.Proofs.YtfcfcgeodghmpaaGreatDoor
open Go.RowKit Go.Shelf
set_option linter.unusedVariables false

def An (w : World) (p : Int → Bool) (e : Ending) (w' : World) : Prop := ∃ a len cap out, e = .returned (.slice a len cap) ∧ Rs w' a len cap out ∧ G.Is out p ∧ Below w.heap.size w w'

theorem may_fits {out : List (Int × Int)} (h : G.mayB out = true) : ∀ r ∈ out, fits r.1 ∧ fits r.2 := fun r hr => by
  have := G.may_mem h hr
  unfold fits; omega

theorem An.of {w w' : World} {p : Int → Bool} {v : Value} {out : List (Int × Int)} (ho : Ow w' w.heap.size v out) (hi : G.Is out p) (hb : Below w.heap.size w w') : An w p (.returned v) w' := by
  obtain ⟨a, cap, rfl, hr⟩ := ho.rs (may_fits hi.1)
  exact ⟨a, _, cap, out, rfl, hr, hi, hb⟩

def AnO (w : World) (p : Int → Bool) (e : Ending) (w' : World) : Prop := ∃ v out, e = .returned v ∧ Ow w' w.heap.size v out ∧ G.Is out p ∧ Below w.heap.size w w'
theorem AnO.an {w w' : World} {p : Int → Bool} {e : Ending} (h : AnO w p e w') : An w p e w' := by
  obtain ⟨v, out, rfl, ho, hi, hb⟩ := h
  exact An.of ho hi hb
theorem AnO.congr {w w' : World} {p q : Int → Bool} {e : Ending} (h : AnO w p e w') (hq : ∀ n, p n = q n) : AnO w q e w' := by
  obtain ⟨v, out, he, ho, hi, hb⟩ := h
  exact ⟨v, out, he, ho, hi.congr hq, hb⟩
theorem An.congr {w w' : World} {p q : Int → Bool} {e : Ending} (h : An w p e w') (hq : ∀ n, p n = q n) : An w q e w' := by
  obtain ⟨a, len, cap, out, h1, h2, h3, h4⟩ := h
  exact ⟨a, len, cap, out, h1, h2, h3.congr hq, h4⟩

def nrm (l : List (Int × Int)) (n : Int) : Bool := G.dom n && G.hasB l n

theorem normAn (a : Option Addr) (len cap : Nat) (l : List (Int × Int)) (w : World) (h : Rs w a len cap l) (hs : len ≤ 1000000) :
    Calls Tryz.prog 123 #[.slice a len cap] w (An w (nrm l)) := by
  refine (norm_any a len cap l w h hs).mono ?_
  rintro e w' ⟨v, out, rfl, ho, hi, hb⟩
  exact An.of ho hi hb

theorem Rs.put {w : World} {a : Option Addr} {len cap : Nat} {l : List (Int × Int)} (h : Rs w a len cap l) {p : Addr} {x : Option Addr} {y z : Nat} (hp : w.cell? p = some (.slice x y z)) {v : Value} : Rs (w.setCell p v) a len cap l := by
  refine ⟨h.hlen, h.hcap, h.hmax, h.hfit, fun i hi => ?_⟩
  obtain ⟨b, off, ha, h1, h2⟩ := h.hcell i hi
  refine ⟨b, off, ha, ?_, ?_⟩
  · rw [World.cell?_setCell_other _ _ _ _ (fun e => by rw [← e, hp] at h1; cases h1)]; exact h1
  · rw [World.cell?_setCell_other _ _ _ _ (fun e => by rw [← e, hp] at h2; cases h2)]; exact h2

set_option maxRecDepth 20000 in
set_option maxHeartbeats 1000000 in
theorem pairOf_any (a : Option Addr) (la ca : Nat) (A : List (Int × Int)) (b : Option Addr) (lb cb : Nat) (B : List (Int × Int)) (w : World) (ha : Rs w a la ca A) (hb : Rs w b lb cb B) (sa : la ≤ 1000000) (sb : lb ≤ 1000000) :
    Calls Tryz.prog 152 #[.slice a la ca, .slice b lb cb] w fun e w' => ∃ a' la' ca' A' b' lb' cb' B', e = .returned (.agg #[.slice a' la' ca', .slice b' lb' cb']) ∧ Pr w' a' la' ca' A' b' lb' cb' B' ∧ (∀ n, G.hasB A' n = nrm A n) ∧ (∀ n, G.hasB B' n = nrm B n) ∧ Below w.heap.size w w' := by
  have C1 := hideR (fun (W : World) (hW : Below w.heap.size w W) => normAn a la ca A W (ha.later hW (Nat.le_refl _)) sa)
  have C2 := hideR (fun (W : World) (hW : Below w.heap.size w W) => normAn b lb cb B W (hb.later hW (Nat.le_refl _)) sb)
  clear ha hb
  go_enter Tryz.func152, Tryz.ntmps152
  go_wp2_with fail
  refine (unhideR C1 _ (Below.new1 _)).mono ?_
  rintro e w1 ⟨a1, l1, k1, A1, rfl, r1, i1, b1⟩
  have B1 : Below w.heap.size w w1 := (Below.new1 _).trans (b1.mono (by simp))
  have i1' := hideR i1
  clear i1
  go_wp2_with fail
  refine (unhideR C2 _ B1).mono ?_
  rintro e w2 ⟨a2, l2, k2, A2, rfl, r2, i2, b2⟩
  have i2' := hideR i2
  clear i2 C1 C2
  simp only [World.size_alloc] at b1
  have s1 := b1.size
  simp only [World.size_alloc] at s1
  have hc : w2.heap[w.heap.size]? = some (.cells #[.slice none 0 0, .slice none 0 0] 199) :=
    (b2.block _ (by omega)).trans ((b1.block _ (by omega)).trans (World.alloc_heap_new w _))
  have q0 : w2.cell? ⟨w.heap.size, 0, none⟩ = some (.slice none 0 0) := by simp [World.cell?, hc]
  have q1 : w2.cell? ⟨w.heap.size, 1, none⟩ = some (.slice none 0 0) := by simp [World.cell?, hc]
  have q0f : w2.frozen? ⟨w.heap.size, 0, none⟩ = false := by simp [World.frozen?, hc]
  have q1f : w2.frozen? ⟨w.heap.size, 1, none⟩ = false := by simp [World.frozen?, hc]
  have R1 := r1.later b2 (Nat.le_refl _)
  have B2 : Below w.heap.size w w2 := B1.trans (b2.mono (by omega))
  clear r1 b1 b2 hc
  go_wp2_with fail
  have g0 : ((w2.setCell ⟨w.heap.size, 0, none⟩ (.slice a1 l1 k1)).setCell ⟨w.heap.size, 1, none⟩ (.slice a2 l2 k2)).cell? ⟨w.heap.size, 0, none⟩ = some (.slice a1 l1 k1) := by
    rw [World.cell?_setCell_other _ _ _ _ (by simp)]; exact World.cell?_setCell_same _ _ _ q0
  have g1' : (w2.setCell ⟨w.heap.size, 0, none⟩ (.slice a1 l1 k1)).cell? ⟨w.heap.size, 1, none⟩ = some (.slice none 0 0) := by
    rw [World.cell?_setCell_other _ _ _ _ (by simp)]; exact q1
  have g1 : ((w2.setCell ⟨w.heap.size, 0, none⟩ (.slice a1 l1 k1)).setCell ⟨w.heap.size, 1, none⟩ (.slice a2 l2 k2)).cell? ⟨w.heap.size, 1, none⟩ = some (.slice a2 l2 k2) :=
    World.cell?_setCell_same _ _ _ g1'
  refine bodyPost_ret (v := .agg #[.slice a1 l1 k1, .slice a2 l2 k2]) (by simp [results, Tryz.results152, go_sem, g0, g1]) rfl ?_
  exact ⟨a1, l1, k1, A1, a2, l2, k2, A2, rfl, ⟨(R1.put q0).put g1', (r2.put q0).put g1', (unhideR i1').1, (unhideR i2').1⟩, (unhideR i1').2, (unhideR i2').2, (B2.setCell (by simp) _).setCell (by simp) _⟩

set_option maxRecDepth 20000 in
set_option maxHeartbeats 1000000 in
theorem rgLessO_any (a : Option Addr) (la ca : Nat) (A : List (Int × Int)) (b : Option Addr) (lb cb : Nat) (B : List (Int × Int)) (w : World) (ha : Rs w a la ca A) (hb : Rs w b lb cb B) (sa : la ≤ 1000000) (sb : lb ≤ 1000000) :
    Calls Tryz.prog 125 #[.slice a la ca, .slice b lb cb] w (AnO w fun n => nrm A n && !nrm B n) := by
  have C1 := hideR (pairOf_any a la ca A b lb cb B w ha hb sa sb)
  have hmf : ∀ (fn : Fn) (first cap : Array Value) (w : World), (Instr.makeFunc fn first cap).run Tryz.prog w = .ok (.func fn first cap) w := fun _ _ _ _ => rfl
  clear ha hb
  go_enter Tryz.func125, Tryz.ntmps125
  go_wp2_with fail
  refine (unhideR C1).mono ?_
  rintro e w1 ⟨a1, l1, k1, A1, b1, m1, j1, B1, rfl, hp, e1, e2, bw⟩
  have E1 := hideR e1
  have E2 := hideR e2
  have Bw := hideR bw
  have M1 := hideR (G.merge_is hp.ma hp.mb (fun x y => x && !y) rfl)
  have C2 := hideR (fun (W : World) (hW : Below w1.heap.size w1 W) => merge_any 154 (fun n => (fun x y => x && !y) (G.hasB A1 n) (G.hasB B1 n)) a1 l1 k1 A1 b1 m1 j1 B1 W (hp.later hW (Nat.le_refl _)) (enters_of Tryz.func154 (by kernel_rfl) rfl) (fun n W' h' => less_any a1 l1 k1 A1 b1 m1 j1 B1 n W' h'))
  clear e1 e2 bw C1 hp
  go_wp2_with fail
  refine (unhideR C2 _ (Below.new1 _)).mono ?_
  rintro e w2 ⟨v, rfl, ho, hb2⟩
  clear C2
  go_wp2_with fail
  go_ret
  have s1 := (unhideR Bw).size
  simp only [World.size_alloc] at ho hb2
  refine AnO.congr ⟨_, _, rfl, own_mono ho (by omega), unhideR M1, ((unhideR Bw).trans (((Below.new1 _).mono s1).trans (hb2.mono (by omega))))⟩ fun n => ?_
  simp only [unhideR E1 n, unhideR E2 n]
theorem rgLess_any (a : Option Addr) (la ca : Nat) (A : List (Int × Int)) (b : Option Addr) (lb cb : Nat) (B : List (Int × Int)) (w : World) (ha : Rs w a la ca A) (hb : Rs w b lb cb B) (sa : la ≤ 1000000) (sb : lb ≤ 1000000) :
    Calls Tryz.prog 125 #[.slice a la ca, .slice b lb cb] w (An w fun n => nrm A n && !nrm B n) := (rgLessO_any a la ca A b lb cb B w ha hb sa sb).mono fun _ _ h => h.an

theorem Rs.single (w : World) (lo hi : Int) (f1 : fits lo) (f2 : fits hi) (n : Nat) (hn : n = w.heap.size) : Rs (w.alloc (boxRg lo hi)) (some ⟨n, 0, none⟩) 1 1 [(lo, hi)] := by
  subst hn
  refine ⟨rfl, Nat.le_refl _, by decide, fun r hr => by simp at hr; subst hr; exact ⟨f1, f2⟩, fun i hi => ⟨_, _, rfl, ?_⟩⟩
  have : i = 0 := by omega
  subst this
  exact ⟨by rw [World.cell?_alloc_at _ _ _ _ rfl]; rfl, by rw [World.cell?_alloc_at _ _ _ _ rfl]; rfl⟩

def notP (l : List (Int × Int)) (high n : Int) : Bool := nrm [(0, high)] n && !nrm l n

set_option maxRecDepth 20000 in
set_option maxHeartbeats 1000000 in
theorem rgNot_any (a : Option Addr) (la ca : Nat) (A : List (Int × Int)) (high : Int) (w : World) (ha : Rs w a la ca A) (sa : la ≤ 1000000) (hh : fits high) :
    Calls Tryz.prog 124 #[.slice a la ca, .int .i64 high] w (An w (notP A high)) := by
  have C1 := hideR (rgLess_any (some ⟨w.heap.size, 0, none⟩) 1 1 [(0, high)] a la ca A (w.alloc (boxRg 0 high)) (Rs.single w 0 high (by unfold fits; omega) hh _ rfl) (ha.later (Below.new1 _) (Nat.le_refl _)) (by omega) sa)
  clear ha
  go_enter Tryz.func124, Tryz.ntmps124
  go_wp2_with fail
  refine (unhideR C1).mono ?_
  rintro e w1 ⟨a1, l1, k1, A1, rfl, r1, i1, b1⟩
  have i1' := hideR i1
  clear i1 C1
  go_wp2_with fail
  go_ret
  simp only [World.size_alloc] at b1
  exact ⟨a1, l1, k1, A1, rfl, r1, unhideR i1', (Below.new1 _).trans (b1.mono (by omega))⟩

end Go.Proofs.YtfcfcgeodghmpaaGreatDoor

namespace Go.Proofs.YtfcfcgeodghmpaaGreatDoor.T
open Go.RowKit
set_option linter.unusedVariables false
set_option linter.unusedSimpArgs false

theorem sign_scalar {r : List Int} (hb : U.isBytes r) {x : Int} {k : Nat} (h : signL r = some (x, k)) : U.mayB x = true := by
  unfold signL at h
  split at h
  · cases h
  · next h0 =>
    split at h
    · split at h
      · cases h
      · next c =>
        simp only [Option.some.injEq] at h
        rcases U.next_cases hb with ⟨e, _⟩ | ⟨_, e⟩ | ⟨r', hm, e, _⟩
        · exact absurd e h0
        · rw [e] at c; exact absurd (show (-1 : Int) < 32 by omega) (fun z => c (.inl z))
        · rw [e] at h
          simp only [Prod.mk.injEq] at h
          rw [← h.1]; exact hm
    · split at h
      · cases h
      · split at h
        · cases h
        · next c =>
          simp only [Option.some.injEq, Prod.mk.injEq] at h
          rw [← h.1]
          cases e : U.mayB (digF 6 0 (List.drop 2 r)).1 with
          | true => rfl
          | false => exact absurd (Or.inr (Or.inl e)) c
theorem one_range {b : Bool} {r : List Int} (hb : U.isBytes r) {x : Int} {k : Nat} (h : oneL b r = some (x, k)) : 0 ≤ x ∧ x ≤ 1114111 := by
  cases b with
  | true => have := one_hex h; omega
  | false =>
    have := (U.may_iff x).1 (sign_scalar hb h)
    omega
theorem item_range {b : Bool} {r : List Int} (hb : U.isBytes r) {x : Int × Int} {n : Nat} (h : itemL b r = some (x, n)) : 0 ≤ x.1 ∧ x.1 ≤ x.2 ∧ x.2 ≤ 1114111 := by
  unfold itemL at h
  cases e : oneL b r with
  | none => rw [e] at h; cases h
  | some p =>
    obtain ⟨lo, k⟩ := p
    have r1 := one_range hb e
    rw [e] at h
    simp only at h
    split at h
    · cases e2 : oneL b (r.drop (k + 1)) with
      | none => rw [e2] at h; cases h
      | some q =>
        obtain ⟨to, m⟩ := q
        have r2 := one_range (U.isBytes_drop hb (k + 1)) e2
        rw [e2] at h
        simp only at h
        split at h
        · cases h
        · simp only [Option.some.injEq, Prod.mk.injEq] at h
          obtain ⟨rfl, rfl⟩ := h
          simp only
          omega
    · simp only [Option.some.injEq, Prod.mk.injEq] at h
      obtain ⟨rfl, rfl⟩ := h
      simp only
      omega
theorem items_fits (b : Bool) : ∀ (f : Nat) (r : List Int), U.isBytes r → r.length ≤ f → ∀ x ∈ (itemsG b r).1, fits x.1 ∧ fits x.2 := by
  intro f
  induction f with
  | zero =>
    intro r hb h
    have : r = [] := List.eq_nil_of_length_eq_zero (by omega)
    subst this
    rw [items_no (item_nil b)]
    intro x hx; cases hx
  | succ f ih =>
    intro r hb h
    cases e : itemL b r with
    | none => rw [items_no e]; intro x hx; cases hx
    | some p =>
      obtain ⟨x, n⟩ := p
      have hn := item_good b r x n hb e
      have hr := item_range hb e
      have := ih (r.drop n) (U.isBytes_drop hb n) (by rw [List.length_drop]; omega)
      rw [items_yes hb e]
      intro y hy
      rcases List.mem_cons.1 hy with rfl | hy
      · unfold fits; omega
      · exact this y hy
theorem stop_hex (r : List Int) (h : r.getD 0 0 = 62) : itemL true r = none := by
  have : hexI r = -1 := by
    unfold hexI
    rw [h, if_pos (.inl (by decide))]
  unfold itemL oneL
  simp [this]
theorem stop_cls (r : List Int) (h : r.getD 0 0 = 93) : itemL false r = none := by
  have h0 : r ≠ [] := by intro c; rw [c] at h; exact absurd h (by decide)
  have : signL r = none := by
    unfold signL
    rw [if_neg h0, if_pos (by rw [h]; omega)]
    have e : U.nextL r = (93, 1) := by
      unfold U.nextL
      rw [if_neg h0, h]
      have hl : 1 ≤ r.length := by cases r <;> simp_all
      have m1 : U.manyN 93 = 1 := by decide
      rw [m1, if_neg (by omega)]
      have e2 : U.readN 1 r = 93 := by
        show r.getD 0 0 = 93
        exact h
      rw [e2]
      rfl
    rw [e]
    rfl
  unfold itemL oneL
  simp [this]
theorem tok_octs {l : List Int} (hb : U.isBytes l) (h : l.getD 0 0 = 60) : tokL l = if (l.drop (1 + (itemsG true (l.drop 1)).2)).getD 0 0 = 62 then some ((3, [], normL (itemsG true (l.drop 1)).1), (itemsG true (l.drop 1)).2 + 2) else none := by
  unfold tokL
  rw [h, if_neg (by decide), if_neg (by omega), if_neg (by decide), if_neg (by omega), if_pos rfl, items_gather (by omega) stop_hex _ _ (U.isBytes_drop hb 1) (Nat.le_refl _), List.drop_drop]
  by_cases c : (List.drop (1 + (itemsG true (l.drop 1)).2) l).getD 0 0 = 62
  · rw [if_pos c, if_pos c]
  · rw [if_neg c, if_neg c]
theorem cells4 {W : World} {g : Nat} {x0 x1 x2 x3 : Value} {t : TypeId} (h : W.heap[g]? = some (.cells #[x0, x1, x2, x3] t)) :
    (W.cell? ⟨g, 0, none⟩ = some x0 ∧ W.cell? ⟨g, 1, none⟩ = some x1 ∧ W.cell? ⟨g, 2, none⟩ = some x2 ∧ W.cell? ⟨g, 3, none⟩ = some x3) ∧
    (W.frozen? ⟨g, 0, none⟩ = false ∧ W.frozen? ⟨g, 1, none⟩ = false ∧ W.frozen? ⟨g, 2, none⟩ = false ∧ W.frozen? ⟨g, 3, none⟩ = false) := by
  refine ⟨⟨?_, ?_, ?_, ?_⟩, ?_, ?_, ?_, ?_⟩ <;> simp [World.cell?, World.frozen?, h]
theorem set4 {B : Nat} {a w : World} (h : Below B a w) {g : Nat} (hg : B ≤ g) (x0 x1 x2 x3 : Value) : Below B a ((((w.setCell ⟨g, 0, none⟩ x0).setCell ⟨g, 1, none⟩ x1).setCell ⟨g, 2, none⟩ x2).setCell ⟨g, 3, none⟩ x3) :=
  Below.setCell (Below.setCell (Below.setCell (Below.setCell h (show B ≤ (⟨g, 0, none⟩ : Addr).block from hg) _) (show B ≤ (⟨g, 1, none⟩ : Addr).block from hg) _) (show B ≤ (⟨g, 2, none⟩ : Addr).block from hg) _) (show B ≤ (⟨g, 3, none⟩ : Addr).block from hg) _
theorem Rs.set4 {w : World} {a : Option Addr} {len cap : Nat} {l : List (Int × Int)} (h : Rs w a len cap l ∧ Ty w a) {g : Nat} {cs : Array Value} (hg : w.heap[g]? = some (.cells cs 102)) (x0 x1 x2 x3 : Value) :
    Rs ((((w.setCell ⟨g, 0, none⟩ x0).setCell ⟨g, 1, none⟩ x1).setCell ⟨g, 2, none⟩ x2).setCell ⟨g, 3, none⟩ x3) a len cap l ∧ Ty ((((w.setCell ⟨g, 0, none⟩ x0).setCell ⟨g, 1, none⟩ x1).setCell ⟨g, 2, none⟩ x2).setCell ⟨g, 3, none⟩ x3) a := by
  have hbg : ∀ b off, a = some ⟨b, off, none⟩ → b ≠ g := by
    intro b off e c
    subst c
    obtain ⟨cs', fr, hk⟩ := h.2 b off e
    rw [hg] at hk
    injection hk with hk
    injection hk with _ hk
    exact absurd hk (by decide)
  constructor
  · refine ⟨h.1.hlen, h.1.hcap, h.1.hmax, h.1.hfit, fun i hi => ?_⟩
    obtain ⟨b, off, ha, hc, hd⟩ := h.1.hcell i hi
    have ne : ∀ (k m : Nat), (⟨g, k, none⟩ : Addr) ≠ ⟨b, m, none⟩ := fun k m e => hbg b off ha (by injection e with e1; exact e1.symm)
    refine ⟨b, off, ha, ?_, ?_⟩
    · rw [World.cell?_setCell_other (h := ne _ _), World.cell?_setCell_other (h := ne _ _), World.cell?_setCell_other (h := ne _ _), World.cell?_setCell_other (h := ne _ _)]; exact hc
    · rw [World.cell?_setCell_other (h := ne _ _), World.cell?_setCell_other (h := ne _ _), World.cell?_setCell_other (h := ne _ _), World.cell?_setCell_other (h := ne _ _)]; exact hd
  · intro b off e
    obtain ⟨cs', fr, hk⟩ := h.2 b off e
    have hb := hbg b off e
    refine ⟨cs', fr, ?_⟩
    rw [Below.heap_setCell _ _ _ _ hb, Below.heap_setCell _ _ _ _ hb, Below.heap_setCell _ _ _ _ hb, Below.heap_setCell _ _ _ _ hb]
    exact hk
theorem own_ty {w : World} {base : Nat} {a : Option Addr} {n m cap : Nat} {xs : List Value} (h : w.ownsRow base 58 2 (.slice a n cap) m xs) : Ty w a := by
  intro b off e
  rcases h.2 with ⟨e0, _⟩ | ⟨g, cap', cur, e0, _, hg, _⟩
  · injection e0 with e1; rw [e] at e1; cases e1
  · injection e0 with e1
    rw [e] at e1
    injection e1 with e1
    injection e1 with e1
    subst e1
    exact ⟨_, _, hg⟩
theorem ano_is {w w' : World} {p : Int → Bool} {R : List (Int × Int)} (hR : G.Is R p) {e : Ending} (h : AnO w p e w') : ∃ a cap, e = .returned (.slice a R.length cap) ∧ (Rs w' a R.length cap R ∧ Ty w' a) ∧ Below w.heap.size w w' := by
  obtain ⟨v, out, he, ho, hi, hb⟩ := h
  have e1 : out = R := hi.unique hR (fun n => rfl)
  subst e1
  obtain ⟨a, cap, rfl, hr⟩ := Ow.rs ho (may_fits hi.1)
  exact ⟨a, cap, he, ⟨hr, own_ty ho⟩, hb⟩
theorem norm_o (a : Option Addr) (len cap : Nat) (l : List (Int × Int)) (w : World) (h : Rs w a len cap l) (hs : len ≤ 1000000) :
    Calls Tryz.prog 123 #[.slice a len cap] w (AnO w (inN l)) := (norm_any a len cap l w h hs).mono fun _ _ ⟨v, out, he, ho, hi, hb⟩ => ⟨v, out, he, ho, hi, hb⟩
theorem st_gt : St ⟨#[62]⟩ [62] := ⟨rfl, by intro z hz; simp at hz; omega⟩
def zTok : Obj := .cells #[.int .i64 0, .string ⟨#[]⟩, .slice none 0 0, .int .i64 0] 102
set_option maxRecDepth 20000 in
set_option maxHeartbeats 4000000 in
theorem octets_l (a : Option Addr) (len cap : Nat) (l : List Int) (w : World) (h : Bs w a len cap l) (hl : len ≤ 100000) (hp : 1 ≤ len) (h0 : l.getD 0 0 = 60) :
    Calls Tryz.prog 78 #[.slice a len cap] w fun e w' => ∃ v n, e = .returned (.tuple #[v, .int .i64 (n : Nat)]) ∧ TokO w' v n (tokL l) ∧ Below w.heap.size w w' := by
  rw [tok_octs h.hbytes h0]
  have hlen := h.hlen
  have hcap := h.hcap
  have il := items_len true _ _ (U.isBytes_drop h.hbytes 1) (Nat.le_refl _)
  have ft := hideR (items_fits true _ _ (U.isBytes_drop h.hbytes 1) (Nat.le_refl _))
  rw [List.length_drop] at il
  have sl := tail_run a len cap 1 1 rfl hp
  have HB := hideR (Bs.later h (Below.new1 zTok) (Nat.le_refl _))
  have CI := hideR (fun W (hB : Bs W a len cap l) => itemsH _ _ _ _ W (Bs.dropA hB 1 hp) (by omega))
  clear h h0
  generalize itemsG true (l.drop 1) = G at *
  obtain ⟨xs, n⟩ := G
  simp only at il ft CI ⊢
  have t1 := wrapI (1 + (n : Int)) (by omega)
  have t2 := wrapI (1 + (n : Int) + 1) (by omega)
  have sl2 := tail_run a len cap (1 + n) (1 + (n : Int)) (by omega) (by omega)
  have CB := hideR (fun W (hB : Bs W a len cap l) => begins_l _ _ _ _ W (Bs.dropA hB (1 + n) (by omega)) ⟨#[62]⟩ [62] st_gt (by simp))
  rw [pre1_eq (by omega)] at CB
  have CR := hideR (fun W x c (hR : Rs W x xs.length c xs) => norm_o x xs.length c xs W hR (by omega))
  unfold zTok at HB
  by_cases c : (l.drop (1 + n)).getD 0 0 = 62
  · rw [if_pos c]
    rw [decide_eq_true c] at CB
    clear c
    go_enter Tryz.func78, Tryz.ntmps78
    go_wp2_with fail
    refine (unhideR CI _ (unhideR HB)).mono ?_
    rintro e w1 ⟨v, rfl, o1, b1⟩
    obtain ⟨x, cx, rfl, hR⟩ := Ow.rs o1 (unhideR ft)
    have HB1 := hideR (Bs.later (unhideR HB) b1 (Nat.le_refl _))
    have HR := hideR hR
    clear CI HB hR o1 ft
    go_wp2_with fail
    refine (unhideR CB _ (unhideR HB1)).mono ?_
    rintro e w2 ⟨rfl, b2⟩
    have HR2 := hideR (Rs.later (unhideR HR) b2 (Nat.le_refl _))
    clear CB HR HB1
    go_wp2_with fail
    refine (unhideR CR _ _ _ (unhideR HR2)).mono ?_
    intro e w3 an
    obtain ⟨y, cy, rfl, hN, b3⟩ := ano_is (norm_is xs) an
    have HN := hideR hN
    clear CR HR2 an hN
    have B3 := bthen (bthen b1 b2) b3
    have HG := kept_new B3
    obtain ⟨⟨q0, q1, q2, q3⟩, f0, f1, f2, f3⟩ := cells4 HG
    go_wp2_with fail
    (try simp only [Exit.inBlock, Exit.then])
    refine bodyPost_ret (v := .tuple #[.agg #[.int .i64 3, .string ⟨#[]⟩, .slice y (normL xs).length cy, .int .i64 0], .int .i64 ((n + 2 : Nat) : Int)]) ?_ rfl ⟨_, _, rfl, .inr ⟨_, rfl, y, cy, rfl, Rs.set4 (unhideR HN) HG _ _ _ _⟩, ?_⟩
    · rw [results_cell_tmp rfl]
      go_simp
      omega
    · exact set4 ((Below.new1 _).trans (B3.mono (by simp))) (Nat.le_refl _) _ _ _ _
  · rw [if_neg c]
    rw [decide_eq_false c] at CB
    clear c
    go_enter Tryz.func78, Tryz.ntmps78
    go_wp2_with fail
    refine (unhideR CI _ (unhideR HB)).mono ?_
    rintro e w1 ⟨v, rfl, o1, b1⟩
    have HB1 := hideR (Bs.later (unhideR HB) b1 (Nat.le_refl _))
    clear CI HB o1 ft
    go_wp2_with fail
    refine (unhideR CB _ (unhideR HB1)).mono ?_
    rintro e w2 ⟨rfl, b2⟩
    clear CB HB1 CR
    have B3 := bthen b1 b2
    have HG := kept_new B3
    obtain ⟨⟨q0, q1, q2, q3⟩, f0, f1, f2, f3⟩ := cells4 HG
    go_wp2_with fail
    (try simp only [Exit.inBlock, Exit.then])
    refine bodyPost_ret (v := .tuple #[zeroTok, .int .i64 (0 : Nat)]) ?_ rfl ⟨_, _, rfl, .inl ⟨rfl, rfl, rfl⟩, ?_⟩
    · rw [results_cell_tmp rfl]
      go_simp
      try rfl
    · exact set4 ((Below.new1 _).trans (B3.mono (by simp))) (Nat.le_refl _) _ _ _ _
end Go.Proofs.YtfcfcgeodghmpaaGreatDoor.T

namespace Go.Proofs.YtfcfcgeodghmpaaGreatDoor.T
open Go.RowKit
set_option linter.unusedVariables false
set_option linter.unusedSimpArgs false

theorem tok_cls {l : List Int} (hb : U.isBytes l) (h : l.getD 0 0 = 91) : tokL l = if (l.drop (1 + hatN l + (itemsG false (l.drop (1 + hatN l))).2)).getD 0 0 = 93 then some ((2, [], classL (decide (hatN l = 1)) (itemsG false (l.drop (1 + hatN l))).1), (itemsG false (l.drop (1 + hatN l))).2 + 2 + hatN l) else none := by
  unfold tokL
  rw [h, if_neg (by decide), if_neg (by omega), if_neg (by decide), if_neg (by omega), if_neg (by omega), if_pos rfl, items_gather (by omega) stop_cls _ _ (U.isBytes_drop hb (1 + hatN l)) (Nat.le_refl _), List.drop_drop]
  by_cases c : (List.drop (1 + hatN l + (itemsG false (l.drop (1 + hatN l))).2) l).getD 0 0 = 93
  · rw [if_pos c, if_pos c]
  · rw [if_neg c, if_neg c]
theorem nrm_surr (n : Int) : nrm [(55296, 57343)] n = (G.dom n && (decide (55296 ≤ n) && decide (n ≤ 57343))) := by
  unfold nrm
  rw [G.hasB_one]
theorem may_dom (n : Int) : U.mayB n = (G.dom n && !(decide (55296 ≤ n) && decide (n ≤ 57343))) := by
  unfold U.mayB G.dom
  rw [Bool.eq_iff_iff]
  simp only [Bool.and_eq_true, decide_eq_true_eq, Bool.not_eq_true', Bool.and_eq_false_iff, decide_eq_false_iff_not]
  omega
theorem an_cls0 {w w' : World} {xs : List (Int × Int)} {e : Ending} (h : AnO w (fun n => nrm (normL xs) n && !nrm [(55296, 57343)] n) e w') : ∃ a cap, e = .returned (.slice a (classL false xs).length cap) ∧ (Rs w' a (classL false xs).length cap (classL false xs) ∧ Ty w' a) ∧ Below w.heap.size w w' := by
  refine ano_is (class_is false xs) (h.congr fun n => by
    simp only [Bool.false_eq_true, if_false]
    rw [nrm_surr, may_dom]
    unfold nrm
    rw [(norm_is xs).2]
    unfold inN
    cases G.dom n <;> cases (decide (55296 ≤ n) && decide (n ≤ 57343)) <;> cases G.hasB xs n <;> rfl)
theorem an_cls1 {w w' : World} {xs A : List (Int × Int)} (hA : G.Is A (notP xs 1114111)) {e : Ending} (h : AnO w (fun n => nrm A n && !nrm [(55296, 57343)] n) e w') : ∃ a cap, e = .returned (.slice a (classL true xs).length cap) ∧ (Rs w' a (classL true xs).length cap (classL true xs) ∧ Ty w' a) ∧ Below w.heap.size w w' := by
  refine ano_is (class_is true xs) (h.congr fun n => by
    simp only [if_true]
    rw [nrm_surr, may_dom]
    unfold nrm
    rw [hA.2]
    unfold notP nrm
    have e3 : G.hasB [(0, 1114111)] n = G.dom n := G.hasB_one _ _ _
    rw [e3]
    cases G.dom n <;> cases (decide (55296 ≤ n) && decide (n ≤ 57343)) <;> cases G.hasB xs n <;> rfl)
theorem may_small {l : List (Int × Int)} (h : G.mayB l = true) : l.length ≤ 1000000 := by
  have := G.may_length h
  omega
theorem st_hat : St ⟨#[94]⟩ [94] := ⟨rfl, by intro z hz; simp at hz; omega⟩
theorem st_end : St ⟨#[93]⟩ [93] := ⟨rfl, by intro z hz; simp at hz; omega⟩
set_option maxRecDepth 20000 in
set_option maxHeartbeats 4000000 in
theorem class_0 (a : Option Addr) (len cap : Nat) (l : List Int) (w : World) (h : Bs w a len cap l) (hl : len ≤ 100000) (hp : 1 ≤ len) (h0 : l.getD 0 0 = 91) (hk : hatN l = 0) :
    Calls Tryz.prog 77 #[.slice a len cap] w fun e w' => ∃ v n, e = .returned (.tuple #[v, .int .i64 (n : Nat)]) ∧ TokO w' v n (tokL l) ∧ Below w.heap.size w w' := by
  rw [tok_cls h.hbytes h0, hk]
  have hlen := h.hlen
  have hcap := h.hcap
  have hat : pre [94] (l.drop 1) = false := by
    rw [pre1_eq (by omega), drop_getD]
    unfold hatN at hk
    split at hk
    · next c => omega
    · next c => exact decide_eq_false c
  have il := items_len false _ _ (U.isBytes_drop h.hbytes 1) (Nat.le_refl _)
  have ft := hideR (items_fits false _ _ (U.isBytes_drop h.hbytes 1) (Nat.le_refl _))
  rw [List.length_drop] at il
  have sl := tail_run a len cap 1 1 rfl (by omega)
  skip
  have HB := hideR (Bs.later h (Below.new1 zTok) (Nat.le_refl _))
  have CH := hideR (fun W (hB : Bs W a len cap l) => begins_l _ _ _ _ W (Bs.dropA hB 1 (by omega)) ⟨#[94]⟩ [94] st_hat (by simp))
  rw [hat] at CH
  have CI := hideR (fun W (hB : Bs W a len cap l) => itemsS _ _ _ _ W (Bs.dropA hB 1 hp) (by omega))
  show Calls _ _ _ _ fun e w' => ∃ v n, e = .returned (.tuple #[v, .int .i64 (n : Nat)]) ∧ TokO w' v n (if (l.drop (1 + (itemsG false (l.drop 1)).2)).getD 0 0 = 93 then some ((2, [], classL false (itemsG false (l.drop 1)).1), (itemsG false (l.drop 1)).2 + 2 + 0) else none) ∧ Below w.heap.size w w'
  clear h h0 hk hat
  generalize itemsG false (l.drop 1) = G at *
  obtain ⟨xs, n⟩ := G
  simp only at il ft CI ⊢
  have t1 := wrapI (1 + (n : Int)) (by omega)
  have t2 := wrapI (1 + (n : Int) + 1) (by omega)
  have sl2 := tail_run a len cap (1 + n) (1 + (n : Int)) (by omega) (by omega)
  have CB := hideR (fun W (hB : Bs W a len cap l) => begins_l _ _ _ _ W (Bs.dropA hB (1 + n) (by omega)) ⟨#[93]⟩ [93] st_end (by simp))
  rw [pre1_eq (by omega)] at CB
  have CR := hideR (fun W x c (hR : Rs W x xs.length c xs) => norm_o x xs.length c xs W hR (by omega))
  skip
  unfold zTok at HB
  by_cases c : (l.drop (1 + n)).getD 0 0 = 93
  · rw [if_pos c]
    rw [decide_eq_true c] at CB
    clear c
    go_enter Tryz.func77, Tryz.ntmps77
    go_wp2_with fail
    refine (unhideR CH _ (unhideR HB)).mono ?_
    rintro e w1 ⟨rfl, b1⟩
    have HB1 := hideR (Bs.later (unhideR HB) b1 (Nat.le_refl _))
    clear CH HB
    go_wp2_with fail
    refine (unhideR CI _ (unhideR HB1)).mono ?_
    rintro e w2 ⟨v, rfl, o2, b2⟩
    obtain ⟨x, cx, rfl, hR⟩ := Ow.rs o2 (unhideR ft)
    have HB2 := hideR (Bs.later (unhideR HB1) b2 (Nat.le_refl _))
    have HR := hideR hR
    clear CI HB1 hR o2 ft
    go_wp2_with fail
    refine (unhideR CB _ (unhideR HB2)).mono ?_
    rintro e w3 ⟨rfl, b3⟩
    have HR3 := hideR (Rs.later (unhideR HR) b3 (Nat.le_refl _))
    clear CB HR HB2

    go_wp2_with fail
    refine (unhideR CR _ _ _ (unhideR HR3)).mono ?_
    intro e w4 an
    obtain ⟨y, cy, rfl, ⟨hN, -⟩, b4⟩ := ano_is (norm_is xs) an
    have hnl : (normL xs).length ≤ 1000000 := may_small (norm_is xs).1
    have HN := hideR hN
    clear CR HR3 an hN
    have CL := hideR (rgLessO_any y (normL xs).length cy (normL xs) (some ⟨w4.heap.size, 0, none⟩) 1 1 [(55296, 57343)] (w4.alloc (boxRg 55296 57343)) (Rs.later (unhideR HN) (Below.new1 _) (Nat.le_refl _)) (Rs.single w4 55296 57343 (by unfold fits; omega) (by unfold fits; omega) _ rfl) hnl (by omega))
    clear HN
    unfold boxRg at CL
    go_wp2_with fail
    refine (unhideR CL).mono ?_
    intro e w5 an
    obtain ⟨u, cu, rfl, hN, b5⟩ := an_cls0 an
    have HN := hideR hN
    clear CL an hN
    have B4 := bthen (bthen (bthen b1 b2) b3) b4
    have B5 : Below (w.alloc zTok).heap.size (w.alloc zTok) w5 := bthen (bthen B4 (Below.new1 _)) b5

    have HG : w5.heap[w.heap.size]? = some (.cells #[.int .i64 0, .string ⟨#[]⟩, .slice none 0 0, .int .i64 0] 102) := kept_new B5
    obtain ⟨⟨q0, q1, q2, q3⟩, f0, f1, f2, f3⟩ := cells4 HG
    clear B4
    go_wp2_with fail
    (try simp only [Exit.inBlock, Exit.then])
    refine bodyPost_ret (v := .tuple #[.agg #[.int .i64 2, .string ⟨#[]⟩, .slice u (classL false xs).length cu, .int .i64 0], .int .i64 ((n + 2 + 0 : Nat) : Int)]) ?_ rfl ⟨_, _, rfl, .inr ⟨_, rfl, u, cu, rfl, Rs.set4 (unhideR HN) HG _ _ _ _⟩, ?_⟩
    · rw [results_cell_tmp rfl]
      go_simp
      omega
    · exact set4 ((Below.new1 _).trans (B5.mono (by simp))) (Nat.le_refl _) _ _ _ _
  · rw [if_neg c]
    rw [decide_eq_false c] at CB
    clear c
    go_enter Tryz.func77, Tryz.ntmps77
    go_wp2_with fail
    refine (unhideR CH _ (unhideR HB)).mono ?_
    rintro e w1 ⟨rfl, b1⟩
    have HB1 := hideR (Bs.later (unhideR HB) b1 (Nat.le_refl _))
    clear CH HB
    go_wp2_with fail
    refine (unhideR CI _ (unhideR HB1)).mono ?_
    rintro e w2 ⟨v, rfl, o2, b2⟩
    obtain ⟨x, cx, rfl, hR⟩ := Ow.rs o2 (unhideR ft)
    have HB2 := hideR (Bs.later (unhideR HB1) b2 (Nat.le_refl _))
    have HR := hideR hR
    clear CI HB1 hR o2 ft
    go_wp2_with fail
    refine (unhideR CB _ (unhideR HB2)).mono ?_
    rintro e w3 ⟨rfl, b3⟩
    have HR3 := hideR (Rs.later (unhideR HR) b3 (Nat.le_refl _))
    clear CB HR HB2

    clear CR HR3
    have B3 := bthen (bthen b1 b2) b3
    have HG := kept_new B3
    obtain ⟨⟨q0, q1, q2, q3⟩, f0, f1, f2, f3⟩ := cells4 HG
    go_wp2_with fail
    (try simp only [Exit.inBlock, Exit.then])
    refine bodyPost_ret (v := .tuple #[zeroTok, .int .i64 (0 : Nat)]) ?_ rfl ⟨_, _, rfl, .inl ⟨rfl, rfl, rfl⟩, ?_⟩
    · rw [results_cell_tmp rfl]
      go_simp
      try rfl
    · exact set4 ((Below.new1 _).trans (B3.mono (by simp))) (Nat.le_refl _) _ _ _ _
set_option maxRecDepth 20000 in
set_option maxHeartbeats 4000000 in
theorem class_1 (a : Option Addr) (len cap : Nat) (l : List Int) (w : World) (h : Bs w a len cap l) (hl : len ≤ 100000) (hp : 2 ≤ len) (h0 : l.getD 0 0 = 91) (hk : hatN l = 1) :
    Calls Tryz.prog 77 #[.slice a len cap] w fun e w' => ∃ v n, e = .returned (.tuple #[v, .int .i64 (n : Nat)]) ∧ TokO w' v n (tokL l) ∧ Below w.heap.size w w' := by
  rw [tok_cls h.hbytes h0, hk]
  have hlen := h.hlen
  have hcap := h.hcap
  have hat : pre [94] (l.drop 1) = true := by
    rw [pre1_eq (by omega), drop_getD]
    unfold hatN at hk
    split at hk
    · next c => exact decide_eq_true c
    · next c => omega
  have il := items_len false _ _ (U.isBytes_drop h.hbytes 2) (Nat.le_refl _)
  have ft := hideR (items_fits false _ _ (U.isBytes_drop h.hbytes 2) (Nat.le_refl _))
  rw [List.length_drop] at il
  have sl := tail_run a len cap 1 1 rfl (by omega)
  have sl1 := tail_run a len cap 2 2 rfl hp
  have HB := hideR (Bs.later h (Below.new1 zTok) (Nat.le_refl _))
  have CH := hideR (fun W (hB : Bs W a len cap l) => begins_l _ _ _ _ W (Bs.dropA hB 1 (by omega)) ⟨#[94]⟩ [94] st_hat (by simp))
  rw [hat] at CH
  have CI := hideR (fun W (hB : Bs W a len cap l) => itemsS _ _ _ _ W (Bs.dropA hB 2 hp) (by omega))
  show Calls _ _ _ _ fun e w' => ∃ v n, e = .returned (.tuple #[v, .int .i64 (n : Nat)]) ∧ TokO w' v n (if (l.drop (2 + (itemsG false (l.drop 2)).2)).getD 0 0 = 93 then some ((2, [], classL true (itemsG false (l.drop 2)).1), (itemsG false (l.drop 2)).2 + 2 + 1) else none) ∧ Below w.heap.size w w'
  clear h h0 hk hat
  generalize itemsG false (l.drop 2) = G at *
  obtain ⟨xs, n⟩ := G
  simp only at il ft CI ⊢
  have t1 := wrapI (2 + (n : Int)) (by omega)
  have t2 := wrapI (2 + (n : Int) + 1) (by omega)
  have sl2 := tail_run a len cap (2 + n) (2 + (n : Int)) (by omega) (by omega)
  have CB := hideR (fun W (hB : Bs W a len cap l) => begins_l _ _ _ _ W (Bs.dropA hB (2 + n) (by omega)) ⟨#[93]⟩ [93] st_end (by simp))
  rw [pre1_eq (by omega)] at CB
  have CR := hideR (fun W x c (hR : Rs W x xs.length c xs) => norm_o x xs.length c xs W hR (by omega))
  have CT := hideR (fun W x c (hR : Rs W x xs.length c xs) => rgNot_any x xs.length c xs 1114111 W hR (by omega) (by unfold fits; omega))
  unfold zTok at HB
  by_cases c : (l.drop (2 + n)).getD 0 0 = 93
  · rw [if_pos c]
    rw [decide_eq_true c] at CB
    clear c
    go_enter Tryz.func77, Tryz.ntmps77
    go_wp2_with fail
    refine (unhideR CH _ (unhideR HB)).mono ?_
    rintro e w1 ⟨rfl, b1⟩
    have HB1 := hideR (Bs.later (unhideR HB) b1 (Nat.le_refl _))
    clear CH HB
    go_wp2_with fail
    refine (unhideR CI _ (unhideR HB1)).mono ?_
    rintro e w2 ⟨v, rfl, o2, b2⟩
    obtain ⟨x, cx, rfl, hR⟩ := Ow.rs o2 (unhideR ft)
    have HB2 := hideR (Bs.later (unhideR HB1) b2 (Nat.le_refl _))
    have HR := hideR hR
    clear CI HB1 hR o2 ft
    go_wp2_with fail
    refine (unhideR CB _ (unhideR HB2)).mono ?_
    rintro e w3 ⟨rfl, b3⟩
    have HR3 := hideR (Rs.later (unhideR HR) b3 (Nat.le_refl _))
    clear CB HR HB2

    go_wp2_with fail
    refine (unhideR CR _ _ _ (unhideR HR3)).mono ?_
    intro e w4 an
    obtain ⟨y, cy, rfl, ⟨hN, -⟩, b4⟩ := ano_is (norm_is xs) an
    have HR4 := hideR (Rs.later (unhideR HR3) b4 (Nat.le_refl _))
    clear CR HR3 an hN
    go_wp2_with fail
    refine (unhideR CT _ _ _ (unhideR HR4)).mono ?_
    intro e w4b an
    obtain ⟨yb, lb, cyb, A, rfl, hN, hA, b4b⟩ := an
    have hnl : lb ≤ 1000000 := by rw [← hN.hlen]; exact may_small hA.1
    have HN := hideR hN
    clear CT HR4 hN
    have CL := hideR (rgLessO_any yb lb cyb A (some ⟨w4b.heap.size, 0, none⟩) 1 1 [(55296, 57343)] (w4b.alloc (boxRg 55296 57343)) (Rs.later (unhideR HN) (Below.new1 _) (Nat.le_refl _)) (Rs.single w4b 55296 57343 (by unfold fits; omega) (by unfold fits; omega) _ rfl) hnl (by omega))
    clear HN
    unfold boxRg at CL
    go_wp2_with fail
    refine (unhideR CL).mono ?_
    intro e w5 an
    obtain ⟨u, cu, rfl, hN, b5⟩ := an_cls1 hA an
    have HN := hideR hN
    clear CL an hN
    have B4 := bthen (bthen (bthen (bthen b1 b2) b3) b4) b4b
    have B5 : Below (w.alloc zTok).heap.size (w.alloc zTok) w5 := bthen (bthen B4 (Below.new1 _)) b5

    have HG : w5.heap[w.heap.size]? = some (.cells #[.int .i64 0, .string ⟨#[]⟩, .slice none 0 0, .int .i64 0] 102) := kept_new B5
    obtain ⟨⟨q0, q1, q2, q3⟩, f0, f1, f2, f3⟩ := cells4 HG
    clear B4
    go_wp2_with fail
    (try simp only [Exit.inBlock, Exit.then])
    refine bodyPost_ret (v := .tuple #[.agg #[.int .i64 2, .string ⟨#[]⟩, .slice u (classL true xs).length cu, .int .i64 0], .int .i64 ((n + 2 + 1 : Nat) : Int)]) ?_ rfl ⟨_, _, rfl, .inr ⟨_, rfl, u, cu, rfl, Rs.set4 (unhideR HN) HG _ _ _ _⟩, ?_⟩
    · rw [results_cell_tmp rfl]
      go_simp
      omega
    · exact set4 ((Below.new1 _).trans (B5.mono (by simp))) (Nat.le_refl _) _ _ _ _
  · rw [if_neg c]
    rw [decide_eq_false c] at CB
    clear c
    go_enter Tryz.func77, Tryz.ntmps77
    go_wp2_with fail
    refine (unhideR CH _ (unhideR HB)).mono ?_
    rintro e w1 ⟨rfl, b1⟩
    have HB1 := hideR (Bs.later (unhideR HB) b1 (Nat.le_refl _))
    clear CH HB
    go_wp2_with fail
    refine (unhideR CI _ (unhideR HB1)).mono ?_
    rintro e w2 ⟨v, rfl, o2, b2⟩
    obtain ⟨x, cx, rfl, hR⟩ := Ow.rs o2 (unhideR ft)
    have HB2 := hideR (Bs.later (unhideR HB1) b2 (Nat.le_refl _))
    have HR := hideR hR
    clear CI HB1 hR o2 ft
    go_wp2_with fail
    refine (unhideR CB _ (unhideR HB2)).mono ?_
    rintro e w3 ⟨rfl, b3⟩
    have HR3 := hideR (Rs.later (unhideR HR) b3 (Nat.le_refl _))
    clear CB HR HB2

    clear CR HR3
    have B3 := bthen (bthen b1 b2) b3
    have HG := kept_new B3
    obtain ⟨⟨q0, q1, q2, q3⟩, f0, f1, f2, f3⟩ := cells4 HG
    go_wp2_with fail
    (try simp only [Exit.inBlock, Exit.then])
    refine bodyPost_ret (v := .tuple #[zeroTok, .int .i64 (0 : Nat)]) ?_ rfl ⟨_, _, rfl, .inl ⟨rfl, rfl, rfl⟩, ?_⟩
    · rw [results_cell_tmp rfl]
      go_simp
      try rfl
    · exact set4 ((Below.new1 _).trans (B3.mono (by simp))) (Nat.le_refl _) _ _ _ _
theorem class_l (a : Option Addr) (len cap : Nat) (l : List Int) (w : World) (h : Bs w a len cap l) (hl : len ≤ 100000) (hp : 1 ≤ len) (h0 : l.getD 0 0 = 91) :
    Calls Tryz.prog 77 #[.slice a len cap] w fun e w' => ∃ v n, e = .returned (.tuple #[v, .int .i64 (n : Nat)]) ∧ TokO w' v n (tokL l) ∧ Below w.heap.size w w' := by
  by_cases c : l.getD 1 0 = 94
  · have hk : hatN l = 1 := by unfold hatN; rw [if_pos c]
    have h2 : 2 ≤ len := by
      apply Classical.byContradiction
      intro cc
      have e : l.getD 1 0 = 0 := by simp [List.getD, List.getElem?_eq_none (show l.length ≤ 1 by have := h.hlen; omega)]
      omega
    exact class_1 a len cap l w h hl h2 h0 hk
  · exact class_0 a len cap l w h hl hp h0 (by unfold hatN; rw [if_neg c])
end Go.Proofs.YtfcfcgeodghmpaaGreatDoor.T

namespace Go.Proofs.YtfcfcgeodghmpaaGreatDoor
open Go.RowKit
set_option linter.unusedVariables false

theorem info_byte : (Tryz.prog.info? 5).map (fun i => (i.zero, i.size, i.bytes)) = some (some (.int .u8 0), 1, 1) := by kernel_rfl

theorem Bs.ofOwn {w : World} {base : Nat} {v : Value} {n : Nat} {l : List Int} (hb : U.isBytes l) (h : w.ownsRow base 5 1 v n (l.map (Value.int .u8))) : ∃ a cap, v = .slice a n cap ∧ Bs w a n cap l := by
  obtain ⟨h1, h2⟩ := h
  have hl : l.length = n := by simpa using h1
  rcases h2 with ⟨rfl, rfl⟩ | ⟨g, cap, cur, rfl, _, hg, hnc, hcm, hcs, hx⟩
  · exact ⟨none, 0, rfl, hl, Nat.le_refl _, Nat.zero_le _, hb, fun i hi => by omega⟩
  · refine ⟨_, _, rfl, hl, hnc, hcm, hb, fun i hi => ⟨g, 0, rfl, ?_⟩⟩
    have hi2 : i < l.length := by omega
    have e1 : cur.toList[i]? = some (.int .u8 (l.getD i 0)) := by
      have e2 : (cur.toList.take (n * 1))[i]? = some (.int .u8 (l.getD i 0)) := by
        rw [hx]; simp [hi2]
      rw [List.getElem?_take] at e2
      split at e2
      · exact e2
      · simp at e2
    have e3 : cur[i]? = some (.int .u8 (l.getD i 0)) := by rw [← Array.getElem?_toList]; exact e1
    simp only [World.cell?, hg]
    simpa using e3

end Go.Proofs.YtfcfcgeodghmpaaGreatDoor

namespace Go.Proofs.YtfcfcgeodghmpaaGreatDoor
open Go.RowKit
set_option linter.unusedVariables false
set_option linter.unusedSimpArgs false

def candI (low : Int) (l : List Int) : Nat → Int
  | 0 => l.getD 0 0 - low
  | i + 1 => 64 * candI low l i + l.getD (i + 1) 0 - 128
def lowOf (n : Nat) : Int := [0, 0, 192, 224, 240].getD n 0
def cand (l : List Int) (n : Nat) : Int := candI (lowOf n) l (n - 1)
def Hit (l : List Int) (n : Nat) : Prop := U.mayB (cand l n) = true ∧ U.putL (cand l n) = l.take n
theorem Hit.next {l : List Int} {n : Nat} (h : Hit l n) (hn : n ≤ l.length) : U.nextL l = (cand l n, n) := by
  have := U.next_put h.1 (l.drop n)
  rw [h.2, List.take_append_drop, List.length_take, Nat.min_eq_left hn] at this
  exact this
end Go.Proofs.YtfcfcgeodghmpaaGreatDoor

namespace Go.Proofs.YtfcfcgeodghmpaaGreatDoor.T
open Go.RowKit
set_option linter.unusedVariables false
set_option linter.unusedSimpArgs false


/-! ### Marks -/
theorem str_lit (l : List Int) (b : ByteArray) (h : b = strOfNums l) : b = strOfNums l := h
end Go.Proofs.YtfcfcgeodghmpaaGreatDoor.T

namespace Go.Proofs.YtfcfcgeodghmpaaGreatDoor.T
open Go.RowKit
set_option linter.unusedVariables false
set_option linter.unusedSimpArgs false

theorem drop_ne {l : List Int} {k : Nat} (h : k < l.length) : l.drop k ≠ [] := by
  intro e
  have := congrArg List.length e
  rw [List.length_drop, List.length_nil] at this
  omega
theorem new_byte (w : World) (n : Nat) (x : Int) (hn : n = w.heap.size) : ∀ (j : Nat) (u : Value), [Value.int .u8 x][j]? = some u → (w.alloc (.cells #[.int .u8 x] 5)).cell? ((⟨n, 0, none⟩ : Addr).add j) = some u := by
  subst hn
  exact World.news_of_block (cs := #[.int .u8 x]) (t := 5) (fr := (0, 0)) (heap_alloc_new w _)
theorem grow_b {B : Nat} {w w2 w1 : World} {e : TypeId} {sz n : Nat} {v : Value} {xs : List Value} (h : w2.ownsRow B e sz v n xs) (hb : Below B w w2) (hB : B ≤ w2.heap.size) (hg : w2.grownBy w1 v.ownBlock) : Below B w w1 :=
  hb.grown hg hB (fun k hk => (h.lt k hk).1)
theorem u8_snoc (l : List Int) (x : Int) : (l ++ [x]).map (Value.int .u8) = l.map (Value.int .u8) ++ [.int .u8 x] := by simp
end Go.Proofs.YtfcfcgeodghmpaaGreatDoor.T

namespace Go.Proofs.YtfcfcgeodghmpaaGreatDoor.T
open Go.RowKit
set_option linter.unusedVariables false
set_option linter.unusedSimpArgs false

def piecesF : Nat → List Int → List Int × Nat
  | 0, _ => ([], 0)
  | f + 1, r => match pieceP r with
    | none => ([], 0)
    | some (x, n) => (x :: (piecesF f (r.drop n)).1, n + (piecesF f (r.drop n)).2)
theorem pieceP_nil : pieceP [] = none := by decide
theorem pieceP_good {r : List Int} {x : Int} {n : Nat} (hb : U.isBytes r) (h : pieceP r = some (x, n)) : (1 ≤ n ∧ n ≤ r.length) ∧ 0 ≤ x ∧ x ≤ 255 := by
  unfold pieceP at h
  split at h
  · cases h
  · exact ⟨piece_good r x n hb h, piece_byte h⟩
theorem piecesF_nil : ∀ f, piecesF f [] = ([], 0) := by
  intro f
  cases f with
  | zero => rfl
  | succ f => simp only [piecesF, pieceP_nil]
theorem pieces_fuel : ∀ (f g : Nat) (r : List Int), U.isBytes r → r.length ≤ f → r.length ≤ g → piecesF f r = piecesF g r := by
  intro f
  induction f with
  | zero =>
    intro g r hb h1 h2
    have : r = [] := List.eq_nil_of_length_eq_zero (by omega)
    subst this
    rw [piecesF_nil, piecesF_nil]
  | succ f ih =>
    intro g r hb h1 h2
    cases g with
    | zero =>
      have : r = [] := List.eq_nil_of_length_eq_zero (by omega)
      subst this
      rw [piecesF_nil, piecesF_nil]
    | succ g =>
      simp only [piecesF]
      cases e : pieceP r with
      | none => rfl
      | some p =>
        obtain ⟨x, n⟩ := p
        have := pieceP_good hb e
        simp only
        rw [ih g (r.drop n) (U.isBytes_drop hb n) (by rw [List.length_drop]; omega) (by rw [List.length_drop]; omega)]
def piecesG (r : List Int) : List Int × Nat := piecesF r.length r
theorem pieces_no {r : List Int} (h : pieceP r = none) : piecesG r = ([], 0) := by
  unfold piecesG
  cases e : r.length with
  | zero => rfl
  | succ f => simp only [piecesF, h]
theorem pieces_yes {r : List Int} (hb : U.isBytes r) {x : Int} {n : Nat} (h : pieceP r = some (x, n)) : piecesG r = (x :: (piecesG (r.drop n)).1, n + (piecesG (r.drop n)).2) := by
  have hn := pieceP_good hb h
  unfold piecesG
  obtain ⟨k, hk⟩ : ∃ k, r.length = k + 1 := ⟨r.length - 1, by omega⟩
  rw [hk]
  simp only [piecesF, h]
  rw [pieces_fuel k (r.drop n).length (r.drop n) (U.isBytes_drop hb n) (by rw [List.length_drop]; omega) (Nat.le_refl _)]
theorem pieces_gather : ∀ (f : Nat) (r : List Int), U.isBytes r → r.length ≤ f →
    gatherL pieceL 34 r = if (r.drop (piecesG r).2).getD 0 0 = 34 then some ((piecesG r).1, (piecesG r).2 + 1) else none := by
  intro f
  induction f with
  | zero =>
    intro r hb h
    have : r = [] := List.eq_nil_of_length_eq_zero (by omega)
    subst this
    rw [pieces_no pieceP_nil, gather_nil, if_neg (by simp [List.getD])]
  | succ f ih =>
    intro r hb h
    by_cases hr : r = []
    · subst hr
      rw [pieces_no pieceP_nil, gather_nil, if_neg (by simp [List.getD])]
    · by_cases hst : r.getD 0 0 = 34
      · rw [pieces_no (by unfold pieceP; rw [if_pos hst]), gather_stop hr hst, List.drop_zero, if_pos hst]
      · have epl : pieceP r = pieceL r := by unfold pieceP; rw [if_neg hst]
        cases e : pieceL r with
        | none => rw [gather_bad hr hst e, pieces_no (epl.trans e), List.drop_zero, if_neg hst]
        | some p =>
          obtain ⟨x, n⟩ := p
          have hn := piece_good r x n hb e
          rw [gather_step piece_good hb hr hst e, ih (r.drop n) (U.isBytes_drop hb n) (by rw [List.length_drop]; omega), pieces_yes hb (epl.trans e), List.drop_drop]
          by_cases cc : (List.drop (n + (piecesG (r.drop n)).2) r).getD 0 0 = 34
          · rw [if_pos cc, if_pos cc]
            simp only [Option.some.injEq, Prod.mk.injEq, true_and]
            omega
          · rw [if_neg cc, if_neg cc]
theorem tok_lits {l : List Int} (hb : U.isBytes l) (h : l.getD 0 0 = 34) : tokL l = if (piecesG (l.drop 1)).1 ≠ [] ∧ (l.drop (1 + (piecesG (l.drop 1)).2)).getD 0 0 = 34 then some ((1, (piecesG (l.drop 1)).1, []), (piecesG (l.drop 1)).2 + 2) else none := by
  unfold tokL
  rw [h, if_neg (by decide), if_neg (by omega), if_neg (by decide), if_pos rfl, pieces_gather _ _ (U.isBytes_drop hb 1) (Nat.le_refl _), List.drop_drop]
  by_cases c : (List.drop (1 + (piecesG (l.drop 1)).2) l).getD 0 0 = 34
  · rw [if_pos c]
    simp only
    by_cases c2 : (piecesG (l.drop 1)).1 = []
    · rw [if_pos c2, if_neg (fun x => x.1 c2)]
    · rw [if_neg c2, if_pos ⟨c2, c⟩]
  · rw [if_neg c, if_neg (fun x => c x.2)]
theorem st_quote : St ⟨#[34]⟩ [34] := ⟨rfl, by intro z hz; simp at hz; omega⟩
set_option maxRecDepth 20000 in
set_option maxHeartbeats 4000000 in
theorem lit_l (a : Option Addr) (len cap : Nat) (l : List Int) (w : World) (h : Bs w a len cap l) (hl : len ≤ 100000) (hp : 1 ≤ len) (h0 : l.getD 0 0 = 34) :
    Calls Tryz.prog 76 #[.slice a len cap] w fun e w' => ∃ v n, e = .returned (.tuple #[v, .int .i64 (n : Nat)]) ∧ TokO w' v n (tokL l) ∧ Below w.heap.size w w' := by
  rw [tok_lits h.hbytes h0]
  generalize hO : (if (piecesG (l.drop 1)).1 ≠ [] ∧ (l.drop (1 + (piecesG (l.drop 1)).2)).getD 0 0 = 34 then some (((1, (piecesG (l.drop 1)).1, []) : Tk), (piecesG (l.drop 1)).2 + 2) else none) = O
  have HQ := hideR hO
  clear hO
  have hlen := h.hlen
  have hcap := h.hcap
  have HBB := hideR h.hbytes
  have HB := hideR (Bs.later h (Below.new1 zTok) (Nat.le_refl _))
  obtain ⟨ti, hi0, hz0, hz1, hz2⟩ := info_parts info_byte
  clear h h0
  unfold zTok at HB
  have hw0 : (w.alloc (.cells #[.int .i64 0, .string ⟨#[]⟩, .slice none 0 0, .int .i64 0] 102)).heap.size = w.heap.size + 1 := by simp
  go_enter Tryz.func76, Tryz.ntmps76
  go_wp2_with fail
  generalize hW : w.alloc (.cells #[.int .i64 0, .string ⟨#[]⟩, .slice none 0 0, .int .i64 0] 102) = W0 at *
  go_loopw [4, 5] (fun v j wr => ∃ (k : Nat) (acc : List Int), 1 ≤ k ∧ k ≤ len ∧ acc.length ≤ k ∧ j = .int .i64 (k : Int) ∧ U.isBytes acc ∧ Hid (piecesG (l.drop 1) = (acc ++ (piecesG (l.drop k)).1, (k - 1) + (piecesG (l.drop k)).2)) ∧ wr.ownsRow W0.heap.size 5 1 v acc.length (acc.map (Value.int .u8)) ∧ Below W0.heap.size W0 wr) (fun _ j _ => len - (intOf j).toNat)
  case atStart => exact ⟨1, [], Nat.le_refl _, hp, by simp, rfl, (fun z hz => by cases hz), by show _ = _; simp, World.ownsRow_nil _ _ _ _, Below.refl _ _⟩
  case round =>
    obtain ⟨k, acc, hk1, hk, hok, rfl, hby, hg, hown, hb⟩ := hrel
    have hB := Bs.later (unhideR HB) hb (Nat.le_refl _)
    have sl := tail_run a len cap k k rfl hk
    have CP := hideR (piece_l _ _ _ _ wr (Bs.dropA hB k hk) (by omega))
    have HO := hideR hown
    have HBW := hideR hB
    have hws := hb.size
    cases e1 : pieceP (l.drop k) with
    | none =>
      have HG : Hid (piecesG (l.drop 1) = (acc, k - 1)) := by
        show _ = _
        rw [hg.out, pieces_no e1]
        simp
      rw [e1] at CP
      replace CP : Hid (Calls Tryz.prog 119 #[.slice (dropA a cap k) (len - k) (cap - k)] wr fun e w' => e = .returned (.tuple #[.int .u8 0, .int .i64 0]) ∧ Below wr.heap.size wr w') := CP
      clear e1 hg HB hB hown HBB
      have HQ2 : Hid ((if acc ≠ [] ∧ (l.drop k).getD 0 0 = 34 then some (((1, acc, []) : Tk), k - 1 + 2) else none) = O) := by
        have := unhideR HQ
        rw [unhideR HG] at this
        simp only at this
        rw [show 1 + (k - 1) = k by omega] at this
        exact this
      clear HQ
      by_cases ca : acc = []
      · subst ca
        have eO : O = none := by rw [← unhideR HQ2, if_neg (fun x => x.1 rfl)]
        have EO := hideR eO
        clear HQ2 eO
        obtain ⟨p4, c4, e4, -⟩ := Bs.ofOwn hby (unhideR HO)
        simp only [List.length_nil] at e4
        clear HO
        subst e4
        go_wp2_with fail
        refine (unhideR CP).mono ?_
        rintro e w1 ⟨rfl, b1⟩
        clear CP
        have B3 := hb.trans (b1.mono hws)
        have HG2 : w1.heap[w.heap.size]? = some (.cells #[.int .i64 0, .string ⟨#[]⟩, .slice none 0 0, .int .i64 0] 102) := by rw [← hW] at B3; exact kept_new B3
        have B4 : Below w.heap.size w w1 := by rw [← hW] at B3; exact (Below.new1 _).trans (B3.mono (by simp))
        obtain ⟨⟨q0, q1, q2, q3⟩, f0, f1, f2, f3⟩ := cells4 HG2
        go_wp2_with fail
        (try simp only [Exit.inBlock, Exit.then])
        refine bodyPost_ret (v := .tuple #[zeroTok, .int .i64 (0 : Nat)]) ?_ rfl ⟨_, _, rfl, .inl ⟨unhideR EO, rfl, rfl⟩, ?_⟩
        · rw [results_cell_tmp rfl]
          go_simp
          try rfl
        · exact set4 B4 (Nat.le_refl _) _ _ _ _
      · have hal : 1 ≤ acc.length := by cases acc <;> simp_all
        have tl : ((acc.length : Int) == 0) = false := beq_eq_false_iff_ne.2 (by omega)
        have t2 := wrapI ((k : Int) + 1) (by omega)
        have CB := hideR (fun W (hB : Bs W a len cap l) => begins_l _ _ _ _ W (Bs.dropA hB k hk) ⟨#[34]⟩ [34] st_quote (by simp))
        rw [pre1_eq (by omega)] at CB
        obtain ⟨p4, c4, e4, -⟩ := Bs.ofOwn hby (unhideR HO)
        subst e4
        by_cases cq : (l.drop k).getD 0 0 = 34
        · have eO : O = some ((1, acc, []), k - 1 + 2) := by rw [← unhideR HQ2, if_pos ⟨ca, cq⟩]
          have EO := hideR eO
          clear HQ2 eO
          rw [decide_eq_true cq] at CB
          clear cq ca
          go_wp2_with fail
          refine (unhideR CP).mono ?_
          rintro e w1 ⟨rfl, b1⟩
          have HB1 := hideR (Bs.later (unhideR HBW) b1 (Nat.le_refl _))
          have HO1 := hideR (ownL b1 (unhideR HO))
          clear CP HO HBW
          go_wp2_with fail
          refine (unhideR CB _ (unhideR HB1)).mono ?_
          rintro e w2 ⟨rfl, b2⟩
          have ho2 := ownL b2 (unhideR HO1)
          clear CB HO1 HB1
          have B3 := (hb.trans (b1.mono hws)).trans (b2.mono (by have := b1.size; omega))
          have HG2 : w2.heap[w.heap.size]? = some (.cells #[.int .i64 0, .string ⟨#[]⟩, .slice none 0 0, .int .i64 0] 102) := by rw [← hW] at B3; exact kept_new B3
          have B4 : Below w.heap.size w w2 := by rw [← hW] at B3; exact (Below.new1 _).trans (B3.mono (by simp))
          obtain ⟨⟨q0, q1, q2, q3⟩, f0, f1, f2, f3⟩ := cells4 HG2
          obtain ⟨p5, c5, e5, bs5⟩ := Bs.ofOwn hby ho2
          injection e5 with e6 e7 e8
          subst e6 e8
          have cv := bs5.str
          have HT := hideR (fun (W : World) => TokV.plain W 1 acc 0)
          clear ho2 bs5 hby
          generalize strOfNums acc = S at *
          go_wp2_with fail
          (try simp only [Exit.inBlock, Exit.then])
          refine bodyPost_ret (v := .tuple #[.agg #[.int .i64 1, .string S, .slice none 0 0, .int .i64 0], .int .i64 ((k - 1 + 2 : Nat) : Int)]) ?_ rfl ⟨_, _, rfl, .inr ⟨_, unhideR EO, unhideR HT _⟩, ?_⟩
          · rw [results_cell_tmp rfl]
            go_simp
            omega
          · exact set4 B4 (Nat.le_refl _) _ _ _ _
        · have eO : O = none := by rw [← unhideR HQ2, if_neg (fun x => cq x.2)]
          have EO := hideR eO
          clear HQ2 eO
          rw [decide_eq_false cq] at CB
          clear cq ca
          go_wp2_with fail
          refine (unhideR CP).mono ?_
          rintro e w1 ⟨rfl, b1⟩
          have HB1 := hideR (Bs.later (unhideR HBW) b1 (Nat.le_refl _))
          clear CP HO HBW
          go_wp2_with fail
          refine (unhideR CB _ (unhideR HB1)).mono ?_
          rintro e w2 ⟨rfl, b2⟩
          clear CB HB1
          have B3 := (hb.trans (b1.mono hws)).trans (b2.mono (by have := b1.size; omega))
          have HG2 : w2.heap[w.heap.size]? = some (.cells #[.int .i64 0, .string ⟨#[]⟩, .slice none 0 0, .int .i64 0] 102) := by rw [← hW] at B3; exact kept_new B3
          have B4 : Below w.heap.size w w2 := by rw [← hW] at B3; exact (Below.new1 _).trans (B3.mono (by simp))
          obtain ⟨⟨q0, q1, q2, q3⟩, f0, f1, f2, f3⟩ := cells4 HG2
          go_wp2_with fail
          (try simp only [Exit.inBlock, Exit.then])
          refine bodyPost_ret (v := .tuple #[zeroTok, .int .i64 (0 : Nat)]) ?_ rfl ⟨_, _, rfl, .inl ⟨unhideR EO, rfl, rfl⟩, ?_⟩
          · rw [results_cell_tmp rfl]
            go_simp
            try rfl
          · exact set4 B4 (Nat.le_refl _) _ _ _ _
    | some p =>
      obtain ⟨z, n⟩ := p
      have gd := pieceP_good (U.isBytes_drop (unhideR HBB) k) e1
      rw [List.length_drop] at gd
      have HG : Hid (piecesG (l.drop 1) = ((acc ++ [z]) ++ (piecesG (l.drop (k + n))).1, (k + n - 1) + (piecesG (l.drop (k + n))).2)) := by
        show _ = _
        rw [hg.out, pieces_yes (U.isBytes_drop (unhideR HBB) k) e1, List.drop_drop]
        simp only [List.append_assoc, List.singleton_append, Prod.mk.injEq, true_and]
        omega
      have hby2 : U.isBytes (acc ++ [z]) := fun y hy => by
        rcases List.mem_append.1 hy with h | h
        · exact hby y h
        · simp at h; subst h; omega
      rw [e1] at CP
      replace CP : Hid (Calls Tryz.prog 119 #[.slice (dropA a cap k) (len - k) (cap - k)] wr fun e w' => e = .returned (.tuple #[.int .u8 z, .int .i64 (n : Int)]) ∧ Below wr.heap.size wr w') := CP
      have t0 : ((n : Int) == 0) = false := beq_eq_false_iff_ne.2 (by omega)
      clear e1 hg HB hB hown HBB HBW hby
      go_wp2_with fail
      refine (unhideR CP).mono ?_
      rintro e w1 ⟨rfl, b1⟩
      have own1 := ownL b1 (unhideR HO)
      have hb1 := hb.trans (b1.mono hws)
      have hs1 := hb1.size
      clear CP HO
      go_wp2_with (at_builtin; refine wpList_append_lies _ rfl _ _ 54 rfl W0.heap.size 5 ti _ 1 1 Tryz.underlying54 hi0 hz0 hz1 hz2 rfl (by omega) _ _ _ rfl (own1.alloc _) ⟨w1.heap.size, 0, none⟩ 1 1 [.int .u8 z] rfl rfl (new_byte _ _ _ rfl) (by simp [Value.oneCell']) (by omega) (by unfold maxLen; omega) (by omega) (by simp; omega) (w1.heap.size + 1) (by simp) ?_; intro gg cap1 w2 hown1 hgrow hat hlt1)
      go_roundw
      case rel => exact ⟨k + n, acc ++ [z], by omega, by omega, by simp; omega, by go_num, hby2, HG, by rw [u8_snoc, List.length_append]; exact hown1, grow_b (own1.alloc _) (hb1.alloc hs1 _) (by simp; omega) hgrow⟩
      case measure => simp [intOf]; omega
end Go.Proofs.YtfcfcgeodghmpaaGreatDoor.T

