/- The iterator of the borders of two sets: what it yields, whatever the loop's body does with its own memory. -/
import Derived.Test.YtdaadeohamkoiaaGreatDoorRgPair
import Derived.RangeFuncNested
import Derived.RangeFuncCalls
import Derived.RangeFuncLeaves
import Derived.Shelf.Abstract
import Derived.Shelf.RegionOpen
import Derived.OwnWalkIn
import Derived.TacticsInMore
import Derived.LoopNIn
import Derived.LoopIn
import Derived.Sort.QuietIn
namespace Go.Proofs.YtdaadeohamkoiaaGreatDoor
open Go.RowKit Go.Shelf
set_option linter.unusedVariables false

namespace G
theorem bs_le {l : List (Int × Int)} (h : mayB l = true) {x : Int} (hx : x ∈ bs l) : 0 ≤ x ∧ x ≤ 1114112 := by
  have := up_mem (bs_up h) hx; omega
end G

theorem bord_lt {l : List (Int × Int)} (h : G.mayB l = true) {p : Nat} (hp : p < (G.bs l).length) : 0 ≤ bord l p ∧ bord l p ≤ 1114112 ∧ (G.bs l).drop p = bord l p :: (G.bs l).drop (p + 1) := by
  have e : bord l p = (G.bs l)[p] := by unfold bord; rw [List.getD_eq_getElem?_getD, List.getElem?_eq_getElem hp]; rfl
  rw [e]
  have := G.bs_le h (List.getElem_mem hp)
  exact ⟨this.1, this.2, List.drop_eq_getElem_cons hp⟩
theorem bord_ge {l : List (Int × Int)} {p : Nat} (hp : (G.bs l).length ≤ p) : bord l p = 1114113 ∧ (G.bs l).drop p = [] := by
  refine ⟨?_, List.drop_of_length_le hp⟩
  unfold bord
  rw [List.getD_eq_getElem?_getD, List.getElem?_eq_none hp]; rfl

/-- what is left to be yielded, by the next border of each -/
theorem mrg_next {A B : List (Int × Int)} (ha : G.mayB A = true) (hb : G.mayB B = true) (p q : Nat) (hp : p ≤ (G.bs A).length) (hq : q ≤ (G.bs B).length) :
    (bord A p = 1114113 ∧ bord B q = 1114113 ∧ G.mrg ((G.bs A).drop p) ((G.bs B).drop q) = []) ∨
    (bord A p < bord B q ∧ p + 1 ≤ (G.bs A).length ∧ bord A p ≤ 1114112 ∧ 0 ≤ bord A p ∧ bord B q ≤ 1114113 ∧ G.mrg ((G.bs A).drop p) ((G.bs B).drop q) = bord A p :: G.mrg ((G.bs A).drop (p + 1)) ((G.bs B).drop q)) ∨
    (bord B q < bord A p ∧ q + 1 ≤ (G.bs B).length ∧ bord B q ≤ 1114112 ∧ 0 ≤ bord B q ∧ bord A p ≤ 1114113 ∧ G.mrg ((G.bs A).drop p) ((G.bs B).drop q) = bord B q :: G.mrg ((G.bs A).drop p) ((G.bs B).drop (q + 1))) ∨
    (bord A p = bord B q ∧ p + 1 ≤ (G.bs A).length ∧ q + 1 ≤ (G.bs B).length ∧ bord A p ≤ 1114112 ∧ 0 ≤ bord A p ∧ G.mrg ((G.bs A).drop p) ((G.bs B).drop q) = bord A p :: G.mrg ((G.bs A).drop (p + 1)) ((G.bs B).drop (q + 1))) := by
  by_cases h1 : p < (G.bs A).length
  · obtain ⟨a0, a1, a2⟩ := bord_lt ha h1
    by_cases h2 : q < (G.bs B).length
    · obtain ⟨b0, b1, b2⟩ := bord_lt hb h2
      rw [a2, b2, G.mrg_cons]
      by_cases c1 : bord A p < bord B q
      · right; left; rw [if_pos c1]; exact ⟨c1, by omega, a1, a0, by omega, rfl⟩
      · by_cases c2 : bord B q < bord A p
        · right; right; left; rw [if_neg c1, if_pos c2]; exact ⟨c2, by omega, b1, b0, by omega, rfl⟩
        · right; right; right; rw [if_neg c1, if_neg c2]; exact ⟨by omega, by omega, by omega, a1, a0, rfl⟩
    · obtain ⟨b1, b2⟩ := bord_ge (l := B) (p := q) (by omega)
      right; left
      rw [a2, b2, b1, G.mrg_nil, G.mrg_nil]
      exact ⟨by omega, by omega, a1, a0, by omega, rfl⟩
  · obtain ⟨a1, a2⟩ := bord_ge (l := A) (p := p) (by omega)
    by_cases h2 : q < (G.bs B).length
    · obtain ⟨b0, b1, b2⟩ := bord_lt hb h2
      right; right; left
      rw [a2, b2, a1]
      exact ⟨by omega, by omega, b1, b0, by omega, by simp [G.mrg_left]⟩
    · obtain ⟨b1, b2⟩ := bord_ge (l := B) (p := q) (by omega)
      left
      rw [a2, b2]
      exact ⟨a1, b1, by simp [G.mrg_left]⟩

theorem Rs.drewN {w : World} {a : Option Addr} {len cap : Nat} {l : List (Int × Int)} (h : Rs w a len cap l) (k : Nat) : Rs (w.drewN k) a len cap l :=
  ⟨h.hlen, h.hcap, h.hmax, h.hfit, fun i hi => by
    obtain ⟨b, off, ha, h1, h2⟩ := h.hcell i hi
    exact ⟨b, off, ha, by simpa using h1, by simpa using h2⟩⟩

attribute [local go_sem] Oper.semAt_some

set_option maxHeartbeats 2000000 in
theorem borders_iter (n : Nat) (hn : 3 ≤ n) (lr : Nat) (a : Option Addr) (la ca : Nat) (A : List (Int × Int)) (b : Option Addr) (lb cb : Nat) (B : List (Int × Int)) (W : World) (J : List Int → World → Prop)
    (hP : ∀ pre W1, J pre W1 → Pr W1 a la ca A b lb cb B)
    (hD : ∀ pre W1 k, J pre W1 → J pre (W1.drewN k))
    (hY : ∀ pre x W1, J pre W1 → W1.heap[W.heap.size]? = some (boxPr a la ca b lb cb) → (∃ rest, pre ++ x :: rest = G.mrg (G.bs A) (G.bs B)) → YieldAt Fence.wide (n - 1) Tryz.prog lr #[.int .i64 x] W1 fun e W' => e = .returned (.bool true) ∧ J (pre ++ [x]) W' ∧ W'.heap[W.heap.size]? = some (boxPr a la ca b lb cb))
    (h0 : J [] (W.alloc (boxPr a la ca b lb cb))) :
    CallsIn Fence.wide n Tryz.prog 158 #[.agg #[.slice a la ca, .slice b lb cb], .func (.yield lr) #[] #[]] W fun e W' => (∃ v, e = .returned v) ∧ J (G.mrg (G.bs A) (G.bs B)) W' := by
  have h1n : 1 ≤ n := by omega
  have h1m : 1 ≤ n - 1 := by omega
  have hma := (hP _ _ h0).ma
  have hmb := (hP _ _ h0).mb
  have hla := (hP _ _ h0).ha.hlen
  have hlb := (hP _ _ h0).hb.hlen
  have bA := G.bs_length A
  have bB := G.bs_length B
  have lA := G.may_length hma
  have lB := G.may_length hmb
  have hY' := hideR hY
  have hP' := hideR hP
  have hD' := hideR hD
  clear hY hP hD
  refine callsIn_of_wp Tryz.func158 rfl trivial ?_ rfl
  simp only [Tryz.ntmps158, List.size_toArray, List.length_cons, List.length_nil, Nat.reduceAdd, Nat.reduceSub, Array.replicate_succ, Array.replicate_zero, List.push_toArray, List.append_toArray, List.nil_append, List.cons_append]
  gi_wp2
  gi_loopw [4, 5] (fun i j wr => ∃ (p q : Nat) (pre : List Int), p ≤ (G.bs A).length ∧ q ≤ (G.bs B).length ∧ i = .int .i64 p ∧ j = .int .i64 q ∧ Hid (pre ++ G.mrg ((G.bs A).drop p) ((G.bs B).drop q) = G.mrg (G.bs A) (G.bs B)) ∧ J pre wr ∧ Hid (wr.heap[W.heap.size]? = some (boxPr a la ca b lb cb))) (fun i j _ => ((G.bs A).length - (intOf i).toNat) + ((G.bs B).length - (intOf j).toNat))
  case atStart =>
    refine ⟨0, 0, [], Nat.zero_le _, Nat.zero_le _, rfl, rfl, by show _ = _; simp, h0, ?_⟩
    exact heap_alloc_new W _
  case round =>
    obtain ⟨p, q, pre, hp, hq, rfl, rfl, hrem, hJ, hbox⟩ := hrel
    have cA : ∀ k, Calls Tryz.prog 188 #[.slice a la ca, .int .i64 p] (wr.drewN k) fun e w' => e = .returned (.int .i64 (bord A p)) ∧ w' = wr.drewN k := fun k => border_any a la ca A p _ ((unhideR hP' _ _ hJ).ha.drewN k) hma (by omega)
    have cB : ∀ k, Calls Tryz.prog 188 #[.slice b lb cb, .int .i64 q] (wr.drewN k) fun e w' => e = .returned (.int .i64 (bord B q)) ∧ w' = wr.drewN k := fun k => border_any b lb cb B q _ ((unhideR hP' _ _ hJ).hb.drewN k) hmb (by omega)
    have hnx := mrg_next hma hmb p q hp hq
    generalize hx : bord A p = x at *
    generalize hy : bord B q = y at *
    clear hx hy
    have cc : ∀ (v : Value) (i z : Int) (k : Nat), ((v = .slice a la ca ∧ i = p ∧ z = x) ∨ (v = .slice b lb cb ∧ i = q ∧ z = y)) → Calls Tryz.prog 188 #[v, .int .i64 i] (wr.drewN k) fun e w' => e = .returned (.int .i64 z) ∧ w' = wr.drewN k := by
      rintro v i z k (⟨rfl, rfl, rfl⟩ | ⟨rfl, rfl, rfl⟩)
      · exact cA k
      · exact cB k
    have CC := hideR cc
    clear cA cB cc
    have k1 : ∀ k, (wr.drewN k).cell? ⟨W.heap.size, 0, none⟩ = some (.slice a la ca) := by
      intro k
      simp [World.cell?, hbox.out]
    have k2 : ∀ k, (wr.drewN k).cell? ⟨W.heap.size, 1, none⟩ = some (.slice b lb cb) := by
      intro k
      simp [World.cell?, hbox.out]
    gi_wp2
    have hfw : ∀ f, Fence.wide.fn f := fun _ => trivial
    gi_quiet ((gi_at_call 188; first | exact CallsIn.quiet_of_same (callsIn_wide.2 (unhideR CC _ _ x _ (.inl ⟨rfl, rfl, rfl⟩))) | exact CallsIn.quiet_of_same (callsIn_wide.2 (unhideR CC _ _ y _ (.inr ⟨rfl, rfl, rfl⟩)))))
    have hJ2 := unhideR hD' _ _ nq hJ
    have hbox2 : Hid ((wr.drewN nq).heap[W.heap.size]? = some (boxPr a la ca b lb cb)) := by show _ = _; simpa using hbox.out
    clear k1 k2 CC hbox
    rcases hnx with ⟨rfl, rfl, hm⟩ | ⟨hxy, hp1, hx1, hx0, hy1, hm⟩ | ⟨hxy, hq1, hy1, hy0, hx1, hm⟩ | ⟨rfl, hp1, hq1, hx1, hx0, hm⟩
    · have hm := hideR hm
      have fin : Hid (pre = G.mrg (G.bs A) (G.bs B)) := by
        show _ = _
        rw [← hrem.out, hm.out, List.append_nil]
      clear hY' hP' hD'
      gi_wp2
      refine bodyPost_ret (results_none rfl _ _ _) rfl ?_
      refine ⟨⟨_, rfl⟩, ?_⟩
      rw [← fin.out]; exact hJ2
    · have hm := hideR hm
      obtain ⟨fn, tmps, assign, body, hy, hR⟩ := unhideR hY' pre x _ hJ2 hbox2.out ⟨_, by rw [← hm.out]; exact hrem.out⟩
      clear hY' hP' hD'
      have e1 : (x == 1114113) = false := by rw [beq_eq_false_iff_ne]; omega
      have e2 : (y == x) = false := by rw [beq_eq_false_iff_ne]; omega
      gi_wp2
      refine hR.mono ?_
      rintro e W3 ⟨rfl, hJ3, hbox3⟩
      have hbox3' := hideR hbox3
      clear hbox3 hR hy
      gi_wp2
      go_roundw
      case rel =>
        refine ⟨p + 1, q, pre ++ [x], by omega, by omega, by go_num, rfl, ?_, hJ3, hbox3'⟩
        show _ = _
        rw [← hrem.out, hm.out]; simp
      case measure => simp [intOf]; omega
    · have hm := hideR hm
      obtain ⟨fn, tmps, assign, body, hy, hR⟩ := unhideR hY' pre y _ hJ2 hbox2.out ⟨_, by rw [← hm.out]; exact hrem.out⟩
      clear hY' hP' hD'
      have e1 : (y == 1114113) = false := by rw [beq_eq_false_iff_ne]; omega
      have e2 : (x == y) = false := by rw [beq_eq_false_iff_ne]; omega
      gi_wp2
      refine hR.mono ?_
      rintro e W3 ⟨rfl, hJ3, hbox3⟩
      have hbox3' := hideR hbox3
      clear hbox3 hR hy
      gi_wp2
      go_roundw
      case rel =>
        refine ⟨p, q + 1, pre ++ [y], by omega, by omega, rfl, by go_num, ?_, hJ3, hbox3'⟩
        show _ = _
        rw [← hrem.out, hm.out]; simp
      case measure => simp [intOf]; omega
    · have hm := hideR hm
      obtain ⟨fn, tmps, assign, body, hy, hR⟩ := unhideR hY' pre x _ hJ2 hbox2.out ⟨_, by rw [← hm.out]; exact hrem.out⟩
      clear hY' hP' hD'
      have e1 : (x == 1114113) = false := by rw [beq_eq_false_iff_ne]; omega
      gi_wp2
      refine hR.mono ?_
      rintro e W3 ⟨rfl, hJ3, hbox3⟩
      have hbox3' := hideR hbox3
      clear hbox3 hR hy
      gi_wp2
      go_roundw
      case rel =>
        refine ⟨p + 1, q + 1, pre ++ [x], by omega, by omega, by go_num, by go_num, ?_, hJ3, hbox3'⟩
        show _ = _
        rw [← hrem.out, hm.out]; simp
      case measure => simp [intOf]; omega

end Go.Proofs.YtdaadeohamkoiaaGreatDoor
