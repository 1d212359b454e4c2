/- The contract of lines.Ends. -/
import Derived.Test.YtjjfeeclpidblaaLnBegin
namespace Go.Proofs.Ytjjfeeclpidblaa.Ln
open Go.RowKit Go.Shelf
set_option linter.unusedVariables false
set_option linter.unusedSimpArgs false

/-- between two rounds: the row of places so far, and the slice that is gone through -/
structure EI (w : World) (a : Option Addr) (n cap : Nat) (pre : List Int) (W : World) : Prop where
  bel : Below w.heap.size w W
  size : w.heap.size + 2 ≤ W.heap.size
  src : W.heap[w.heap.size + 1]? = some (boxB a n cap)
  ex : ∃ v, W.heap[w.heap.size]? = some (.cells #[v] 25) ∧ W.ownsRow (w.heap.size + 2) 3 1 v pre.length (intsV pre)
theorem EI.put {w : World} {a : Option Addr} {n cap : Nat} {pre : List Int} {W : World} (h : EI w a n cap pre W) {l : Nat} {o : Obj} (o' : Obj) (hl : w.heap.size + 2 ≤ l) (ho : W.heap[l]? = some o) (hc : o.isCells = false) : EI w a n cap pre (W.putObj l o') := by
  have hs := h.size
  obtain ⟨v, h1, h2⟩ := h.ex
  exact ⟨h.bel.grown (grownBy_putObj' W l o') (by omega) (fun k e => by cases e; omega), by simpa using hs, (World.putObj_heap_other (by omega)).trans h.src, v, (World.putObj_heap_other (by omega)).trans h1, ownsRow_putObj h2 o' ho hc⟩
theorem EI.alloc {w : World} {a : Option Addr} {n cap : Nat} {pre : List Int} {W : World} (h : EI w a n cap pre W) (o : Obj) : EI w a n cap pre (W.alloc o) := by
  have hs := h.size
  obtain ⟨v, h1, h2⟩ := h.ex
  exact ⟨h.bel.alloc (by omega) o, by simp; omega, (Below.heap_alloc _ _ _ (by omega)).trans h.src, v, (Below.heap_alloc _ _ _ (by omega)).trans h1, h2.alloc o⟩
/-- one place more -/
theorem EI.step {w : World} {a : Option Addr} {n cap : Nat} {pre : List Int} {x : Int} {W W3 : World} (h : EI w a n cap pre W) {v v' : Value} (o1 : Obj)
    (c0 : W.heap[w.heap.size]? = some (.cells #[v] 25)) (own : W.ownsRow (w.heap.size + 2) 3 1 v pre.length (intsV pre))
    (own3 : W3.ownsRow (w.heap.size + 2) 3 1 v' (pre.length + 1) (intsV pre ++ [.int .i64 x])) (hg : (W.alloc o1).grownBy W3 v.ownBlock) :
    KeepsFrom (w.heap.size + 2) W (W3.setCell ⟨w.heap.size, 0, none⟩ v') ∧ EI w a n cap (pre ++ [x]) (W3.setCell ⟨w.heap.size, 0, none⟩ v') := by
  have hs := h.size
  have hs3 := hg.size
  simp only [World.size_alloc] at hs3
  have keep : ∀ k, k < W.heap.size → some k ≠ v.ownBlock → W3.heap[k]? = W.heap[k]? := fun k hk hne => (hg.block k (by simp; omega) hne).trans (Below.heap_alloc _ _ _ (by omega))
  have k0 := (keep _ (by omega) (own_apart own c0 (by decide))).trans c0
  have k1 := (keep _ (by omega) (own_apart own h.src (by decide))).trans h.src
  refine ⟨(((KeepsOthers.alloc _ o1).trans (KeepsOthers.of_grownBy hg (own_cells (own.alloc o1)))).trans (KeepsOthers.setCell _ _ _)).from _,
    ((h.bel.alloc (by omega) o1).grown hg (by simp; omega) (fun k hk => by have := (own.lt k hk).1; omega)).setCell (by simp) _, by simp [World.setCell]; omega,
    (Below.heap_setCell _ _ _ _ (by simp)).trans k1, v', put_cell k0, ?_⟩
  have e : intsV (pre ++ [x]) = intsV pre ++ [.int .i64 x] := by simp [intsV]
  rw [e, List.length_append]
  exact ownsRow_setCell_below own3 (by simp) _

theorem end_at {N M : Nat} {W W' : World} {I : World → Prop} {a : Act} (hN : N = M) (h : KeepsFrom M W W' ∧ I W') : onlyEnd (fun W' => KeepsFrom N W W' ∧ I W') .normal a W' := by
  subst hN
  exact h
/-- what is left behind, once the loop's mark is taken away -/
theorem EI.over {w : World} {a : Option Addr} {n cap : Nat} {pre : List Int} {W : World} (h : EI w a n cap pre W) {k : Nat} {o : Obj} (o' : Obj) (hk : w.heap.size + 2 ≤ k) (hD : W.heap[k]? = some o) (hc : o.isCells = false) {v : Value} (c0 : W.heap[w.heap.size]? = some (.cells #[v] 25)) :
    (W.putObj k o').ownsRow w.heap.size 3 1 v pre.length (intsV pre) ∧ Below w.heap.size w (W.putObj k o') := by
  obtain ⟨v', h1, h2⟩ := h.ex
  have : v' = v := by
    rw [c0] at h1
    simp at h1
    exact h1.symm
  subst this
  exact ⟨ownsRow_putObj (own_mono h2 (by omega)) o' hD hc, h.bel.grown (grownBy_putObj' W _ _) h.bel.size (fun j hj => by cases hj; omega)⟩

attribute [local go_sem] Oper.semAt_some

set_option maxRecDepth 20000 in
set_option maxHeartbeats 2000000 in
theorem ends_own (a : Option Addr) (len cap : Nat) (l : List Int) (w : World) (h : Bs w a len cap l) (hs : len ≤ 1000000) :
    Calls Try.prog 12 #[.slice a len cap] w fun e w' => ∃ v, e = .returned v ∧ w'.ownsRow w.heap.size 3 1 v (endsI l).length (intsV (endsI l)) ∧ Below w.heap.size w w' := by
  have hl := h.hlen
  have hmax := h.hmax
  have hcap := h.hcap
  have C2 := hideR (fun W => behind_any a len cap W)
  have HB := hideR h
  clear h
  obtain ⟨i0, hi0, hz0, hz1, hz2⟩ := info_parts infoInt
  have hx31 : ∀ args w, (callFunc 31 args).run Try.prog w = .ok (.enter 31 args) w := enters_of Try.func31 (by kernel_rfl) rfl
  refine (callsIn_wide (n := 6)).1 ?_
  refine callsIn_of_wp_marks Try.func12 rfl trivial ?_ rfl
  simp only [Try.ntmps12, List.size_toArray, List.length_cons, List.length_nil, Nat.reduceAdd, Nat.reduceSub, Array.replicate_succ, Array.replicate_zero, List.push_toArray, List.append_toArray, List.nil_append, List.cons_append]
  gi_wp2_with fail
  refine ⟨trivial, ?_⟩
  refine (callsIn_wide.2 (unhideR C2 _)).mono ?_
  rintro e w2 ⟨rfl, hw2⟩
  rw [hw2]
  clear hw2 w2 C2
  have bel0 : Below w.heap.size w ((w.alloc (.cells #[.slice none 0 0] 25)).alloc (boxB a len cap)) := ((Below.refl _ w).alloc (Nat.le_refl _) _).alloc (by simp) _
  gi_wp2_with fail
  refine rangeClos (n := 6) (by omega) (gf := 31) (cs := #[.pointer (some ⟨w.heap.size + 1, 0, none⟩)]) rfl hx31 (feedsN l len) (EI w a len cap)
    (fun pre W l o o' hi hl ho hc => hi.put o' (by simp at hl; omega) ho hc) (fun pre W o hi => hi.alloc o) ?start
    (fun x => { tmps := #[.slice a len cap, undef, .slice none 0 0, .pointer (some ⟨w.heap.size, 0, none⟩), .int .i64 x, undef, .slice a len cap, feedF (w.heap.size + 1), .int .i64 x, undef, undef, undef, undef, undef, undef, undef, undef, undef, undef, undef, undef, undef, undef, undef, undef, undef, undef, undef, undef, undef, undef, undef, undef], defers := [] })
    ?assign ?body ?iter ?done
  case start =>
    exact ⟨bel0, by simp, alloc_at _ _ _ (by simp), _, (Below.heap_alloc _ _ _ (by simp)).trans (alloc_at _ _ _ rfl), World.ownsRow_nil _ _ _ _⟩
  case assign =>
    intro l x W K hK
    gi_wp2
    exact hK
  case iter =>
    intro lr W J hJI hY h0
    exact feeds_iter 5 (by omega) lr (w.heap.size + 1) a len cap l W J (fun pre W1 hj => ⟨(unhideR HB).later (hJI _ _ hj).bel (Nat.le_refl _), (hJI _ _ hj).src⟩) hY h0
  case body =>
    rintro lr pre x W hI ⟨rest, hrest⟩
    obtain ⟨v, c0, own⟩ := hI.ex
    have hbd : pre.length + 1 ≤ len := by
      have := feeds_bd l len
      rw [← hrest, List.length_append, List.length_cons] at this
      omega
    have g0 := (cell_of c0).1
    have hsz := hI.size
    have a0 := hideR (own_apart own c0 (by decide))
    have hI' := hideR hI
    have C0 := hideR c0
    have own' := hideR own
    clear hI c0 hrest bel0
    gi_wp2_with (gi_at_builtin; refine wpListIn_append_own _ rfl _ _ 25 rfl (w.heap.size + 2) 3 i0 _ 1 8 Try.underlying25 hi0 hz0 hz1 hz2 rfl (by omega) _ _ _ rfl (own.alloc _) ⟨W.heap.size, 0, none⟩ 1 1 [.int .i64 x] rfl rfl (new_int _ _ _ rfl) (by simp [Value.oneCell']) (by unfold maxLen; omega) (by omega) (by simp; omega) ?_; intro v' W3 hown3 hgrow _; obtain ⟨g', cap', rfl⟩ := ownsRow_succ hown3; have q2 := cell_of ((hgrow.block _ (by simp; omega) (unhideR a0)).trans ((Below.heap_alloc _ _ _ (by omega)).trans (unhideR C0))); obtain ⟨q2, q2f⟩ := q2)
    exact end_at (by simp) ((unhideR hI').step _ (unhideR C0) (unhideR own') hown3 hgrow)
  case done =>
    intro W hi hD
    obtain ⟨v, c0, own⟩ := hi.ex
    have g0 := (cell_of c0).1
    have hsz := hi.size
    have hi' := hideR hi
    have C0 := hideR c0
    have own' := hideR own
    simp only [World.size_alloc] at hD
    have HD := hideR hD
    obtain ⟨x, c, rfl⟩ := own_form own
    have hbd := feeds_bd l len
    have a0 := hideR (own_apart own c0 (by decide))
    generalize hF : feedsN l len = F at *
    by_cases hF0 : F = []
    · subst hF0
      have HE : Hid (endsI l = [] ++ [(len : Int)]) := by
        show _ = _
        rw [ends_lacks (by rw [hl, hF]; exact .inl rfl), hl, hF]
      simp only [List.length_nil] at own g0 c0 hbd
      clear hi c0 bel0 hF hD
      gi_wp2_with (gi_at_builtin; refine wpListIn_append_own _ rfl _ _ 25 rfl (w.heap.size + 2) 3 i0 _ 1 8 Try.underlying25 hi0 hz0 hz1 hz2 rfl (by omega) _ _ _ rfl (own.alloc _) ⟨W.heap.size, 0, none⟩ 1 1 [.int .i64 len] rfl rfl (new_int _ _ _ rfl) (by simp [Value.oneCell']) (by unfold maxLen; omega) (by omega) (by simp; omega) ?_; intro v' W3 hown3 hgrow _; obtain ⟨g', cap', rfl⟩ := ownsRow_succ hown3; have q2 := cell_of ((hgrow.block _ (by simp; omega) (unhideR a0)).trans ((Below.heap_alloc _ _ _ (by omega)).trans (unhideR C0))); obtain ⟨q2, q2f⟩ := q2)
      have st := (unhideR hi').step _ (unhideR C0) (unhideR own') hown3 hgrow
      simp only [Nat.zero_add] at st
      have hD2 := st.1.same _ _ (by simp) (unhideR HD) rfl
      refine ⟨by simp, .inl ⟨_, _, rfl, run_takeDeferred hD2, ?_⟩⟩
      have fin := st.2.over (.deferred none) (by simp) hD2 rfl (put_cell ((hgrow.block _ (by simp; omega) (unhideR a0)).trans ((Below.heap_alloc _ _ _ (by omega)).trans (unhideR C0))))
      exact ⟨_, results_tmp rfl _ _ _, _, rfl, by rw [unhideR HE]; exact fin.1, fin.2⟩
    · obtain ⟨m, hm⟩ : ∃ m, F.length = m + 1 := ⟨F.length - 1, by cases F <;> simp_all⟩
      obtain ⟨g, cg, hxc⟩ := ownsRow_succ (k := m) (by rw [← hm]; exact own)
      simp only [Value.slice.injEq] at hxc
      obtain ⟨rfl, hm', rfl⟩ := hxc
      have u1 := own.cellAt m (by omega)
      have u2 : (intsV F)[m]? = some (.int .i64 (F.getD m 0)) := by simp [intsV, List.getD, hm]
      rw [u2] at u1
      by_cases hlast : F.getD m 0 = (len : Int)
      · have HE : Hid (endsI l = F) := by
          show _ = _
          rw [ends_has (by rw [hl, hF]; exact hF0) (by rw [hl, hF, hm]; exact hlast), hl, hF]
        rw [hlast] at u1
        rw [hm] at g0
        clear hi c0 bel0 hF u2 hlast hm'
        gi_wp2_with fail
        refine ⟨by simp, .inl ⟨_, _, rfl, run_takeDeferred (unhideR HD), ?_⟩⟩
        have fin := (unhideR hi').over (.deferred none) (by simp) (unhideR HD) rfl (unhideR C0)
        exact ⟨_, results_tmp rfl _ _ _, _, rfl, by rw [unhideR HE]; rw [hm] at fin ⊢; exact fin.1, fin.2⟩
      · have HE : Hid (endsI l = F ++ [(len : Int)]) := by
          show _ = _
          rw [ends_lacks (by rw [hl, hF, hm]; exact .inr hlast), hl, hF]
        have e1 : (F.getD m 0 == (len : Int)) = false := by rw [beq_eq_false_iff_ne]; exact hlast
        have e2 : (F.getD m 0 != (len : Int)) = true := by rw [bne, e1]; rfl
        generalize F.getD m 0 = y at *
        rw [hm] at g0
        have ownm := own
        rw [hm] at ownm
        clear hi c0 bel0 hF u2 hlast hm'
        gi_wp2_with (gi_at_builtin; refine wpListIn_append_own _ rfl _ _ 25 rfl (w.heap.size + 2) 3 i0 _ 1 8 Try.underlying25 hi0 hz0 hz1 hz2 rfl (by omega) _ _ _ rfl (ownm.alloc _) ⟨W.heap.size, 0, none⟩ 1 1 [.int .i64 len] rfl rfl (new_int _ _ _ rfl) (by simp [Value.oneCell']) (by unfold maxLen; omega) (by omega) (by simp; omega) ?_; intro v' W3 hown3 hgrow _; obtain ⟨g', cap', rfl⟩ := ownsRow_succ hown3; have q2 := cell_of ((hgrow.block _ (by simp; omega) (unhideR a0)).trans ((Below.heap_alloc _ _ _ (by omega)).trans (unhideR C0))); obtain ⟨q2, q2f⟩ := q2)
        have st := (unhideR hi').step _ (unhideR C0) (unhideR own') (by rw [hm]; exact hown3) hgrow
        have hD2 := st.1.same _ _ (by simp) (unhideR HD) rfl
        refine ⟨by simp, .inl ⟨_, _, rfl, run_takeDeferred hD2, ?_⟩⟩
        have fin := st.2.over (.deferred none) (by simp) hD2 rfl (put_cell ((hgrow.block _ (by simp; omega) (unhideR a0)).trans ((Below.heap_alloc _ _ _ (by omega)).trans (unhideR C0))))
        exact ⟨_, results_tmp rfl _ _ _, _, rfl, by rw [unhideR HE]; exact fin.1, fin.2⟩

theorem ends_any (a : Option Addr) (len cap : Nat) (l : List Int) (w : World) (h : Bs w a len cap l) (hs : len ≤ 1000000) :
    Calls Try.prog 12 #[.slice a len cap] w fun e w' => ∃ x c, e = .returned (.slice x (endsI l).length c) ∧ Is4 w' x (endsI l).length c (endsI l) ∧ Below w.heap.size w w' :=
  (ends_own a len cap l w h hs).mono fun e w' ⟨v, he, ho, hb⟩ => by
    obtain ⟨x, c, rfl, hi⟩ := Is4.ofOwn ho
    exact ⟨x, c, he, hi, hb⟩

end Go.Proofs.Ytjjfeeclpidblaa.Ln
