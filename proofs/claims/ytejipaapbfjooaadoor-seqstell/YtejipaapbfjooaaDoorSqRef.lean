/- The contracts of the document's answers for layer 3: split. -/
import Derived.Test.YtejipaapbfjooaaDoorSqLBase
import Derived.Test.YtejipaapbfjooaaDoorRgSame
import Derived.Deep.QuietTactic
import Derived.BigQuiet
namespace Go.Proofs.YtejipaapbfjooaaDoor
open Go.RowKit
set_option linter.unusedVariables false
set_option linter.unusedSimpArgs false

theorem cell_box (w : World) (nq : Nat) (lo hi : Int) (o : Obj) : (((w.alloc (boxRg lo hi)).drewN nq).alloc o).cell? ⟨w.heap.size, 1, none⟩ = some (.int .i64 hi) := by
  rw [World.cell?_alloc_past _ _ _ (by simp)]
  show (w.alloc (boxRg lo hi)).cell? ⟨w.heap.size, 1, none⟩ = _
  rw [World.cell?_alloc_at _ _ _ _ rfl]; rfl
theorem far1 {w : World} {nq g : Nat} {o1 o2 : Obj} (h : (Value.slice none 0 0).ownBlock = some g ∨ g = (((w.alloc o1).drewN nq).alloc o2).heap.size) : w.heap.size < g := by
  rcases h with h | rfl
  · simp [Value.ownBlock] at h
  · simp; omega
theorem far2 {b g1 n c g2 : Nat} {w1 : World} {o : Obj} (hg1 : b < g1) (hb : b < w1.heap.size) (h : (Value.slice (some ⟨g1, 0, none⟩) n c).ownBlock = some g2 ∨ g2 = (w1.alloc o).heap.size) : b < g2 := by
  rcases h with h | rfl
  · simp [Value.ownBlock] at h; omega
  · simp; omega
theorem keep1 {w w1 : World} {nq : Nat} {lo hi : Int} {o : Obj} (hg : (((w.alloc (boxRg lo hi)).drewN nq).alloc o).grownBy w1 (Value.slice none 0 0).ownBlock) : w1.cell? ⟨w.heap.size, 1, none⟩ = some (.int .i64 hi) :=
  hg.cell (cell_box w nq lo hi o) (by simp [Value.ownBlock])
theorem keep2 {w1 w2 : World} {b g1 n c : Nat} {v : Value} {o : Obj} (k : w1.cell? ⟨b, 1, none⟩ = some v) (hlt : b < g1) (hg : (w1.alloc o).grownBy w2 (Value.slice (some ⟨g1, 0, none⟩) n c).ownBlock) : w2.cell? ⟨b, 1, none⟩ = some v :=
  hg.cell ((World.cell?_alloc_past _ _ _ (block_lt' k)).trans k) (by simp [Value.ownBlock]; omega)

set_option maxRecDepth 20000 in
set_option maxHeartbeats 2000000 in
theorem rsplit64_one (lo hi : Int) (w : World) (h0 : 0 ≤ lo) (h1 : lo ≤ hi) (h2 : hi ≤ 1114111) (hq : lo / 64 = hi / 64) :
    Calls Tryd.prog 30 #[.agg #[.int .i64 lo, .int .i64 hi], .int .i64 64] w (LiO w (Q.cutL 64 (lo, hi))) := by
  obtain ⟨i0, hi0, hz0, hz1, hz2⟩ := info_parts infoRg
  have st : Hid ([(lo, hi)] = Q.cutL 64 (lo, hi)) := by show _ = _; rw [cut_one hq]
  go_enter Tryd.func30, Tryd.ntmps30
  go_wp2_with fail
  go_quiet (fail)
  go_wp2_with (at_builtin; (refine wpList_append_lies _ rfl _ _ 22 rfl w.heap.size 41 i0 _ 2 16 Tryd.underlying22 hi0 hz0 hz1 hz2 rfl (by omega) _ _ _ rfl (World.ownsRow_nil _ _ 41 2) _ 1 1 [.int .i64 lo, .int .i64 hi] rfl rfl (new_cells _ _ _ _ (by simp)) (by simp [Value.oneCell']) (by omega) (by unfold maxLen; omega) (by omega) (by simp <;> omega) _ rfl ?_; intro g1 c1 w1 hown1 hgrow1 hat1 hlt1; have k1 := keep1 hgrow1; have fr1 := far1 hat1))
  go_ret
  have bw0 : Below w.heap.size w ((w.alloc (boxRg lo hi)).drewN nq) := (Below.new1 _).trans draws_below'
  have bs0 := bw0.size
  have bw1 := below_grow (World.ownsRow_nil _ _ 41 2) (bw0.alloc bs0 _) (by simp at bs0 ⊢; omega) hgrow1
  exact ⟨_, rfl, by rw [← st.out]; exact hown1, bw1⟩

set_option maxRecDepth 20000 in
set_option maxHeartbeats 2000000 in
theorem rsplit64_111 (lo hi F B : Int) (w : World) (h0 : 0 ≤ lo) (h1 : lo ≤ hi) (h2 : hi ≤ 1114111) (hq : (lo / 64 == hi / 64) = false) (hF : (lo + 64 - 1) / 64 * 64 = F) (hB : (hi + 1) / 64 * 64 = B) (hp : lo % 64 = 0) (hl : hi % 64 = 63) (hr : F ≤ B - 1) :
    Calls Tryd.prog 30 #[.agg #[.int .i64 lo, .int .i64 hi], .int .i64 64] w (LiO w (Q.cutL 64 (lo, hi))) := by
  obtain ⟨i0, hi0, hz0, hz1, hz2⟩ := info_parts infoRg
  have st : Hid ([(lo, hi)] = Q.cutL 64 (lo, hi)) := by
    show _ = _
    rw [cut_tri hq, hF, hB, tri_n2 (by omega), tri_y1 hr, tri_n0 (by omega), tri_z]
    simp only [List.nil_append, List.cons_append]
    rw [show F = lo by omega, show B - 1 = hi by omega]
  have e1 : ((lo % 64 != 0) : Bool) = false := by simp [hp]
  have e2 : ((hi % 64 != 64 - 1) : Bool) = false := by simp [hl]
  have e2' : ((hi % 64 != 63) : Bool) = false := by simp [hl]
  have e7 : (lo ≤ hi) := by omega
  have e8 : ¬ (hi < hi) := by omega
  have bF : 0 ≤ F ∧ F ≤ 2000000 := by omega
  have bB : 0 ≤ B ∧ B ≤ 2000000 := by omega
  obtain ⟨bF0, bF1⟩ := bF
  obtain ⟨bB0, bB1⟩ := bB
  clear hF hB hp hl hr
  go_enter Tryd.func30, Tryd.ntmps30
  go_wp2_with fail
  go_quiet (fail)
  go_wp2_with (at_builtin; first | (refine wpList_append_lies _ rfl _ _ 22 rfl w.heap.size 41 i0 _ 2 16 Tryd.underlying22 hi0 hz0 hz1 hz2 rfl (by omega) _ _ _ rfl (World.ownsRow_nil _ _ 41 2) _ 1 1 [.int .i64 lo, .int .i64 hi] rfl rfl (new_cells _ _ _ _ (by simp)) (by simp [Value.oneCell']) (by omega) (by unfold maxLen; omega) (by omega) (by simp <;> omega) _ rfl ?_; intro g1 c1 w1 hown1 hgrow1 hat1 hlt1; have k1 := keep1 hgrow1; have fr1 := far1 hat1))
  go_ret
  have bw0 : Below w.heap.size w ((w.alloc (boxRg lo hi)).drewN nq) := (Below.new1 _).trans draws_below'
  have bs0 := bw0.size
  have bw1 := below_grow (World.ownsRow_nil _ _ 41 2) (bw0.alloc bs0 _) (by simp at bs0 ⊢; omega) hgrow1
  exact ⟨_, rfl, by rw [← st.out]; exact hown1, bw1⟩

set_option maxRecDepth 20000 in
set_option maxHeartbeats 2000000 in
theorem rsplit64_101 (lo hi F B : Int) (w : World) (h0 : 0 ≤ lo) (h1 : lo ≤ hi) (h2 : hi ≤ 1114111) (hq : (lo / 64 == hi / 64) = false) (hF : (lo + 64 - 1) / 64 * 64 = F) (hB : (hi + 1) / 64 * 64 = B) (hp : lo % 64 = 0) (hl : hi % 64 ≠ 63) (hr : F ≤ B - 1) :
    Calls Tryd.prog 30 #[.agg #[.int .i64 lo, .int .i64 hi], .int .i64 64] w (LiO w (Q.cutL 64 (lo, hi))) := by
  obtain ⟨i0, hi0, hz0, hz1, hz2⟩ := info_parts infoRg
  have st : Hid ([(lo, (B - 1)), (B, hi)] = Q.cutL 64 (lo, hi)) := by
    show _ = _
    rw [cut_tri hq, hF, hB, tri_y2 (by omega), tri_y1 hr, tri_n0 (by omega), tri_z]
    simp only [List.nil_append, List.cons_append]
    rw [show F = lo by omega]
  have e1 : ((lo % 64 != 0) : Bool) = false := by simp [hp]
  have e2 : ((hi % 64 != 64 - 1) : Bool) = true := by simp [hl]
  have e2' : ((hi % 64 != 63) : Bool) = true := by simp [hl]
  have e5 : hi / 64 * 64 - 1 = B - 1 := by omega
  have e6 : B - 1 + 1 = B := by omega
  have e7 : (lo ≤ B - 1) := by omega
  have e8 : (B - 1 < hi) := by omega
  have bF : 0 ≤ F ∧ F ≤ 2000000 := by omega
  have bB : 0 ≤ B ∧ B ≤ 2000000 := by omega
  obtain ⟨bF0, bF1⟩ := bF
  obtain ⟨bB0, bB1⟩ := bB
  clear hF hB hp hl hr
  go_enter Tryd.func30, Tryd.ntmps30
  go_wp2_with fail
  go_quiet (fail)
  go_wp2_with (at_builtin; first | (refine wpList_append_lies _ rfl _ _ 22 rfl w.heap.size 41 i0 _ 2 16 Tryd.underlying22 hi0 hz0 hz1 hz2 rfl (by omega) _ _ _ rfl (hown1.alloc _) _ 1 1 [.int .i64 B, .int .i64 hi] rfl rfl (new_cells _ _ _ _ (by simp)) (by simp [Value.oneCell']) (by omega) (by unfold maxLen; omega) (by omega) (by have hs := hgrow1.size; simp at hs ⊢ <;> omega) _ rfl ?_; intro g2 c2 w2 hown2 hgrow2 hat2 hlt2; have k2 := keep2 k1 fr1 hgrow2; have fr2 := far2 fr1 (block_lt' k1) hat2) | (refine wpList_append_lies _ rfl _ _ 22 rfl w.heap.size 41 i0 _ 2 16 Tryd.underlying22 hi0 hz0 hz1 hz2 rfl (by omega) _ _ _ rfl (World.ownsRow_nil _ _ 41 2) _ 1 1 [.int .i64 lo, .int .i64 (B - 1)] rfl rfl (new_cells _ _ _ _ (by simp)) (by simp [Value.oneCell']) (by omega) (by unfold maxLen; omega) (by omega) (by simp <;> omega) _ rfl ?_; intro g1 c1 w1 hown1 hgrow1 hat1 hlt1; have k1 := keep1 hgrow1; have fr1 := far1 hat1))
  go_ret
  have bw0 : Below w.heap.size w ((w.alloc (boxRg lo hi)).drewN nq) := (Below.new1 _).trans draws_below'
  have bs0 := bw0.size
  have bw1 := below_grow (World.ownsRow_nil _ _ 41 2) (bw0.alloc bs0 _) (by simp at bs0 ⊢; omega) hgrow1
  have bs1 := bw1.size
  have bw2 := below_grow (hown1.alloc _) (bw1.alloc bs1 _) (by simp at bs1 ⊢; omega) hgrow2
  exact ⟨_, rfl, by rw [← st.out]; exact hown2, bw2⟩

set_option maxRecDepth 20000 in
set_option maxHeartbeats 2000000 in
theorem rsplit64_100 (lo hi F B : Int) (w : World) (h0 : 0 ≤ lo) (h1 : lo ≤ hi) (h2 : hi ≤ 1114111) (hq : (lo / 64 == hi / 64) = false) (hF : (lo + 64 - 1) / 64 * 64 = F) (hB : (hi + 1) / 64 * 64 = B) (hp : lo % 64 = 0) (hl : hi % 64 ≠ 63) (hr : ¬ F ≤ B - 1) :
    Calls Tryd.prog 30 #[.agg #[.int .i64 lo, .int .i64 hi], .int .i64 64] w (LiO w (Q.cutL 64 (lo, hi))) := by
  obtain ⟨i0, hi0, hz0, hz1, hz2⟩ := info_parts infoRg
  have st : Hid ([(B, hi)] = Q.cutL 64 (lo, hi)) := by
    show _ = _
    rw [cut_tri hq, hF, hB, tri_y2 (by omega), tri_n1 hr, tri_n0 (by omega), tri_z]
    simp only [List.nil_append, List.cons_append]
  have e1 : ((lo % 64 != 0) : Bool) = false := by simp [hp]
  have e2 : ((hi % 64 != 64 - 1) : Bool) = true := by simp [hl]
  have e2' : ((hi % 64 != 63) : Bool) = true := by simp [hl]
  have e5 : hi / 64 * 64 - 1 = B - 1 := by omega
  have e6 : B - 1 + 1 = B := by omega
  have e7 : ¬ (lo ≤ B - 1) := by omega
  have e8 : (B - 1 < hi) := by omega
  have bF : 0 ≤ F ∧ F ≤ 2000000 := by omega
  have bB : 0 ≤ B ∧ B ≤ 2000000 := by omega
  obtain ⟨bF0, bF1⟩ := bF
  obtain ⟨bB0, bB1⟩ := bB
  clear hF hB hp hl hr
  go_enter Tryd.func30, Tryd.ntmps30
  go_wp2_with fail
  go_quiet (fail)
  go_wp2_with (at_builtin; first | (refine wpList_append_lies _ rfl _ _ 22 rfl w.heap.size 41 i0 _ 2 16 Tryd.underlying22 hi0 hz0 hz1 hz2 rfl (by omega) _ _ _ rfl (World.ownsRow_nil _ _ 41 2) _ 1 1 [.int .i64 B, .int .i64 hi] rfl rfl (new_cells _ _ _ _ (by simp)) (by simp [Value.oneCell']) (by omega) (by unfold maxLen; omega) (by omega) (by simp <;> omega) _ rfl ?_; intro g1 c1 w1 hown1 hgrow1 hat1 hlt1; have k1 := keep1 hgrow1; have fr1 := far1 hat1))
  go_ret
  have bw0 : Below w.heap.size w ((w.alloc (boxRg lo hi)).drewN nq) := (Below.new1 _).trans draws_below'
  have bs0 := bw0.size
  have bw1 := below_grow (World.ownsRow_nil _ _ 41 2) (bw0.alloc bs0 _) (by simp at bs0 ⊢; omega) hgrow1
  exact ⟨_, rfl, by rw [← st.out]; exact hown1, bw1⟩

set_option maxRecDepth 20000 in
set_option maxHeartbeats 2000000 in
theorem rsplit64_011 (lo hi F B : Int) (w : World) (h0 : 0 ≤ lo) (h1 : lo ≤ hi) (h2 : hi ≤ 1114111) (hq : (lo / 64 == hi / 64) = false) (hF : (lo + 64 - 1) / 64 * 64 = F) (hB : (hi + 1) / 64 * 64 = B) (hp : lo % 64 ≠ 0) (hl : hi % 64 = 63) (hr : F ≤ B - 1) :
    Calls Tryd.prog 30 #[.agg #[.int .i64 lo, .int .i64 hi], .int .i64 64] w (LiO w (Q.cutL 64 (lo, hi))) := by
  obtain ⟨i0, hi0, hz0, hz1, hz2⟩ := info_parts infoRg
  have st : Hid ([(lo, (F - 1)), (F, hi)] = Q.cutL 64 (lo, hi)) := by
    show _ = _
    rw [cut_tri hq, hF, hB, tri_n2 (by omega), tri_y1 hr, tri_y0 (by omega), tri_z]
    simp only [List.nil_append, List.cons_append]
    rw [show B - 1 = hi by omega]
  have e1 : ((lo % 64 != 0) : Bool) = true := by simp [hp]
  have e2 : ((hi % 64 != 64 - 1) : Bool) = false := by simp [hl]
  have e2' : ((hi % 64 != 63) : Bool) = false := by simp [hl]
  have e3 : lo / 64 * 64 + 64 - 1 = F - 1 := by omega
  have e4 : F - 1 + 1 = F := by omega
  have e7 : (F ≤ hi) := by omega
  have e8 : ¬ (hi < hi) := by omega
  have bF : 0 ≤ F ∧ F ≤ 2000000 := by omega
  have bB : 0 ≤ B ∧ B ≤ 2000000 := by omega
  obtain ⟨bF0, bF1⟩ := bF
  obtain ⟨bB0, bB1⟩ := bB
  clear hF hB hp hl hr
  go_enter Tryd.func30, Tryd.ntmps30
  go_wp2_with fail
  go_quiet (fail)
  go_wp2_with (at_builtin; first | (refine wpList_append_lies _ rfl _ _ 22 rfl w.heap.size 41 i0 _ 2 16 Tryd.underlying22 hi0 hz0 hz1 hz2 rfl (by omega) _ _ _ rfl (hown1.alloc _) _ 1 1 [.int .i64 F, .int .i64 hi] rfl rfl (new_cells _ _ _ _ (by simp)) (by simp [Value.oneCell']) (by omega) (by unfold maxLen; omega) (by omega) (by have hs := hgrow1.size; simp at hs ⊢ <;> omega) _ rfl ?_; intro g2 c2 w2 hown2 hgrow2 hat2 hlt2; have k2 := keep2 k1 fr1 hgrow2; have fr2 := far2 fr1 (block_lt' k1) hat2) | (refine wpList_append_lies _ rfl _ _ 22 rfl w.heap.size 41 i0 _ 2 16 Tryd.underlying22 hi0 hz0 hz1 hz2 rfl (by omega) _ _ _ rfl (World.ownsRow_nil _ _ 41 2) _ 1 1 [.int .i64 lo, .int .i64 (F - 1)] rfl rfl (new_cells _ _ _ _ (by simp)) (by simp [Value.oneCell']) (by omega) (by unfold maxLen; omega) (by omega) (by simp <;> omega) _ rfl ?_; intro g1 c1 w1 hown1 hgrow1 hat1 hlt1; have k1 := keep1 hgrow1; have fr1 := far1 hat1))
  go_ret
  have bw0 : Below w.heap.size w ((w.alloc (boxRg lo hi)).drewN nq) := (Below.new1 _).trans draws_below'
  have bs0 := bw0.size
  have bw1 := below_grow (World.ownsRow_nil _ _ 41 2) (bw0.alloc bs0 _) (by simp at bs0 ⊢; omega) hgrow1
  have bs1 := bw1.size
  have bw2 := below_grow (hown1.alloc _) (bw1.alloc bs1 _) (by simp at bs1 ⊢; omega) hgrow2
  exact ⟨_, rfl, by rw [← st.out]; exact hown2, bw2⟩

set_option maxRecDepth 20000 in
set_option maxHeartbeats 2000000 in
theorem rsplit64_010 (lo hi F B : Int) (w : World) (h0 : 0 ≤ lo) (h1 : lo ≤ hi) (h2 : hi ≤ 1114111) (hq : (lo / 64 == hi / 64) = false) (hF : (lo + 64 - 1) / 64 * 64 = F) (hB : (hi + 1) / 64 * 64 = B) (hp : lo % 64 ≠ 0) (hl : hi % 64 = 63) (hr : ¬ F ≤ B - 1) :
    Calls Tryd.prog 30 #[.agg #[.int .i64 lo, .int .i64 hi], .int .i64 64] w (LiO w (Q.cutL 64 (lo, hi))) := by
  obtain ⟨i0, hi0, hz0, hz1, hz2⟩ := info_parts infoRg
  have st : Hid ([(lo, (F - 1))] = Q.cutL 64 (lo, hi)) := by
    show _ = _
    rw [cut_tri hq, hF, hB, tri_n2 (by omega), tri_n1 hr, tri_y0 (by omega), tri_z]
    simp only [List.nil_append, List.cons_append]
  have e1 : ((lo % 64 != 0) : Bool) = true := by simp [hp]
  have e2 : ((hi % 64 != 64 - 1) : Bool) = false := by simp [hl]
  have e2' : ((hi % 64 != 63) : Bool) = false := by simp [hl]
  have e3 : lo / 64 * 64 + 64 - 1 = F - 1 := by omega
  have e4 : F - 1 + 1 = F := by omega
  have e7 : ¬ (F ≤ hi) := by omega
  have e8 : ¬ (hi < hi) := by omega
  have bF : 0 ≤ F ∧ F ≤ 2000000 := by omega
  have bB : 0 ≤ B ∧ B ≤ 2000000 := by omega
  obtain ⟨bF0, bF1⟩ := bF
  obtain ⟨bB0, bB1⟩ := bB
  clear hF hB hp hl hr
  go_enter Tryd.func30, Tryd.ntmps30
  go_wp2_with fail
  go_quiet (fail)
  go_wp2_with (at_builtin; first | (refine wpList_append_lies _ rfl _ _ 22 rfl w.heap.size 41 i0 _ 2 16 Tryd.underlying22 hi0 hz0 hz1 hz2 rfl (by omega) _ _ _ rfl (World.ownsRow_nil _ _ 41 2) _ 1 1 [.int .i64 lo, .int .i64 (F - 1)] rfl rfl (new_cells _ _ _ _ (by simp)) (by simp [Value.oneCell']) (by omega) (by unfold maxLen; omega) (by omega) (by simp <;> omega) _ rfl ?_; intro g1 c1 w1 hown1 hgrow1 hat1 hlt1; have k1 := keep1 hgrow1; have fr1 := far1 hat1))
  go_ret
  have bw0 : Below w.heap.size w ((w.alloc (boxRg lo hi)).drewN nq) := (Below.new1 _).trans draws_below'
  have bs0 := bw0.size
  have bw1 := below_grow (World.ownsRow_nil _ _ 41 2) (bw0.alloc bs0 _) (by simp at bs0 ⊢; omega) hgrow1
  exact ⟨_, rfl, by rw [← st.out]; exact hown1, bw1⟩

set_option maxRecDepth 20000 in
set_option maxHeartbeats 2000000 in
theorem rsplit64_001 (lo hi F B : Int) (w : World) (h0 : 0 ≤ lo) (h1 : lo ≤ hi) (h2 : hi ≤ 1114111) (hq : (lo / 64 == hi / 64) = false) (hF : (lo + 64 - 1) / 64 * 64 = F) (hB : (hi + 1) / 64 * 64 = B) (hp : lo % 64 ≠ 0) (hl : hi % 64 ≠ 63) (hr : F ≤ B - 1) :
    Calls Tryd.prog 30 #[.agg #[.int .i64 lo, .int .i64 hi], .int .i64 64] w (LiO w (Q.cutL 64 (lo, hi))) := by
  obtain ⟨i0, hi0, hz0, hz1, hz2⟩ := info_parts infoRg
  have st : Hid ([(lo, (F - 1)), (F, (B - 1)), (B, hi)] = Q.cutL 64 (lo, hi)) := by
    show _ = _
    rw [cut_tri hq, hF, hB, tri_y2 (by omega), tri_y1 hr, tri_y0 (by omega), tri_z]
    simp only [List.nil_append, List.cons_append]
  have e1 : ((lo % 64 != 0) : Bool) = true := by simp [hp]
  have e2 : ((hi % 64 != 64 - 1) : Bool) = true := by simp [hl]
  have e2' : ((hi % 64 != 63) : Bool) = true := by simp [hl]
  have e3 : lo / 64 * 64 + 64 - 1 = F - 1 := by omega
  have e4 : F - 1 + 1 = F := by omega
  have e5 : hi / 64 * 64 - 1 = B - 1 := by omega
  have e6 : B - 1 + 1 = B := by omega
  have e7 : (F ≤ B - 1) := by omega
  have e8 : (B - 1 < hi) := by omega
  have bF : 0 ≤ F ∧ F ≤ 2000000 := by omega
  have bB : 0 ≤ B ∧ B ≤ 2000000 := by omega
  obtain ⟨bF0, bF1⟩ := bF
  obtain ⟨bB0, bB1⟩ := bB
  clear hF hB hp hl hr
  go_enter Tryd.func30, Tryd.ntmps30
  go_wp2_with fail
  go_quiet (fail)
  go_wp2_with (at_builtin; first | (refine wpList_append_lies _ rfl _ _ 22 rfl w.heap.size 41 i0 _ 2 16 Tryd.underlying22 hi0 hz0 hz1 hz2 rfl (by omega) _ _ _ rfl (hown2.alloc _) _ 1 1 [.int .i64 B, .int .i64 hi] rfl rfl (new_cells _ _ _ _ (by simp)) (by simp [Value.oneCell']) (by omega) (by unfold maxLen; omega) (by omega) (by have hs := hgrow2.size; have hs' := hgrow1.size; simp at hs hs' ⊢ <;> omega) _ rfl ?_; intro g3 c3 w3 hown3 hgrow3 hat3 hlt3; have k3 := keep2 k2 fr2 hgrow3; have fr3 := far2 fr2 (block_lt' k2) hat3) | (refine wpList_append_lies _ rfl _ _ 22 rfl w.heap.size 41 i0 _ 2 16 Tryd.underlying22 hi0 hz0 hz1 hz2 rfl (by omega) _ _ _ rfl (hown1.alloc _) _ 1 1 [.int .i64 F, .int .i64 (B - 1)] rfl rfl (new_cells _ _ _ _ (by simp)) (by simp [Value.oneCell']) (by omega) (by unfold maxLen; omega) (by omega) (by have hs := hgrow1.size; simp at hs ⊢ <;> omega) _ rfl ?_; intro g2 c2 w2 hown2 hgrow2 hat2 hlt2; have k2 := keep2 k1 fr1 hgrow2; have fr2 := far2 fr1 (block_lt' k1) hat2) | (refine wpList_append_lies _ rfl _ _ 22 rfl w.heap.size 41 i0 _ 2 16 Tryd.underlying22 hi0 hz0 hz1 hz2 rfl (by omega) _ _ _ rfl (World.ownsRow_nil _ _ 41 2) _ 1 1 [.int .i64 lo, .int .i64 (F - 1)] rfl rfl (new_cells _ _ _ _ (by simp)) (by simp [Value.oneCell']) (by omega) (by unfold maxLen; omega) (by omega) (by simp <;> omega) _ rfl ?_; intro g1 c1 w1 hown1 hgrow1 hat1 hlt1; have k1 := keep1 hgrow1; have fr1 := far1 hat1))
  go_ret
  have bw0 : Below w.heap.size w ((w.alloc (boxRg lo hi)).drewN nq) := (Below.new1 _).trans draws_below'
  have bs0 := bw0.size
  have bw1 := below_grow (World.ownsRow_nil _ _ 41 2) (bw0.alloc bs0 _) (by simp at bs0 ⊢; omega) hgrow1
  have bs1 := bw1.size
  have bw2 := below_grow (hown1.alloc _) (bw1.alloc bs1 _) (by simp at bs1 ⊢; omega) hgrow2
  have bs2 := bw2.size
  have bw3 := below_grow (hown2.alloc _) (bw2.alloc bs2 _) (by simp at bs2 ⊢; omega) hgrow3
  exact ⟨_, rfl, by rw [← st.out]; exact hown3, bw3⟩

set_option maxRecDepth 20000 in
set_option maxHeartbeats 2000000 in
theorem rsplit64_000 (lo hi F B : Int) (w : World) (h0 : 0 ≤ lo) (h1 : lo ≤ hi) (h2 : hi ≤ 1114111) (hq : (lo / 64 == hi / 64) = false) (hF : (lo + 64 - 1) / 64 * 64 = F) (hB : (hi + 1) / 64 * 64 = B) (hp : lo % 64 ≠ 0) (hl : hi % 64 ≠ 63) (hr : ¬ F ≤ B - 1) :
    Calls Tryd.prog 30 #[.agg #[.int .i64 lo, .int .i64 hi], .int .i64 64] w (LiO w (Q.cutL 64 (lo, hi))) := by
  obtain ⟨i0, hi0, hz0, hz1, hz2⟩ := info_parts infoRg
  have st : Hid ([(lo, (F - 1)), (B, hi)] = Q.cutL 64 (lo, hi)) := by
    show _ = _
    rw [cut_tri hq, hF, hB, tri_y2 (by omega), tri_n1 hr, tri_y0 (by omega), tri_z]
    simp only [List.nil_append, List.cons_append]
  have e1 : ((lo % 64 != 0) : Bool) = true := by simp [hp]
  have e2 : ((hi % 64 != 64 - 1) : Bool) = true := by simp [hl]
  have e2' : ((hi % 64 != 63) : Bool) = true := by simp [hl]
  have e3 : lo / 64 * 64 + 64 - 1 = F - 1 := by omega
  have e4 : F - 1 + 1 = F := by omega
  have e5 : hi / 64 * 64 - 1 = B - 1 := by omega
  have e6 : B - 1 + 1 = B := by omega
  have e7 : ¬ (F ≤ B - 1) := by omega
  have e8 : (B - 1 < hi) := by omega
  have bF : 0 ≤ F ∧ F ≤ 2000000 := by omega
  have bB : 0 ≤ B ∧ B ≤ 2000000 := by omega
  obtain ⟨bF0, bF1⟩ := bF
  obtain ⟨bB0, bB1⟩ := bB
  clear hF hB hp hl hr
  go_enter Tryd.func30, Tryd.ntmps30
  go_wp2_with fail
  go_quiet (fail)
  go_wp2_with (at_builtin; first | (refine wpList_append_lies _ rfl _ _ 22 rfl w.heap.size 41 i0 _ 2 16 Tryd.underlying22 hi0 hz0 hz1 hz2 rfl (by omega) _ _ _ rfl (hown1.alloc _) _ 1 1 [.int .i64 B, .int .i64 hi] rfl rfl (new_cells _ _ _ _ (by simp)) (by simp [Value.oneCell']) (by omega) (by unfold maxLen; omega) (by omega) (by have hs := hgrow1.size; simp at hs ⊢ <;> omega) _ rfl ?_; intro g2 c2 w2 hown2 hgrow2 hat2 hlt2; have k2 := keep2 k1 fr1 hgrow2; have fr2 := far2 fr1 (block_lt' k1) hat2) | (refine wpList_append_lies _ rfl _ _ 22 rfl w.heap.size 41 i0 _ 2 16 Tryd.underlying22 hi0 hz0 hz1 hz2 rfl (by omega) _ _ _ rfl (World.ownsRow_nil _ _ 41 2) _ 1 1 [.int .i64 lo, .int .i64 (F - 1)] rfl rfl (new_cells _ _ _ _ (by simp)) (by simp [Value.oneCell']) (by omega) (by unfold maxLen; omega) (by omega) (by simp <;> omega) _ rfl ?_; intro g1 c1 w1 hown1 hgrow1 hat1 hlt1; have k1 := keep1 hgrow1; have fr1 := far1 hat1))
  go_ret
  have bw0 : Below w.heap.size w ((w.alloc (boxRg lo hi)).drewN nq) := (Below.new1 _).trans draws_below'
  have bs0 := bw0.size
  have bw1 := below_grow (World.ownsRow_nil _ _ 41 2) (bw0.alloc bs0 _) (by simp at bs0 ⊢; omega) hgrow1
  have bs1 := bw1.size
  have bw2 := below_grow (hown1.alloc _) (bw1.alloc bs1 _) (by simp at bs1 ⊢; omega) hgrow2
  exact ⟨_, rfl, by rw [← st.out]; exact hown2, bw2⟩

theorem rsplit64_any (lo hi : Int) (w : World) (h0 : 0 ≤ lo) (h1 : lo ≤ hi) (h2 : hi ≤ 1114111) :
    Calls Tryd.prog 30 #[.agg #[.int .i64 lo, .int .i64 hi], .int .i64 64] w (LiO w (Q.cutL 64 (lo, hi))) := by
  rcases Bool.eq_false_or_eq_true (lo / 64 == hi / 64) with c | c
  · exact rsplit64_one lo hi w h0 h1 h2 (eq_of_beq c)
  · have cn : lo / 64 ≠ hi / 64 := by simpa using c
    by_cases hp : lo % 64 = 0 <;> by_cases hl : hi % 64 = 63 <;> by_cases hr : (lo + 64 - 1) / 64 * 64 ≤ (hi + 1) / 64 * 64 - 1
    · exact rsplit64_111 lo hi _ _ w h0 h1 h2 c rfl rfl hp hl hr
    · exfalso; omega
    · exact rsplit64_101 lo hi _ _ w h0 h1 h2 c rfl rfl hp hl hr
    · exact rsplit64_100 lo hi _ _ w h0 h1 h2 c rfl rfl hp hl hr
    · exact rsplit64_011 lo hi _ _ w h0 h1 h2 c rfl rfl hp hl hr
    · exact rsplit64_010 lo hi _ _ w h0 h1 h2 c rfl rfl hp hl hr
    · exact rsplit64_001 lo hi _ _ w h0 h1 h2 c rfl rfl hp hl hr
    · exact rsplit64_000 lo hi _ _ w h0 h1 h2 c rfl rfl hp hl hr

set_option maxRecDepth 20000 in
set_option maxHeartbeats 2000000 in
theorem rsplit4096_one (lo hi : Int) (w : World) (h0 : 0 ≤ lo) (h1 : lo ≤ hi) (h2 : hi ≤ 1114111) (hq : lo / 4096 = hi / 4096) :
    Calls Tryd.prog 30 #[.agg #[.int .i64 lo, .int .i64 hi], .int .i64 4096] w (LiO w (Q.cutL 4096 (lo, hi))) := by
  obtain ⟨i0, hi0, hz0, hz1, hz2⟩ := info_parts infoRg
  have st : Hid ([(lo, hi)] = Q.cutL 4096 (lo, hi)) := by show _ = _; rw [cut_one hq]
  go_enter Tryd.func30, Tryd.ntmps30
  go_wp2_with fail
  go_quiet (fail)
  go_wp2_with (at_builtin; (refine wpList_append_lies _ rfl _ _ 22 rfl w.heap.size 41 i0 _ 2 16 Tryd.underlying22 hi0 hz0 hz1 hz2 rfl (by omega) _ _ _ rfl (World.ownsRow_nil _ _ 41 2) _ 1 1 [.int .i64 lo, .int .i64 hi] rfl rfl (new_cells _ _ _ _ (by simp)) (by simp [Value.oneCell']) (by omega) (by unfold maxLen; omega) (by omega) (by simp <;> omega) _ rfl ?_; intro g1 c1 w1 hown1 hgrow1 hat1 hlt1; have k1 := keep1 hgrow1; have fr1 := far1 hat1))
  go_ret
  have bw0 : Below w.heap.size w ((w.alloc (boxRg lo hi)).drewN nq) := (Below.new1 _).trans draws_below'
  have bs0 := bw0.size
  have bw1 := below_grow (World.ownsRow_nil _ _ 41 2) (bw0.alloc bs0 _) (by simp at bs0 ⊢; omega) hgrow1
  exact ⟨_, rfl, by rw [← st.out]; exact hown1, bw1⟩

set_option maxRecDepth 20000 in
set_option maxHeartbeats 2000000 in
theorem rsplit4096_111 (lo hi F B : Int) (w : World) (h0 : 0 ≤ lo) (h1 : lo ≤ hi) (h2 : hi ≤ 1114111) (hq : (lo / 4096 == hi / 4096) = false) (hF : (lo + 4096 - 1) / 4096 * 4096 = F) (hB : (hi + 1) / 4096 * 4096 = B) (hp : lo % 4096 = 0) (hl : hi % 4096 = 4095) (hr : F ≤ B - 1) :
    Calls Tryd.prog 30 #[.agg #[.int .i64 lo, .int .i64 hi], .int .i64 4096] w (LiO w (Q.cutL 4096 (lo, hi))) := by
  obtain ⟨i0, hi0, hz0, hz1, hz2⟩ := info_parts infoRg
  have st : Hid ([(lo, hi)] = Q.cutL 4096 (lo, hi)) := by
    show _ = _
    rw [cut_tri hq, hF, hB, tri_n2 (by omega), tri_y1 hr, tri_n0 (by omega), tri_z]
    simp only [List.nil_append, List.cons_append]
    rw [show F = lo by omega, show B - 1 = hi by omega]
  have e1 : ((lo % 4096 != 0) : Bool) = false := by simp [hp]
  have e2 : ((hi % 4096 != 4096 - 1) : Bool) = false := by simp [hl]
  have e2' : ((hi % 4096 != 4095) : Bool) = false := by simp [hl]
  have e7 : (lo ≤ hi) := by omega
  have e8 : ¬ (hi < hi) := by omega
  have bF : 0 ≤ F ∧ F ≤ 2000000 := by omega
  have bB : 0 ≤ B ∧ B ≤ 2000000 := by omega
  obtain ⟨bF0, bF1⟩ := bF
  obtain ⟨bB0, bB1⟩ := bB
  clear hF hB hp hl hr
  go_enter Tryd.func30, Tryd.ntmps30
  go_wp2_with fail
  go_quiet (fail)
  go_wp2_with (at_builtin; first | (refine wpList_append_lies _ rfl _ _ 22 rfl w.heap.size 41 i0 _ 2 16 Tryd.underlying22 hi0 hz0 hz1 hz2 rfl (by omega) _ _ _ rfl (World.ownsRow_nil _ _ 41 2) _ 1 1 [.int .i64 lo, .int .i64 hi] rfl rfl (new_cells _ _ _ _ (by simp)) (by simp [Value.oneCell']) (by omega) (by unfold maxLen; omega) (by omega) (by simp <;> omega) _ rfl ?_; intro g1 c1 w1 hown1 hgrow1 hat1 hlt1; have k1 := keep1 hgrow1; have fr1 := far1 hat1))
  go_ret
  have bw0 : Below w.heap.size w ((w.alloc (boxRg lo hi)).drewN nq) := (Below.new1 _).trans draws_below'
  have bs0 := bw0.size
  have bw1 := below_grow (World.ownsRow_nil _ _ 41 2) (bw0.alloc bs0 _) (by simp at bs0 ⊢; omega) hgrow1
  exact ⟨_, rfl, by rw [← st.out]; exact hown1, bw1⟩

set_option maxRecDepth 20000 in
set_option maxHeartbeats 2000000 in
theorem rsplit4096_101 (lo hi F B : Int) (w : World) (h0 : 0 ≤ lo) (h1 : lo ≤ hi) (h2 : hi ≤ 1114111) (hq : (lo / 4096 == hi / 4096) = false) (hF : (lo + 4096 - 1) / 4096 * 4096 = F) (hB : (hi + 1) / 4096 * 4096 = B) (hp : lo % 4096 = 0) (hl : hi % 4096 ≠ 4095) (hr : F ≤ B - 1) :
    Calls Tryd.prog 30 #[.agg #[.int .i64 lo, .int .i64 hi], .int .i64 4096] w (LiO w (Q.cutL 4096 (lo, hi))) := by
  obtain ⟨i0, hi0, hz0, hz1, hz2⟩ := info_parts infoRg
  have st : Hid ([(lo, (B - 1)), (B, hi)] = Q.cutL 4096 (lo, hi)) := by
    show _ = _
    rw [cut_tri hq, hF, hB, tri_y2 (by omega), tri_y1 hr, tri_n0 (by omega), tri_z]
    simp only [List.nil_append, List.cons_append]
    rw [show F = lo by omega]
  have e1 : ((lo % 4096 != 0) : Bool) = false := by simp [hp]
  have e2 : ((hi % 4096 != 4096 - 1) : Bool) = true := by simp [hl]
  have e2' : ((hi % 4096 != 4095) : Bool) = true := by simp [hl]
  have e5 : hi / 4096 * 4096 - 1 = B - 1 := by omega
  have e6 : B - 1 + 1 = B := by omega
  have e7 : (lo ≤ B - 1) := by omega
  have e8 : (B - 1 < hi) := by omega
  have bF : 0 ≤ F ∧ F ≤ 2000000 := by omega
  have bB : 0 ≤ B ∧ B ≤ 2000000 := by omega
  obtain ⟨bF0, bF1⟩ := bF
  obtain ⟨bB0, bB1⟩ := bB
  clear hF hB hp hl hr
  go_enter Tryd.func30, Tryd.ntmps30
  go_wp2_with fail
  go_quiet (fail)
  go_wp2_with (at_builtin; first | (refine wpList_append_lies _ rfl _ _ 22 rfl w.heap.size 41 i0 _ 2 16 Tryd.underlying22 hi0 hz0 hz1 hz2 rfl (by omega) _ _ _ rfl (hown1.alloc _) _ 1 1 [.int .i64 B, .int .i64 hi] rfl rfl (new_cells _ _ _ _ (by simp)) (by simp [Value.oneCell']) (by omega) (by unfold maxLen; omega) (by omega) (by have hs := hgrow1.size; simp at hs ⊢ <;> omega) _ rfl ?_; intro g2 c2 w2 hown2 hgrow2 hat2 hlt2; have k2 := keep2 k1 fr1 hgrow2; have fr2 := far2 fr1 (block_lt' k1) hat2) | (refine wpList_append_lies _ rfl _ _ 22 rfl w.heap.size 41 i0 _ 2 16 Tryd.underlying22 hi0 hz0 hz1 hz2 rfl (by omega) _ _ _ rfl (World.ownsRow_nil _ _ 41 2) _ 1 1 [.int .i64 lo, .int .i64 (B - 1)] rfl rfl (new_cells _ _ _ _ (by simp)) (by simp [Value.oneCell']) (by omega) (by unfold maxLen; omega) (by omega) (by simp <;> omega) _ rfl ?_; intro g1 c1 w1 hown1 hgrow1 hat1 hlt1; have k1 := keep1 hgrow1; have fr1 := far1 hat1))
  go_ret
  have bw0 : Below w.heap.size w ((w.alloc (boxRg lo hi)).drewN nq) := (Below.new1 _).trans draws_below'
  have bs0 := bw0.size
  have bw1 := below_grow (World.ownsRow_nil _ _ 41 2) (bw0.alloc bs0 _) (by simp at bs0 ⊢; omega) hgrow1
  have bs1 := bw1.size
  have bw2 := below_grow (hown1.alloc _) (bw1.alloc bs1 _) (by simp at bs1 ⊢; omega) hgrow2
  exact ⟨_, rfl, by rw [← st.out]; exact hown2, bw2⟩

set_option maxRecDepth 20000 in
set_option maxHeartbeats 2000000 in
theorem rsplit4096_100 (lo hi F B : Int) (w : World) (h0 : 0 ≤ lo) (h1 : lo ≤ hi) (h2 : hi ≤ 1114111) (hq : (lo / 4096 == hi / 4096) = false) (hF : (lo + 4096 - 1) / 4096 * 4096 = F) (hB : (hi + 1) / 4096 * 4096 = B) (hp : lo % 4096 = 0) (hl : hi % 4096 ≠ 4095) (hr : ¬ F ≤ B - 1) :
    Calls Tryd.prog 30 #[.agg #[.int .i64 lo, .int .i64 hi], .int .i64 4096] w (LiO w (Q.cutL 4096 (lo, hi))) := by
  obtain ⟨i0, hi0, hz0, hz1, hz2⟩ := info_parts infoRg
  have st : Hid ([(B, hi)] = Q.cutL 4096 (lo, hi)) := by
    show _ = _
    rw [cut_tri hq, hF, hB, tri_y2 (by omega), tri_n1 hr, tri_n0 (by omega), tri_z]
    simp only [List.nil_append, List.cons_append]
  have e1 : ((lo % 4096 != 0) : Bool) = false := by simp [hp]
  have e2 : ((hi % 4096 != 4096 - 1) : Bool) = true := by simp [hl]
  have e2' : ((hi % 4096 != 4095) : Bool) = true := by simp [hl]
  have e5 : hi / 4096 * 4096 - 1 = B - 1 := by omega
  have e6 : B - 1 + 1 = B := by omega
  have e7 : ¬ (lo ≤ B - 1) := by omega
  have e8 : (B - 1 < hi) := by omega
  have bF : 0 ≤ F ∧ F ≤ 2000000 := by omega
  have bB : 0 ≤ B ∧ B ≤ 2000000 := by omega
  obtain ⟨bF0, bF1⟩ := bF
  obtain ⟨bB0, bB1⟩ := bB
  clear hF hB hp hl hr
  go_enter Tryd.func30, Tryd.ntmps30
  go_wp2_with fail
  go_quiet (fail)
  go_wp2_with (at_builtin; first | (refine wpList_append_lies _ rfl _ _ 22 rfl w.heap.size 41 i0 _ 2 16 Tryd.underlying22 hi0 hz0 hz1 hz2 rfl (by omega) _ _ _ rfl (World.ownsRow_nil _ _ 41 2) _ 1 1 [.int .i64 B, .int .i64 hi] rfl rfl (new_cells _ _ _ _ (by simp)) (by simp [Value.oneCell']) (by omega) (by unfold maxLen; omega) (by omega) (by simp <;> omega) _ rfl ?_; intro g1 c1 w1 hown1 hgrow1 hat1 hlt1; have k1 := keep1 hgrow1; have fr1 := far1 hat1))
  go_ret
  have bw0 : Below w.heap.size w ((w.alloc (boxRg lo hi)).drewN nq) := (Below.new1 _).trans draws_below'
  have bs0 := bw0.size
  have bw1 := below_grow (World.ownsRow_nil _ _ 41 2) (bw0.alloc bs0 _) (by simp at bs0 ⊢; omega) hgrow1
  exact ⟨_, rfl, by rw [← st.out]; exact hown1, bw1⟩

set_option maxRecDepth 20000 in
set_option maxHeartbeats 2000000 in
theorem rsplit4096_011 (lo hi F B : Int) (w : World) (h0 : 0 ≤ lo) (h1 : lo ≤ hi) (h2 : hi ≤ 1114111) (hq : (lo / 4096 == hi / 4096) = false) (hF : (lo + 4096 - 1) / 4096 * 4096 = F) (hB : (hi + 1) / 4096 * 4096 = B) (hp : lo % 4096 ≠ 0) (hl : hi % 4096 = 4095) (hr : F ≤ B - 1) :
    Calls Tryd.prog 30 #[.agg #[.int .i64 lo, .int .i64 hi], .int .i64 4096] w (LiO w (Q.cutL 4096 (lo, hi))) := by
  obtain ⟨i0, hi0, hz0, hz1, hz2⟩ := info_parts infoRg
  have st : Hid ([(lo, (F - 1)), (F, hi)] = Q.cutL 4096 (lo, hi)) := by
    show _ = _
    rw [cut_tri hq, hF, hB, tri_n2 (by omega), tri_y1 hr, tri_y0 (by omega), tri_z]
    simp only [List.nil_append, List.cons_append]
    rw [show B - 1 = hi by omega]
  have e1 : ((lo % 4096 != 0) : Bool) = true := by simp [hp]
  have e2 : ((hi % 4096 != 4096 - 1) : Bool) = false := by simp [hl]
  have e2' : ((hi % 4096 != 4095) : Bool) = false := by simp [hl]
  have e3 : lo / 4096 * 4096 + 4096 - 1 = F - 1 := by omega
  have e4 : F - 1 + 1 = F := by omega
  have e7 : (F ≤ hi) := by omega
  have e8 : ¬ (hi < hi) := by omega
  have bF : 0 ≤ F ∧ F ≤ 2000000 := by omega
  have bB : 0 ≤ B ∧ B ≤ 2000000 := by omega
  obtain ⟨bF0, bF1⟩ := bF
  obtain ⟨bB0, bB1⟩ := bB
  clear hF hB hp hl hr
  go_enter Tryd.func30, Tryd.ntmps30
  go_wp2_with fail
  go_quiet (fail)
  go_wp2_with (at_builtin; first | (refine wpList_append_lies _ rfl _ _ 22 rfl w.heap.size 41 i0 _ 2 16 Tryd.underlying22 hi0 hz0 hz1 hz2 rfl (by omega) _ _ _ rfl (hown1.alloc _) _ 1 1 [.int .i64 F, .int .i64 hi] rfl rfl (new_cells _ _ _ _ (by simp)) (by simp [Value.oneCell']) (by omega) (by unfold maxLen; omega) (by omega) (by have hs := hgrow1.size; simp at hs ⊢ <;> omega) _ rfl ?_; intro g2 c2 w2 hown2 hgrow2 hat2 hlt2; have k2 := keep2 k1 fr1 hgrow2; have fr2 := far2 fr1 (block_lt' k1) hat2) | (refine wpList_append_lies _ rfl _ _ 22 rfl w.heap.size 41 i0 _ 2 16 Tryd.underlying22 hi0 hz0 hz1 hz2 rfl (by omega) _ _ _ rfl (World.ownsRow_nil _ _ 41 2) _ 1 1 [.int .i64 lo, .int .i64 (F - 1)] rfl rfl (new_cells _ _ _ _ (by simp)) (by simp [Value.oneCell']) (by omega) (by unfold maxLen; omega) (by omega) (by simp <;> omega) _ rfl ?_; intro g1 c1 w1 hown1 hgrow1 hat1 hlt1; have k1 := keep1 hgrow1; have fr1 := far1 hat1))
  go_ret
  have bw0 : Below w.heap.size w ((w.alloc (boxRg lo hi)).drewN nq) := (Below.new1 _).trans draws_below'
  have bs0 := bw0.size
  have bw1 := below_grow (World.ownsRow_nil _ _ 41 2) (bw0.alloc bs0 _) (by simp at bs0 ⊢; omega) hgrow1
  have bs1 := bw1.size
  have bw2 := below_grow (hown1.alloc _) (bw1.alloc bs1 _) (by simp at bs1 ⊢; omega) hgrow2
  exact ⟨_, rfl, by rw [← st.out]; exact hown2, bw2⟩

set_option maxRecDepth 20000 in
set_option maxHeartbeats 2000000 in
theorem rsplit4096_010 (lo hi F B : Int) (w : World) (h0 : 0 ≤ lo) (h1 : lo ≤ hi) (h2 : hi ≤ 1114111) (hq : (lo / 4096 == hi / 4096) = false) (hF : (lo + 4096 - 1) / 4096 * 4096 = F) (hB : (hi + 1) / 4096 * 4096 = B) (hp : lo % 4096 ≠ 0) (hl : hi % 4096 = 4095) (hr : ¬ F ≤ B - 1) :
    Calls Tryd.prog 30 #[.agg #[.int .i64 lo, .int .i64 hi], .int .i64 4096] w (LiO w (Q.cutL 4096 (lo, hi))) := by
  obtain ⟨i0, hi0, hz0, hz1, hz2⟩ := info_parts infoRg
  have st : Hid ([(lo, (F - 1))] = Q.cutL 4096 (lo, hi)) := by
    show _ = _
    rw [cut_tri hq, hF, hB, tri_n2 (by omega), tri_n1 hr, tri_y0 (by omega), tri_z]
    simp only [List.nil_append, List.cons_append]
  have e1 : ((lo % 4096 != 0) : Bool) = true := by simp [hp]
  have e2 : ((hi % 4096 != 4096 - 1) : Bool) = false := by simp [hl]
  have e2' : ((hi % 4096 != 4095) : Bool) = false := by simp [hl]
  have e3 : lo / 4096 * 4096 + 4096 - 1 = F - 1 := by omega
  have e4 : F - 1 + 1 = F := by omega
  have e7 : ¬ (F ≤ hi) := by omega
  have e8 : ¬ (hi < hi) := by omega
  have bF : 0 ≤ F ∧ F ≤ 2000000 := by omega
  have bB : 0 ≤ B ∧ B ≤ 2000000 := by omega
  obtain ⟨bF0, bF1⟩ := bF
  obtain ⟨bB0, bB1⟩ := bB
  clear hF hB hp hl hr
  go_enter Tryd.func30, Tryd.ntmps30
  go_wp2_with fail
  go_quiet (fail)
  go_wp2_with (at_builtin; first | (refine wpList_append_lies _ rfl _ _ 22 rfl w.heap.size 41 i0 _ 2 16 Tryd.underlying22 hi0 hz0 hz1 hz2 rfl (by omega) _ _ _ rfl (World.ownsRow_nil _ _ 41 2) _ 1 1 [.int .i64 lo, .int .i64 (F - 1)] rfl rfl (new_cells _ _ _ _ (by simp)) (by simp [Value.oneCell']) (by omega) (by unfold maxLen; omega) (by omega) (by simp <;> omega) _ rfl ?_; intro g1 c1 w1 hown1 hgrow1 hat1 hlt1; have k1 := keep1 hgrow1; have fr1 := far1 hat1))
  go_ret
  have bw0 : Below w.heap.size w ((w.alloc (boxRg lo hi)).drewN nq) := (Below.new1 _).trans draws_below'
  have bs0 := bw0.size
  have bw1 := below_grow (World.ownsRow_nil _ _ 41 2) (bw0.alloc bs0 _) (by simp at bs0 ⊢; omega) hgrow1
  exact ⟨_, rfl, by rw [← st.out]; exact hown1, bw1⟩

set_option maxRecDepth 20000 in
set_option maxHeartbeats 2000000 in
theorem rsplit4096_001 (lo hi F B : Int) (w : World) (h0 : 0 ≤ lo) (h1 : lo ≤ hi) (h2 : hi ≤ 1114111) (hq : (lo / 4096 == hi / 4096) = false) (hF : (lo + 4096 - 1) / 4096 * 4096 = F) (hB : (hi + 1) / 4096 * 4096 = B) (hp : lo % 4096 ≠ 0) (hl : hi % 4096 ≠ 4095) (hr : F ≤ B - 1) :
    Calls Tryd.prog 30 #[.agg #[.int .i64 lo, .int .i64 hi], .int .i64 4096] w (LiO w (Q.cutL 4096 (lo, hi))) := by
  obtain ⟨i0, hi0, hz0, hz1, hz2⟩ := info_parts infoRg
  have st : Hid ([(lo, (F - 1)), (F, (B - 1)), (B, hi)] = Q.cutL 4096 (lo, hi)) := by
    show _ = _
    rw [cut_tri hq, hF, hB, tri_y2 (by omega), tri_y1 hr, tri_y0 (by omega), tri_z]
    simp only [List.nil_append, List.cons_append]
  have e1 : ((lo % 4096 != 0) : Bool) = true := by simp [hp]
  have e2 : ((hi % 4096 != 4096 - 1) : Bool) = true := by simp [hl]
  have e2' : ((hi % 4096 != 4095) : Bool) = true := by simp [hl]
  have e3 : lo / 4096 * 4096 + 4096 - 1 = F - 1 := by omega
  have e4 : F - 1 + 1 = F := by omega
  have e5 : hi / 4096 * 4096 - 1 = B - 1 := by omega
  have e6 : B - 1 + 1 = B := by omega
  have e7 : (F ≤ B - 1) := by omega
  have e8 : (B - 1 < hi) := by omega
  have bF : 0 ≤ F ∧ F ≤ 2000000 := by omega
  have bB : 0 ≤ B ∧ B ≤ 2000000 := by omega
  obtain ⟨bF0, bF1⟩ := bF
  obtain ⟨bB0, bB1⟩ := bB
  clear hF hB hp hl hr
  go_enter Tryd.func30, Tryd.ntmps30
  go_wp2_with fail
  go_quiet (fail)
  go_wp2_with (at_builtin; first | (refine wpList_append_lies _ rfl _ _ 22 rfl w.heap.size 41 i0 _ 2 16 Tryd.underlying22 hi0 hz0 hz1 hz2 rfl (by omega) _ _ _ rfl (hown2.alloc _) _ 1 1 [.int .i64 B, .int .i64 hi] rfl rfl (new_cells _ _ _ _ (by simp)) (by simp [Value.oneCell']) (by omega) (by unfold maxLen; omega) (by omega) (by have hs := hgrow2.size; have hs' := hgrow1.size; simp at hs hs' ⊢ <;> omega) _ rfl ?_; intro g3 c3 w3 hown3 hgrow3 hat3 hlt3; have k3 := keep2 k2 fr2 hgrow3; have fr3 := far2 fr2 (block_lt' k2) hat3) | (refine wpList_append_lies _ rfl _ _ 22 rfl w.heap.size 41 i0 _ 2 16 Tryd.underlying22 hi0 hz0 hz1 hz2 rfl (by omega) _ _ _ rfl (hown1.alloc _) _ 1 1 [.int .i64 F, .int .i64 (B - 1)] rfl rfl (new_cells _ _ _ _ (by simp)) (by simp [Value.oneCell']) (by omega) (by unfold maxLen; omega) (by omega) (by have hs := hgrow1.size; simp at hs ⊢ <;> omega) _ rfl ?_; intro g2 c2 w2 hown2 hgrow2 hat2 hlt2; have k2 := keep2 k1 fr1 hgrow2; have fr2 := far2 fr1 (block_lt' k1) hat2) | (refine wpList_append_lies _ rfl _ _ 22 rfl w.heap.size 41 i0 _ 2 16 Tryd.underlying22 hi0 hz0 hz1 hz2 rfl (by omega) _ _ _ rfl (World.ownsRow_nil _ _ 41 2) _ 1 1 [.int .i64 lo, .int .i64 (F - 1)] rfl rfl (new_cells _ _ _ _ (by simp)) (by simp [Value.oneCell']) (by omega) (by unfold maxLen; omega) (by omega) (by simp <;> omega) _ rfl ?_; intro g1 c1 w1 hown1 hgrow1 hat1 hlt1; have k1 := keep1 hgrow1; have fr1 := far1 hat1))
  go_ret
  have bw0 : Below w.heap.size w ((w.alloc (boxRg lo hi)).drewN nq) := (Below.new1 _).trans draws_below'
  have bs0 := bw0.size
  have bw1 := below_grow (World.ownsRow_nil _ _ 41 2) (bw0.alloc bs0 _) (by simp at bs0 ⊢; omega) hgrow1
  have bs1 := bw1.size
  have bw2 := below_grow (hown1.alloc _) (bw1.alloc bs1 _) (by simp at bs1 ⊢; omega) hgrow2
  have bs2 := bw2.size
  have bw3 := below_grow (hown2.alloc _) (bw2.alloc bs2 _) (by simp at bs2 ⊢; omega) hgrow3
  exact ⟨_, rfl, by rw [← st.out]; exact hown3, bw3⟩

set_option maxRecDepth 20000 in
set_option maxHeartbeats 2000000 in
theorem rsplit4096_000 (lo hi F B : Int) (w : World) (h0 : 0 ≤ lo) (h1 : lo ≤ hi) (h2 : hi ≤ 1114111) (hq : (lo / 4096 == hi / 4096) = false) (hF : (lo + 4096 - 1) / 4096 * 4096 = F) (hB : (hi + 1) / 4096 * 4096 = B) (hp : lo % 4096 ≠ 0) (hl : hi % 4096 ≠ 4095) (hr : ¬ F ≤ B - 1) :
    Calls Tryd.prog 30 #[.agg #[.int .i64 lo, .int .i64 hi], .int .i64 4096] w (LiO w (Q.cutL 4096 (lo, hi))) := by
  obtain ⟨i0, hi0, hz0, hz1, hz2⟩ := info_parts infoRg
  have st : Hid ([(lo, (F - 1)), (B, hi)] = Q.cutL 4096 (lo, hi)) := by
    show _ = _
    rw [cut_tri hq, hF, hB, tri_y2 (by omega), tri_n1 hr, tri_y0 (by omega), tri_z]
    simp only [List.nil_append, List.cons_append]
  have e1 : ((lo % 4096 != 0) : Bool) = true := by simp [hp]
  have e2 : ((hi % 4096 != 4096 - 1) : Bool) = true := by simp [hl]
  have e2' : ((hi % 4096 != 4095) : Bool) = true := by simp [hl]
  have e3 : lo / 4096 * 4096 + 4096 - 1 = F - 1 := by omega
  have e4 : F - 1 + 1 = F := by omega
  have e5 : hi / 4096 * 4096 - 1 = B - 1 := by omega
  have e6 : B - 1 + 1 = B := by omega
  have e7 : ¬ (F ≤ B - 1) := by omega
  have e8 : (B - 1 < hi) := by omega
  have bF : 0 ≤ F ∧ F ≤ 2000000 := by omega
  have bB : 0 ≤ B ∧ B ≤ 2000000 := by omega
  obtain ⟨bF0, bF1⟩ := bF
  obtain ⟨bB0, bB1⟩ := bB
  clear hF hB hp hl hr
  go_enter Tryd.func30, Tryd.ntmps30
  go_wp2_with fail
  go_quiet (fail)
  go_wp2_with (at_builtin; first | (refine wpList_append_lies _ rfl _ _ 22 rfl w.heap.size 41 i0 _ 2 16 Tryd.underlying22 hi0 hz0 hz1 hz2 rfl (by omega) _ _ _ rfl (hown1.alloc _) _ 1 1 [.int .i64 B, .int .i64 hi] rfl rfl (new_cells _ _ _ _ (by simp)) (by simp [Value.oneCell']) (by omega) (by unfold maxLen; omega) (by omega) (by have hs := hgrow1.size; simp at hs ⊢ <;> omega) _ rfl ?_; intro g2 c2 w2 hown2 hgrow2 hat2 hlt2; have k2 := keep2 k1 fr1 hgrow2; have fr2 := far2 fr1 (block_lt' k1) hat2) | (refine wpList_append_lies _ rfl _ _ 22 rfl w.heap.size 41 i0 _ 2 16 Tryd.underlying22 hi0 hz0 hz1 hz2 rfl (by omega) _ _ _ rfl (World.ownsRow_nil _ _ 41 2) _ 1 1 [.int .i64 lo, .int .i64 (F - 1)] rfl rfl (new_cells _ _ _ _ (by simp)) (by simp [Value.oneCell']) (by omega) (by unfold maxLen; omega) (by omega) (by simp <;> omega) _ rfl ?_; intro g1 c1 w1 hown1 hgrow1 hat1 hlt1; have k1 := keep1 hgrow1; have fr1 := far1 hat1))
  go_ret
  have bw0 : Below w.heap.size w ((w.alloc (boxRg lo hi)).drewN nq) := (Below.new1 _).trans draws_below'
  have bs0 := bw0.size
  have bw1 := below_grow (World.ownsRow_nil _ _ 41 2) (bw0.alloc bs0 _) (by simp at bs0 ⊢; omega) hgrow1
  have bs1 := bw1.size
  have bw2 := below_grow (hown1.alloc _) (bw1.alloc bs1 _) (by simp at bs1 ⊢; omega) hgrow2
  exact ⟨_, rfl, by rw [← st.out]; exact hown2, bw2⟩

theorem rsplit4096_any (lo hi : Int) (w : World) (h0 : 0 ≤ lo) (h1 : lo ≤ hi) (h2 : hi ≤ 1114111) :
    Calls Tryd.prog 30 #[.agg #[.int .i64 lo, .int .i64 hi], .int .i64 4096] w (LiO w (Q.cutL 4096 (lo, hi))) := by
  rcases Bool.eq_false_or_eq_true (lo / 4096 == hi / 4096) with c | c
  · exact rsplit4096_one lo hi w h0 h1 h2 (eq_of_beq c)
  · have cn : lo / 4096 ≠ hi / 4096 := by simpa using c
    by_cases hp : lo % 4096 = 0 <;> by_cases hl : hi % 4096 = 4095 <;> by_cases hr : (lo + 4096 - 1) / 4096 * 4096 ≤ (hi + 1) / 4096 * 4096 - 1
    · exact rsplit4096_111 lo hi _ _ w h0 h1 h2 c rfl rfl hp hl hr
    · exfalso; omega
    · exact rsplit4096_101 lo hi _ _ w h0 h1 h2 c rfl rfl hp hl hr
    · exact rsplit4096_100 lo hi _ _ w h0 h1 h2 c rfl rfl hp hl hr
    · exact rsplit4096_011 lo hi _ _ w h0 h1 h2 c rfl rfl hp hl hr
    · exact rsplit4096_010 lo hi _ _ w h0 h1 h2 c rfl rfl hp hl hr
    · exact rsplit4096_001 lo hi _ _ w h0 h1 h2 c rfl rfl hp hl hr
    · exact rsplit4096_000 lo hi _ _ w h0 h1 h2 c rfl rfl hp hl hr

set_option maxRecDepth 20000 in
set_option maxHeartbeats 2000000 in
theorem rsplit262144_one (lo hi : Int) (w : World) (h0 : 0 ≤ lo) (h1 : lo ≤ hi) (h2 : hi ≤ 1114111) (hq : lo / 262144 = hi / 262144) :
    Calls Tryd.prog 30 #[.agg #[.int .i64 lo, .int .i64 hi], .int .i64 262144] w (LiO w (Q.cutL 262144 (lo, hi))) := by
  obtain ⟨i0, hi0, hz0, hz1, hz2⟩ := info_parts infoRg
  have st : Hid ([(lo, hi)] = Q.cutL 262144 (lo, hi)) := by show _ = _; rw [cut_one hq]
  go_enter Tryd.func30, Tryd.ntmps30
  go_wp2_with fail
  go_quiet (fail)
  go_wp2_with (at_builtin; (refine wpList_append_lies _ rfl _ _ 22 rfl w.heap.size 41 i0 _ 2 16 Tryd.underlying22 hi0 hz0 hz1 hz2 rfl (by omega) _ _ _ rfl (World.ownsRow_nil _ _ 41 2) _ 1 1 [.int .i64 lo, .int .i64 hi] rfl rfl (new_cells _ _ _ _ (by simp)) (by simp [Value.oneCell']) (by omega) (by unfold maxLen; omega) (by omega) (by simp <;> omega) _ rfl ?_; intro g1 c1 w1 hown1 hgrow1 hat1 hlt1; have k1 := keep1 hgrow1; have fr1 := far1 hat1))
  go_ret
  have bw0 : Below w.heap.size w ((w.alloc (boxRg lo hi)).drewN nq) := (Below.new1 _).trans draws_below'
  have bs0 := bw0.size
  have bw1 := below_grow (World.ownsRow_nil _ _ 41 2) (bw0.alloc bs0 _) (by simp at bs0 ⊢; omega) hgrow1
  exact ⟨_, rfl, by rw [← st.out]; exact hown1, bw1⟩

set_option maxRecDepth 20000 in
set_option maxHeartbeats 2000000 in
theorem rsplit262144_111 (lo hi F B : Int) (w : World) (h0 : 0 ≤ lo) (h1 : lo ≤ hi) (h2 : hi ≤ 1114111) (hq : (lo / 262144 == hi / 262144) = false) (hF : (lo + 262144 - 1) / 262144 * 262144 = F) (hB : (hi + 1) / 262144 * 262144 = B) (hp : lo % 262144 = 0) (hl : hi % 262144 = 262143) (hr : F ≤ B - 1) :
    Calls Tryd.prog 30 #[.agg #[.int .i64 lo, .int .i64 hi], .int .i64 262144] w (LiO w (Q.cutL 262144 (lo, hi))) := by
  obtain ⟨i0, hi0, hz0, hz1, hz2⟩ := info_parts infoRg
  have st : Hid ([(lo, hi)] = Q.cutL 262144 (lo, hi)) := by
    show _ = _
    rw [cut_tri hq, hF, hB, tri_n2 (by omega), tri_y1 hr, tri_n0 (by omega), tri_z]
    simp only [List.nil_append, List.cons_append]
    rw [show F = lo by omega, show B - 1 = hi by omega]
  have e1 : ((lo % 262144 != 0) : Bool) = false := by simp [hp]
  have e2 : ((hi % 262144 != 262144 - 1) : Bool) = false := by simp [hl]
  have e2' : ((hi % 262144 != 262143) : Bool) = false := by simp [hl]
  have e7 : (lo ≤ hi) := by omega
  have e8 : ¬ (hi < hi) := by omega
  have bF : 0 ≤ F ∧ F ≤ 2000000 := by omega
  have bB : 0 ≤ B ∧ B ≤ 2000000 := by omega
  obtain ⟨bF0, bF1⟩ := bF
  obtain ⟨bB0, bB1⟩ := bB
  clear hF hB hp hl hr
  go_enter Tryd.func30, Tryd.ntmps30
  go_wp2_with fail
  go_quiet (fail)
  go_wp2_with (at_builtin; first | (refine wpList_append_lies _ rfl _ _ 22 rfl w.heap.size 41 i0 _ 2 16 Tryd.underlying22 hi0 hz0 hz1 hz2 rfl (by omega) _ _ _ rfl (World.ownsRow_nil _ _ 41 2) _ 1 1 [.int .i64 lo, .int .i64 hi] rfl rfl (new_cells _ _ _ _ (by simp)) (by simp [Value.oneCell']) (by omega) (by unfold maxLen; omega) (by omega) (by simp <;> omega) _ rfl ?_; intro g1 c1 w1 hown1 hgrow1 hat1 hlt1; have k1 := keep1 hgrow1; have fr1 := far1 hat1))
  go_ret
  have bw0 : Below w.heap.size w ((w.alloc (boxRg lo hi)).drewN nq) := (Below.new1 _).trans draws_below'
  have bs0 := bw0.size
  have bw1 := below_grow (World.ownsRow_nil _ _ 41 2) (bw0.alloc bs0 _) (by simp at bs0 ⊢; omega) hgrow1
  exact ⟨_, rfl, by rw [← st.out]; exact hown1, bw1⟩

set_option maxRecDepth 20000 in
set_option maxHeartbeats 2000000 in
theorem rsplit262144_101 (lo hi F B : Int) (w : World) (h0 : 0 ≤ lo) (h1 : lo ≤ hi) (h2 : hi ≤ 1114111) (hq : (lo / 262144 == hi / 262144) = false) (hF : (lo + 262144 - 1) / 262144 * 262144 = F) (hB : (hi + 1) / 262144 * 262144 = B) (hp : lo % 262144 = 0) (hl : hi % 262144 ≠ 262143) (hr : F ≤ B - 1) :
    Calls Tryd.prog 30 #[.agg #[.int .i64 lo, .int .i64 hi], .int .i64 262144] w (LiO w (Q.cutL 262144 (lo, hi))) := by
  obtain ⟨i0, hi0, hz0, hz1, hz2⟩ := info_parts infoRg
  have st : Hid ([(lo, (B - 1)), (B, hi)] = Q.cutL 262144 (lo, hi)) := by
    show _ = _
    rw [cut_tri hq, hF, hB, tri_y2 (by omega), tri_y1 hr, tri_n0 (by omega), tri_z]
    simp only [List.nil_append, List.cons_append]
    rw [show F = lo by omega]
  have e1 : ((lo % 262144 != 0) : Bool) = false := by simp [hp]
  have e2 : ((hi % 262144 != 262144 - 1) : Bool) = true := by simp [hl]
  have e2' : ((hi % 262144 != 262143) : Bool) = true := by simp [hl]
  have e5 : hi / 262144 * 262144 - 1 = B - 1 := by omega
  have e6 : B - 1 + 1 = B := by omega
  have e7 : (lo ≤ B - 1) := by omega
  have e8 : (B - 1 < hi) := by omega
  have bF : 0 ≤ F ∧ F ≤ 2000000 := by omega
  have bB : 0 ≤ B ∧ B ≤ 2000000 := by omega
  obtain ⟨bF0, bF1⟩ := bF
  obtain ⟨bB0, bB1⟩ := bB
  clear hF hB hp hl hr
  go_enter Tryd.func30, Tryd.ntmps30
  go_wp2_with fail
  go_quiet (fail)
  go_wp2_with (at_builtin; first | (refine wpList_append_lies _ rfl _ _ 22 rfl w.heap.size 41 i0 _ 2 16 Tryd.underlying22 hi0 hz0 hz1 hz2 rfl (by omega) _ _ _ rfl (hown1.alloc _) _ 1 1 [.int .i64 B, .int .i64 hi] rfl rfl (new_cells _ _ _ _ (by simp)) (by simp [Value.oneCell']) (by omega) (by unfold maxLen; omega) (by omega) (by have hs := hgrow1.size; simp at hs ⊢ <;> omega) _ rfl ?_; intro g2 c2 w2 hown2 hgrow2 hat2 hlt2; have k2 := keep2 k1 fr1 hgrow2; have fr2 := far2 fr1 (block_lt' k1) hat2) | (refine wpList_append_lies _ rfl _ _ 22 rfl w.heap.size 41 i0 _ 2 16 Tryd.underlying22 hi0 hz0 hz1 hz2 rfl (by omega) _ _ _ rfl (World.ownsRow_nil _ _ 41 2) _ 1 1 [.int .i64 lo, .int .i64 (B - 1)] rfl rfl (new_cells _ _ _ _ (by simp)) (by simp [Value.oneCell']) (by omega) (by unfold maxLen; omega) (by omega) (by simp <;> omega) _ rfl ?_; intro g1 c1 w1 hown1 hgrow1 hat1 hlt1; have k1 := keep1 hgrow1; have fr1 := far1 hat1))
  go_ret
  have bw0 : Below w.heap.size w ((w.alloc (boxRg lo hi)).drewN nq) := (Below.new1 _).trans draws_below'
  have bs0 := bw0.size
  have bw1 := below_grow (World.ownsRow_nil _ _ 41 2) (bw0.alloc bs0 _) (by simp at bs0 ⊢; omega) hgrow1
  have bs1 := bw1.size
  have bw2 := below_grow (hown1.alloc _) (bw1.alloc bs1 _) (by simp at bs1 ⊢; omega) hgrow2
  exact ⟨_, rfl, by rw [← st.out]; exact hown2, bw2⟩

set_option maxRecDepth 20000 in
set_option maxHeartbeats 2000000 in
theorem rsplit262144_100 (lo hi F B : Int) (w : World) (h0 : 0 ≤ lo) (h1 : lo ≤ hi) (h2 : hi ≤ 1114111) (hq : (lo / 262144 == hi / 262144) = false) (hF : (lo + 262144 - 1) / 262144 * 262144 = F) (hB : (hi + 1) / 262144 * 262144 = B) (hp : lo % 262144 = 0) (hl : hi % 262144 ≠ 262143) (hr : ¬ F ≤ B - 1) :
    Calls Tryd.prog 30 #[.agg #[.int .i64 lo, .int .i64 hi], .int .i64 262144] w (LiO w (Q.cutL 262144 (lo, hi))) := by
  obtain ⟨i0, hi0, hz0, hz1, hz2⟩ := info_parts infoRg
  have st : Hid ([(B, hi)] = Q.cutL 262144 (lo, hi)) := by
    show _ = _
    rw [cut_tri hq, hF, hB, tri_y2 (by omega), tri_n1 hr, tri_n0 (by omega), tri_z]
    simp only [List.nil_append, List.cons_append]
  have e1 : ((lo % 262144 != 0) : Bool) = false := by simp [hp]
  have e2 : ((hi % 262144 != 262144 - 1) : Bool) = true := by simp [hl]
  have e2' : ((hi % 262144 != 262143) : Bool) = true := by simp [hl]
  have e5 : hi / 262144 * 262144 - 1 = B - 1 := by omega
  have e6 : B - 1 + 1 = B := by omega
  have e7 : ¬ (lo ≤ B - 1) := by omega
  have e8 : (B - 1 < hi) := by omega
  have bF : 0 ≤ F ∧ F ≤ 2000000 := by omega
  have bB : 0 ≤ B ∧ B ≤ 2000000 := by omega
  obtain ⟨bF0, bF1⟩ := bF
  obtain ⟨bB0, bB1⟩ := bB
  clear hF hB hp hl hr
  go_enter Tryd.func30, Tryd.ntmps30
  go_wp2_with fail
  go_quiet (fail)
  go_wp2_with (at_builtin; first | (refine wpList_append_lies _ rfl _ _ 22 rfl w.heap.size 41 i0 _ 2 16 Tryd.underlying22 hi0 hz0 hz1 hz2 rfl (by omega) _ _ _ rfl (World.ownsRow_nil _ _ 41 2) _ 1 1 [.int .i64 B, .int .i64 hi] rfl rfl (new_cells _ _ _ _ (by simp)) (by simp [Value.oneCell']) (by omega) (by unfold maxLen; omega) (by omega) (by simp <;> omega) _ rfl ?_; intro g1 c1 w1 hown1 hgrow1 hat1 hlt1; have k1 := keep1 hgrow1; have fr1 := far1 hat1))
  go_ret
  have bw0 : Below w.heap.size w ((w.alloc (boxRg lo hi)).drewN nq) := (Below.new1 _).trans draws_below'
  have bs0 := bw0.size
  have bw1 := below_grow (World.ownsRow_nil _ _ 41 2) (bw0.alloc bs0 _) (by simp at bs0 ⊢; omega) hgrow1
  exact ⟨_, rfl, by rw [← st.out]; exact hown1, bw1⟩

set_option maxRecDepth 20000 in
set_option maxHeartbeats 2000000 in
theorem rsplit262144_011 (lo hi F B : Int) (w : World) (h0 : 0 ≤ lo) (h1 : lo ≤ hi) (h2 : hi ≤ 1114111) (hq : (lo / 262144 == hi / 262144) = false) (hF : (lo + 262144 - 1) / 262144 * 262144 = F) (hB : (hi + 1) / 262144 * 262144 = B) (hp : lo % 262144 ≠ 0) (hl : hi % 262144 = 262143) (hr : F ≤ B - 1) :
    Calls Tryd.prog 30 #[.agg #[.int .i64 lo, .int .i64 hi], .int .i64 262144] w (LiO w (Q.cutL 262144 (lo, hi))) := by
  obtain ⟨i0, hi0, hz0, hz1, hz2⟩ := info_parts infoRg
  have st : Hid ([(lo, (F - 1)), (F, hi)] = Q.cutL 262144 (lo, hi)) := by
    show _ = _
    rw [cut_tri hq, hF, hB, tri_n2 (by omega), tri_y1 hr, tri_y0 (by omega), tri_z]
    simp only [List.nil_append, List.cons_append]
    rw [show B - 1 = hi by omega]
  have e1 : ((lo % 262144 != 0) : Bool) = true := by simp [hp]
  have e2 : ((hi % 262144 != 262144 - 1) : Bool) = false := by simp [hl]
  have e2' : ((hi % 262144 != 262143) : Bool) = false := by simp [hl]
  have e3 : lo / 262144 * 262144 + 262144 - 1 = F - 1 := by omega
  have e4 : F - 1 + 1 = F := by omega
  have e7 : (F ≤ hi) := by omega
  have e8 : ¬ (hi < hi) := by omega
  have bF : 0 ≤ F ∧ F ≤ 2000000 := by omega
  have bB : 0 ≤ B ∧ B ≤ 2000000 := by omega
  obtain ⟨bF0, bF1⟩ := bF
  obtain ⟨bB0, bB1⟩ := bB
  clear hF hB hp hl hr
  go_enter Tryd.func30, Tryd.ntmps30
  go_wp2_with fail
  go_quiet (fail)
  go_wp2_with (at_builtin; first | (refine wpList_append_lies _ rfl _ _ 22 rfl w.heap.size 41 i0 _ 2 16 Tryd.underlying22 hi0 hz0 hz1 hz2 rfl (by omega) _ _ _ rfl (hown1.alloc _) _ 1 1 [.int .i64 F, .int .i64 hi] rfl rfl (new_cells _ _ _ _ (by simp)) (by simp [Value.oneCell']) (by omega) (by unfold maxLen; omega) (by omega) (by have hs := hgrow1.size; simp at hs ⊢ <;> omega) _ rfl ?_; intro g2 c2 w2 hown2 hgrow2 hat2 hlt2; have k2 := keep2 k1 fr1 hgrow2; have fr2 := far2 fr1 (block_lt' k1) hat2) | (refine wpList_append_lies _ rfl _ _ 22 rfl w.heap.size 41 i0 _ 2 16 Tryd.underlying22 hi0 hz0 hz1 hz2 rfl (by omega) _ _ _ rfl (World.ownsRow_nil _ _ 41 2) _ 1 1 [.int .i64 lo, .int .i64 (F - 1)] rfl rfl (new_cells _ _ _ _ (by simp)) (by simp [Value.oneCell']) (by omega) (by unfold maxLen; omega) (by omega) (by simp <;> omega) _ rfl ?_; intro g1 c1 w1 hown1 hgrow1 hat1 hlt1; have k1 := keep1 hgrow1; have fr1 := far1 hat1))
  go_ret
  have bw0 : Below w.heap.size w ((w.alloc (boxRg lo hi)).drewN nq) := (Below.new1 _).trans draws_below'
  have bs0 := bw0.size
  have bw1 := below_grow (World.ownsRow_nil _ _ 41 2) (bw0.alloc bs0 _) (by simp at bs0 ⊢; omega) hgrow1
  have bs1 := bw1.size
  have bw2 := below_grow (hown1.alloc _) (bw1.alloc bs1 _) (by simp at bs1 ⊢; omega) hgrow2
  exact ⟨_, rfl, by rw [← st.out]; exact hown2, bw2⟩

set_option maxRecDepth 20000 in
set_option maxHeartbeats 2000000 in
theorem rsplit262144_010 (lo hi F B : Int) (w : World) (h0 : 0 ≤ lo) (h1 : lo ≤ hi) (h2 : hi ≤ 1114111) (hq : (lo / 262144 == hi / 262144) = false) (hF : (lo + 262144 - 1) / 262144 * 262144 = F) (hB : (hi + 1) / 262144 * 262144 = B) (hp : lo % 262144 ≠ 0) (hl : hi % 262144 = 262143) (hr : ¬ F ≤ B - 1) :
    Calls Tryd.prog 30 #[.agg #[.int .i64 lo, .int .i64 hi], .int .i64 262144] w (LiO w (Q.cutL 262144 (lo, hi))) := by
  obtain ⟨i0, hi0, hz0, hz1, hz2⟩ := info_parts infoRg
  have st : Hid ([(lo, (F - 1))] = Q.cutL 262144 (lo, hi)) := by
    show _ = _
    rw [cut_tri hq, hF, hB, tri_n2 (by omega), tri_n1 hr, tri_y0 (by omega), tri_z]
    simp only [List.nil_append, List.cons_append]
  have e1 : ((lo % 262144 != 0) : Bool) = true := by simp [hp]
  have e2 : ((hi % 262144 != 262144 - 1) : Bool) = false := by simp [hl]
  have e2' : ((hi % 262144 != 262143) : Bool) = false := by simp [hl]
  have e3 : lo / 262144 * 262144 + 262144 - 1 = F - 1 := by omega
  have e4 : F - 1 + 1 = F := by omega
  have e7 : ¬ (F ≤ hi) := by omega
  have e8 : ¬ (hi < hi) := by omega
  have bF : 0 ≤ F ∧ F ≤ 2000000 := by omega
  have bB : 0 ≤ B ∧ B ≤ 2000000 := by omega
  obtain ⟨bF0, bF1⟩ := bF
  obtain ⟨bB0, bB1⟩ := bB
  clear hF hB hp hl hr
  go_enter Tryd.func30, Tryd.ntmps30
  go_wp2_with fail
  go_quiet (fail)
  go_wp2_with (at_builtin; first | (refine wpList_append_lies _ rfl _ _ 22 rfl w.heap.size 41 i0 _ 2 16 Tryd.underlying22 hi0 hz0 hz1 hz2 rfl (by omega) _ _ _ rfl (World.ownsRow_nil _ _ 41 2) _ 1 1 [.int .i64 lo, .int .i64 (F - 1)] rfl rfl (new_cells _ _ _ _ (by simp)) (by simp [Value.oneCell']) (by omega) (by unfold maxLen; omega) (by omega) (by simp <;> omega) _ rfl ?_; intro g1 c1 w1 hown1 hgrow1 hat1 hlt1; have k1 := keep1 hgrow1; have fr1 := far1 hat1))
  go_ret
  have bw0 : Below w.heap.size w ((w.alloc (boxRg lo hi)).drewN nq) := (Below.new1 _).trans draws_below'
  have bs0 := bw0.size
  have bw1 := below_grow (World.ownsRow_nil _ _ 41 2) (bw0.alloc bs0 _) (by simp at bs0 ⊢; omega) hgrow1
  exact ⟨_, rfl, by rw [← st.out]; exact hown1, bw1⟩

set_option maxRecDepth 20000 in
set_option maxHeartbeats 2000000 in
theorem rsplit262144_001 (lo hi F B : Int) (w : World) (h0 : 0 ≤ lo) (h1 : lo ≤ hi) (h2 : hi ≤ 1114111) (hq : (lo / 262144 == hi / 262144) = false) (hF : (lo + 262144 - 1) / 262144 * 262144 = F) (hB : (hi + 1) / 262144 * 262144 = B) (hp : lo % 262144 ≠ 0) (hl : hi % 262144 ≠ 262143) (hr : F ≤ B - 1) :
    Calls Tryd.prog 30 #[.agg #[.int .i64 lo, .int .i64 hi], .int .i64 262144] w (LiO w (Q.cutL 262144 (lo, hi))) := by
  obtain ⟨i0, hi0, hz0, hz1, hz2⟩ := info_parts infoRg
  have st : Hid ([(lo, (F - 1)), (F, (B - 1)), (B, hi)] = Q.cutL 262144 (lo, hi)) := by
    show _ = _
    rw [cut_tri hq, hF, hB, tri_y2 (by omega), tri_y1 hr, tri_y0 (by omega), tri_z]
    simp only [List.nil_append, List.cons_append]
  have e1 : ((lo % 262144 != 0) : Bool) = true := by simp [hp]
  have e2 : ((hi % 262144 != 262144 - 1) : Bool) = true := by simp [hl]
  have e2' : ((hi % 262144 != 262143) : Bool) = true := by simp [hl]
  have e3 : lo / 262144 * 262144 + 262144 - 1 = F - 1 := by omega
  have e4 : F - 1 + 1 = F := by omega
  have e5 : hi / 262144 * 262144 - 1 = B - 1 := by omega
  have e6 : B - 1 + 1 = B := by omega
  have e7 : (F ≤ B - 1) := by omega
  have e8 : (B - 1 < hi) := by omega
  have bF : 0 ≤ F ∧ F ≤ 2000000 := by omega
  have bB : 0 ≤ B ∧ B ≤ 2000000 := by omega
  obtain ⟨bF0, bF1⟩ := bF
  obtain ⟨bB0, bB1⟩ := bB
  clear hF hB hp hl hr
  go_enter Tryd.func30, Tryd.ntmps30
  go_wp2_with fail
  go_quiet (fail)
  go_wp2_with (at_builtin; first | (refine wpList_append_lies _ rfl _ _ 22 rfl w.heap.size 41 i0 _ 2 16 Tryd.underlying22 hi0 hz0 hz1 hz2 rfl (by omega) _ _ _ rfl (hown2.alloc _) _ 1 1 [.int .i64 B, .int .i64 hi] rfl rfl (new_cells _ _ _ _ (by simp)) (by simp [Value.oneCell']) (by omega) (by unfold maxLen; omega) (by omega) (by have hs := hgrow2.size; have hs' := hgrow1.size; simp at hs hs' ⊢ <;> omega) _ rfl ?_; intro g3 c3 w3 hown3 hgrow3 hat3 hlt3; have k3 := keep2 k2 fr2 hgrow3; have fr3 := far2 fr2 (block_lt' k2) hat3) | (refine wpList_append_lies _ rfl _ _ 22 rfl w.heap.size 41 i0 _ 2 16 Tryd.underlying22 hi0 hz0 hz1 hz2 rfl (by omega) _ _ _ rfl (hown1.alloc _) _ 1 1 [.int .i64 F, .int .i64 (B - 1)] rfl rfl (new_cells _ _ _ _ (by simp)) (by simp [Value.oneCell']) (by omega) (by unfold maxLen; omega) (by omega) (by have hs := hgrow1.size; simp at hs ⊢ <;> omega) _ rfl ?_; intro g2 c2 w2 hown2 hgrow2 hat2 hlt2; have k2 := keep2 k1 fr1 hgrow2; have fr2 := far2 fr1 (block_lt' k1) hat2) | (refine wpList_append_lies _ rfl _ _ 22 rfl w.heap.size 41 i0 _ 2 16 Tryd.underlying22 hi0 hz0 hz1 hz2 rfl (by omega) _ _ _ rfl (World.ownsRow_nil _ _ 41 2) _ 1 1 [.int .i64 lo, .int .i64 (F - 1)] rfl rfl (new_cells _ _ _ _ (by simp)) (by simp [Value.oneCell']) (by omega) (by unfold maxLen; omega) (by omega) (by simp <;> omega) _ rfl ?_; intro g1 c1 w1 hown1 hgrow1 hat1 hlt1; have k1 := keep1 hgrow1; have fr1 := far1 hat1))
  go_ret
  have bw0 : Below w.heap.size w ((w.alloc (boxRg lo hi)).drewN nq) := (Below.new1 _).trans draws_below'
  have bs0 := bw0.size
  have bw1 := below_grow (World.ownsRow_nil _ _ 41 2) (bw0.alloc bs0 _) (by simp at bs0 ⊢; omega) hgrow1
  have bs1 := bw1.size
  have bw2 := below_grow (hown1.alloc _) (bw1.alloc bs1 _) (by simp at bs1 ⊢; omega) hgrow2
  have bs2 := bw2.size
  have bw3 := below_grow (hown2.alloc _) (bw2.alloc bs2 _) (by simp at bs2 ⊢; omega) hgrow3
  exact ⟨_, rfl, by rw [← st.out]; exact hown3, bw3⟩

set_option maxRecDepth 20000 in
set_option maxHeartbeats 2000000 in
theorem rsplit262144_000 (lo hi F B : Int) (w : World) (h0 : 0 ≤ lo) (h1 : lo ≤ hi) (h2 : hi ≤ 1114111) (hq : (lo / 262144 == hi / 262144) = false) (hF : (lo + 262144 - 1) / 262144 * 262144 = F) (hB : (hi + 1) / 262144 * 262144 = B) (hp : lo % 262144 ≠ 0) (hl : hi % 262144 ≠ 262143) (hr : ¬ F ≤ B - 1) :
    Calls Tryd.prog 30 #[.agg #[.int .i64 lo, .int .i64 hi], .int .i64 262144] w (LiO w (Q.cutL 262144 (lo, hi))) := by
  obtain ⟨i0, hi0, hz0, hz1, hz2⟩ := info_parts infoRg
  have st : Hid ([(lo, (F - 1)), (B, hi)] = Q.cutL 262144 (lo, hi)) := by
    show _ = _
    rw [cut_tri hq, hF, hB, tri_y2 (by omega), tri_n1 hr, tri_y0 (by omega), tri_z]
    simp only [List.nil_append, List.cons_append]
  have e1 : ((lo % 262144 != 0) : Bool) = true := by simp [hp]
  have e2 : ((hi % 262144 != 262144 - 1) : Bool) = true := by simp [hl]
  have e2' : ((hi % 262144 != 262143) : Bool) = true := by simp [hl]
  have e3 : lo / 262144 * 262144 + 262144 - 1 = F - 1 := by omega
  have e4 : F - 1 + 1 = F := by omega
  have e5 : hi / 262144 * 262144 - 1 = B - 1 := by omega
  have e6 : B - 1 + 1 = B := by omega
  have e7 : ¬ (F ≤ B - 1) := by omega
  have e8 : (B - 1 < hi) := by omega
  have bF : 0 ≤ F ∧ F ≤ 2000000 := by omega
  have bB : 0 ≤ B ∧ B ≤ 2000000 := by omega
  obtain ⟨bF0, bF1⟩ := bF
  obtain ⟨bB0, bB1⟩ := bB
  clear hF hB hp hl hr
  go_enter Tryd.func30, Tryd.ntmps30
  go_wp2_with fail
  go_quiet (fail)
  go_wp2_with (at_builtin; first | (refine wpList_append_lies _ rfl _ _ 22 rfl w.heap.size 41 i0 _ 2 16 Tryd.underlying22 hi0 hz0 hz1 hz2 rfl (by omega) _ _ _ rfl (hown1.alloc _) _ 1 1 [.int .i64 B, .int .i64 hi] rfl rfl (new_cells _ _ _ _ (by simp)) (by simp [Value.oneCell']) (by omega) (by unfold maxLen; omega) (by omega) (by have hs := hgrow1.size; simp at hs ⊢ <;> omega) _ rfl ?_; intro g2 c2 w2 hown2 hgrow2 hat2 hlt2; have k2 := keep2 k1 fr1 hgrow2; have fr2 := far2 fr1 (block_lt' k1) hat2) | (refine wpList_append_lies _ rfl _ _ 22 rfl w.heap.size 41 i0 _ 2 16 Tryd.underlying22 hi0 hz0 hz1 hz2 rfl (by omega) _ _ _ rfl (World.ownsRow_nil _ _ 41 2) _ 1 1 [.int .i64 lo, .int .i64 (F - 1)] rfl rfl (new_cells _ _ _ _ (by simp)) (by simp [Value.oneCell']) (by omega) (by unfold maxLen; omega) (by omega) (by simp <;> omega) _ rfl ?_; intro g1 c1 w1 hown1 hgrow1 hat1 hlt1; have k1 := keep1 hgrow1; have fr1 := far1 hat1))
  go_ret
  have bw0 : Below w.heap.size w ((w.alloc (boxRg lo hi)).drewN nq) := (Below.new1 _).trans draws_below'
  have bs0 := bw0.size
  have bw1 := below_grow (World.ownsRow_nil _ _ 41 2) (bw0.alloc bs0 _) (by simp at bs0 ⊢; omega) hgrow1
  have bs1 := bw1.size
  have bw2 := below_grow (hown1.alloc _) (bw1.alloc bs1 _) (by simp at bs1 ⊢; omega) hgrow2
  exact ⟨_, rfl, by rw [← st.out]; exact hown2, bw2⟩

theorem rsplit262144_any (lo hi : Int) (w : World) (h0 : 0 ≤ lo) (h1 : lo ≤ hi) (h2 : hi ≤ 1114111) :
    Calls Tryd.prog 30 #[.agg #[.int .i64 lo, .int .i64 hi], .int .i64 262144] w (LiO w (Q.cutL 262144 (lo, hi))) := by
  rcases Bool.eq_false_or_eq_true (lo / 262144 == hi / 262144) with c | c
  · exact rsplit262144_one lo hi w h0 h1 h2 (eq_of_beq c)
  · have cn : lo / 262144 ≠ hi / 262144 := by simpa using c
    by_cases hp : lo % 262144 = 0 <;> by_cases hl : hi % 262144 = 262143 <;> by_cases hr : (lo + 262144 - 1) / 262144 * 262144 ≤ (hi + 1) / 262144 * 262144 - 1
    · exact rsplit262144_111 lo hi _ _ w h0 h1 h2 c rfl rfl hp hl hr
    · exfalso; omega
    · exact rsplit262144_101 lo hi _ _ w h0 h1 h2 c rfl rfl hp hl hr
    · exact rsplit262144_100 lo hi _ _ w h0 h1 h2 c rfl rfl hp hl hr
    · exact rsplit262144_011 lo hi _ _ w h0 h1 h2 c rfl rfl hp hl hr
    · exact rsplit262144_010 lo hi _ _ w h0 h1 h2 c rfl rfl hp hl hr
    · exact rsplit262144_001 lo hi _ _ w h0 h1 h2 c rfl rfl hp hl hr
    · exact rsplit262144_000 lo hi _ _ w h0 h1 h2 c rfl rfl hp hl hr

end Go.Proofs.YtejipaapbfjooaaDoor
