/- The contract of seqs.cut: a range, split at 6, 12 or 18 bits. -/
import Derived.Test.YtejipaapbfjooaaDoorRgClip
import Derived.Test.YtejipaapbfjooaaDoorRgHas
import Derived.Test.YtejipaapbfjooaaDoorRgSets
import Derived.Test.YtejipaapbfjooaaDoorSqFit
import Derived.Deep.QuietTactic
import Derived.BigQuiet
namespace Go.Proofs.YtejipaapbfjooaaDoor
open Go.RowKit
set_option linter.unusedVariables false
set_option linter.unusedSimpArgs false

theorem idx3_0 (a b c d e f : Value) (w : World) : (Instr.index 100 (.agg #[a, b, c, d, e, f]) (.int .i64 0)).run Tryd.prog w = .ok (.agg #[a, b]) w := by
  simp [Instr.index, asIntOf, run_underlying Tryd.underlying100, go_sem]
theorem idx3_1 (a b c d e f : Value) (w : World) : (Instr.index 100 (.agg #[a, b, c, d, e, f]) (.int .i64 1)).run Tryd.prog w = .ok (.agg #[c, d]) w := by
  simp [Instr.index, asIntOf, run_underlying Tryd.underlying100, go_sem]
theorem idx3_2 (a b c d e f : Value) (w : World) : (Instr.index 100 (.agg #[a, b, c, d, e, f]) (.int .i64 2)).run Tryd.prog w = .ok (.agg #[e, f]) w := by
  simp [Instr.index, asIntOf, run_underlying Tryd.underlying100, go_sem]
attribute [local go_sem] idx3_0 idx3_1 idx3_2

/-- the first of the three parts that are not empty -/
def triK (lo F B hi : Int) (k : Nat) : List (Int × Int) := (([(lo, F - 1), (F, B - 1), (B, hi)] : List (Int × Int)).take k).filter fun p => decide (p.1 ≤ p.2)
theorem tri_z (lo F B hi : Int) : triK lo F B hi 0 = [] := rfl
theorem tri_y0 {lo F B hi : Int} (h : lo ≤ F - 1) : triK lo F B hi 1 = triK lo F B hi 0 ++ [(lo, F - 1)] := by simp [triK, List.filter_cons, h]
theorem tri_n0 {lo F B hi : Int} (h : ¬ lo ≤ F - 1) : triK lo F B hi 1 = triK lo F B hi 0 := by simp [triK, List.filter_cons, h]
theorem tri_y1 {lo F B hi : Int} (h : F ≤ B - 1) : triK lo F B hi 2 = triK lo F B hi 1 ++ [(F, B - 1)] := by
  by_cases h0 : lo ≤ F - 1 <;> simp [triK, List.filter_cons, h, h0]
theorem tri_n1 {lo F B hi : Int} (h : ¬ F ≤ B - 1) : triK lo F B hi 2 = triK lo F B hi 1 := by
  by_cases h0 : lo ≤ F - 1 <;> simp [triK, List.filter_cons, h, h0]
theorem tri_y2 {lo F B hi : Int} (h : B ≤ hi) : triK lo F B hi 3 = triK lo F B hi 2 ++ [(B, hi)] := by
  by_cases h0 : lo ≤ F - 1 <;> by_cases h1 : F ≤ B - 1 <;> simp [triK, List.filter_cons, h, h0, h1]
theorem tri_n2 {lo F B hi : Int} (h : ¬ B ≤ hi) : triK lo F B hi 3 = triK lo F B hi 2 := by
  by_cases h0 : lo ≤ F - 1 <;> by_cases h1 : F ≤ B - 1 <;> simp [triK, List.filter_cons, h, h0, h1]
theorem cut_tri {k lo hi : Int} (h : (lo / k == hi / k) = false) : Q.cutL k (lo, hi) = triK lo ((lo + k - 1) / k * k) ((hi + 1) / k * k) hi 3 := by
  unfold Q.cutL
  rw [if_neg (by simpa using h)]
  rfl
theorem cut_one {k lo hi : Int} (h : lo / k = hi / k) : Q.cutL k (lo, hi) = [(lo, hi)] := by unfold Q.cutL; rw [if_pos h]

theorem ow_box (w : World) (k : Nat) (lo hi : Int) (n base : Nat) (hn : n = (w.drewN k).heap.size) (hb : base ≤ n) : Ow ((w.drewN k).alloc (boxRg lo hi)) base (.slice (some ⟨n, 0, none⟩) 1 1) [(lo, hi)] := by
  subst hn
  exact ⟨rfl, .inr ⟨_, 1, #[.int .i64 lo, .int .i64 hi], rfl, hb, heap_alloc_new _ _, Nat.le_refl _, by decide, rfl, rfl⟩⟩
theorem draws_below' {w : World} {k : Nat} {B : Nat} : Below B w (w.drewN k) := ⟨rfl, rfl, rfl, Nat.le_refl _, fun _ _ => rfl⟩

set_option maxRecDepth 20000 in
set_option maxHeartbeats 1000000 in
theorem cut6_same (lo hi : Int) (w : World) (h0 : 0 ≤ lo) (h1 : lo ≤ hi) (h2 : hi ≤ 1114111) (hq : lo / 64 = hi / 64) :
    Calls Tryd.prog 64 #[.int .i64 6, .agg #[.int .i64 lo, .int .i64 hi]] w fun e w' => ∃ v, e = .returned v ∧ Ow w' w.heap.size v [(lo, hi)] ∧ Below w.heap.size w w' := by
  go_enter Tryd.func64, Tryd.ntmps64
  go_wp2_with fail
  go_quiet (fail)
  go_wp2_with fail
  go_ret
  exact ⟨_, rfl, ow_box _ _ _ _ _ _ (by simp) (by simp), (((Below.new1 _).trans draws_below').alloc (by simp) _)⟩

set_option maxRecDepth 20000 in
set_option maxHeartbeats 2000000 in
theorem cut6_other (lo hi : Int) (w : World) (h0 : 0 ≤ lo) (h1 : lo ≤ hi) (h2 : hi ≤ 1114111) (hq : (lo / 64 == hi / 64) = false) :
    Calls Tryd.prog 64 #[.int .i64 6, .agg #[.int .i64 lo, .int .i64 hi]] w fun e w' => ∃ v, e = .returned v ∧ Ow w' w.heap.size v (triK lo ((lo + 64 - 1) / 64 * 64) ((hi + 1) / 64 * 64) hi 3) ∧ Below w.heap.size w w' := by
  obtain ⟨i0, hi0, hz0, hz1, hz2⟩ := info_parts infoRg
  go_enter Tryd.func64, Tryd.ntmps64
  go_wp2_with fail
  go_quiet (fail)
  go_wp2_with fail
  go_loopw [9, 56] (fun v i wr => ∃ (k : Nat) (out : List (Int × Int)), k ≤ 3 ∧ i = .int .i64 k ∧ Hid (out = triK lo ((lo + 64 - 1) / 64 * 64) ((hi + 1) / 64 * 64) hi k) ∧ out.length ≤ k ∧ wr.ownsRow w.heap.size 41 2 v out.length (cellsL out) ∧ Below w.heap.size w wr) (fun _ i _ => 3 - (intOf i).toNat)
  case atStart => exact ⟨0, [], by omega, rfl, rfl, Nat.le_refl _, World.ownsRow_nil _ _ _ _, (((Below.new1 _).trans draws_below').alloc (by simp) _)⟩
  case round =>
    obtain ⟨k, out, hk, rfl, ho, hol, hown, hb⟩ := hrel
    have hb3 : k = 3 ∨ k = 0 ∨ k = 1 ∨ k = 2 := by omega
    rcases hb3 with rfl | rfl | rfl | rfl
    · go_wp2_with fail
      go_ret
      exact ⟨_, rfl, by have e := ho.out; rw [← e]; exact hown, hb⟩
    · by_cases t : lo ≤ (((lo + 64 - 1) / 64 * 64) - 1)
      · have st : Hid (out ++ [(lo, (((lo + 64 - 1) / 64 * 64) - 1))] = triK lo ((lo + 64 - 1) / 64 * 64) ((hi + 1) / 64 * 64) hi 1) := by
          show _ = _
          rw [tri_y0 t, ho.out]
        clear ho
        go_wp2_with (at_builtin; refine wpList_append_lies _ rfl _ _ 22 rfl w.heap.size 41 i0 _ 2 16 Tryd.underlying22 hi0 hz0 hz1 hz2 rfl (by omega) _ _ _ rfl ((hown.alloc _).alloc _) ⟨wr.heap.size + 1, 0, none⟩ 1 1 [.int .i64 lo, .int .i64 (((lo + 64 - 1) / 64 * 64) - 1)] rfl rfl (new_cells _ _ _ _ (by simp)) (by simp [Value.oneCell']) (by omega) (by unfold maxLen; omega) (by omega) (by have := hb.size; simp; omega) (wr.heap.size + 2) (by simp) ?_; intro gg cap1 w1 hown1 hgrow hat hlt1)
        go_roundw
        case rel => exact ⟨1, out ++ [(lo, (((lo + 64 - 1) / 64 * 64) - 1))], by omega, by go_num, st, by rw [List.length_append]; exact Nat.succ_le_succ hol, by rw [cellsL_append, List.length_append]; exact hown1, hb.trans (below_append2 hown hb.size hgrow)⟩
        case measure => simp [intOf]
      · have st : Hid (out = triK lo ((lo + 64 - 1) / 64 * 64) ((hi + 1) / 64 * 64) hi 1) := by
          show _ = _
          rw [tri_n0 t, ho.out]
        clear ho
        go_wp2_with fail
        go_roundw
        case rel => exact ⟨1, out, by omega, by go_num, st, by omega, hown.alloc _, hb.trans ((Below.new1 _).mono hb.size)⟩
        case measure => simp [intOf]
    · by_cases t : ((lo + 64 - 1) / 64 * 64) ≤ (((hi + 1) / 64 * 64) - 1)
      · have st : Hid (out ++ [(((lo + 64 - 1) / 64 * 64), (((hi + 1) / 64 * 64) - 1))] = triK lo ((lo + 64 - 1) / 64 * 64) ((hi + 1) / 64 * 64) hi 2) := by
          show _ = _
          rw [tri_y1 t, ho.out]
        clear ho
        go_wp2_with (at_builtin; refine wpList_append_lies _ rfl _ _ 22 rfl w.heap.size 41 i0 _ 2 16 Tryd.underlying22 hi0 hz0 hz1 hz2 rfl (by omega) _ _ _ rfl ((hown.alloc _).alloc _) ⟨wr.heap.size + 1, 0, none⟩ 1 1 [.int .i64 ((lo + 64 - 1) / 64 * 64), .int .i64 (((hi + 1) / 64 * 64) - 1)] rfl rfl (new_cells _ _ _ _ (by simp)) (by simp [Value.oneCell']) (by omega) (by unfold maxLen; omega) (by omega) (by have := hb.size; simp; omega) (wr.heap.size + 2) (by simp) ?_; intro gg cap1 w1 hown1 hgrow hat hlt1)
        go_roundw
        case rel => exact ⟨2, out ++ [(((lo + 64 - 1) / 64 * 64), (((hi + 1) / 64 * 64) - 1))], by omega, by go_num, st, by rw [List.length_append]; exact Nat.succ_le_succ hol, by rw [cellsL_append, List.length_append]; exact hown1, hb.trans (below_append2 hown hb.size hgrow)⟩
        case measure => simp [intOf]
      · have st : Hid (out = triK lo ((lo + 64 - 1) / 64 * 64) ((hi + 1) / 64 * 64) hi 2) := by
          show _ = _
          rw [tri_n1 t, ho.out]
        clear ho
        go_wp2_with fail
        go_roundw
        case rel => exact ⟨2, out, by omega, by go_num, st, by omega, hown.alloc _, hb.trans ((Below.new1 _).mono hb.size)⟩
        case measure => simp [intOf]
    · by_cases t : ((hi + 1) / 64 * 64) ≤ hi
      · have st : Hid (out ++ [(((hi + 1) / 64 * 64), hi)] = triK lo ((lo + 64 - 1) / 64 * 64) ((hi + 1) / 64 * 64) hi 3) := by
          show _ = _
          rw [tri_y2 t, ho.out]
        clear ho
        go_wp2_with (at_builtin; refine wpList_append_lies _ rfl _ _ 22 rfl w.heap.size 41 i0 _ 2 16 Tryd.underlying22 hi0 hz0 hz1 hz2 rfl (by omega) _ _ _ rfl ((hown.alloc _).alloc _) ⟨wr.heap.size + 1, 0, none⟩ 1 1 [.int .i64 ((hi + 1) / 64 * 64), .int .i64 hi] rfl rfl (new_cells _ _ _ _ (by simp)) (by simp [Value.oneCell']) (by omega) (by unfold maxLen; omega) (by omega) (by have := hb.size; simp; omega) (wr.heap.size + 2) (by simp) ?_; intro gg cap1 w1 hown1 hgrow hat hlt1)
        go_roundw
        case rel => exact ⟨3, out ++ [(((hi + 1) / 64 * 64), hi)], by omega, by go_num, st, by rw [List.length_append]; exact Nat.succ_le_succ hol, by rw [cellsL_append, List.length_append]; exact hown1, hb.trans (below_append2 hown hb.size hgrow)⟩
        case measure => simp [intOf]
      · have st : Hid (out = triK lo ((lo + 64 - 1) / 64 * 64) ((hi + 1) / 64 * 64) hi 3) := by
          show _ = _
          rw [tri_n2 t, ho.out]
        clear ho
        go_wp2_with fail
        go_roundw
        case rel => exact ⟨3, out, by omega, by go_num, st, by omega, hown.alloc _, hb.trans ((Below.new1 _).mono hb.size)⟩
        case measure => simp [intOf]

set_option maxRecDepth 20000 in
set_option maxHeartbeats 1000000 in
theorem cut12_same (lo hi : Int) (w : World) (h0 : 0 ≤ lo) (h1 : lo ≤ hi) (h2 : hi ≤ 1114111) (hq : lo / 4096 = hi / 4096) :
    Calls Tryd.prog 64 #[.int .i64 12, .agg #[.int .i64 lo, .int .i64 hi]] w fun e w' => ∃ v, e = .returned v ∧ Ow w' w.heap.size v [(lo, hi)] ∧ Below w.heap.size w w' := by
  go_enter Tryd.func64, Tryd.ntmps64
  go_wp2_with fail
  go_quiet (fail)
  go_wp2_with fail
  go_ret
  exact ⟨_, rfl, ow_box _ _ _ _ _ _ (by simp) (by simp), (((Below.new1 _).trans draws_below').alloc (by simp) _)⟩

set_option maxRecDepth 20000 in
set_option maxHeartbeats 2000000 in
theorem cut12_other (lo hi : Int) (w : World) (h0 : 0 ≤ lo) (h1 : lo ≤ hi) (h2 : hi ≤ 1114111) (hq : (lo / 4096 == hi / 4096) = false) :
    Calls Tryd.prog 64 #[.int .i64 12, .agg #[.int .i64 lo, .int .i64 hi]] w fun e w' => ∃ v, e = .returned v ∧ Ow w' w.heap.size v (triK lo ((lo + 4096 - 1) / 4096 * 4096) ((hi + 1) / 4096 * 4096) hi 3) ∧ Below w.heap.size w w' := by
  obtain ⟨i0, hi0, hz0, hz1, hz2⟩ := info_parts infoRg
  go_enter Tryd.func64, Tryd.ntmps64
  go_wp2_with fail
  go_quiet (fail)
  go_wp2_with fail
  go_loopw [9, 56] (fun v i wr => ∃ (k : Nat) (out : List (Int × Int)), k ≤ 3 ∧ i = .int .i64 k ∧ Hid (out = triK lo ((lo + 4096 - 1) / 4096 * 4096) ((hi + 1) / 4096 * 4096) hi k) ∧ out.length ≤ k ∧ wr.ownsRow w.heap.size 41 2 v out.length (cellsL out) ∧ Below w.heap.size w wr) (fun _ i _ => 3 - (intOf i).toNat)
  case atStart => exact ⟨0, [], by omega, rfl, rfl, Nat.le_refl _, World.ownsRow_nil _ _ _ _, (((Below.new1 _).trans draws_below').alloc (by simp) _)⟩
  case round =>
    obtain ⟨k, out, hk, rfl, ho, hol, hown, hb⟩ := hrel
    have hb3 : k = 3 ∨ k = 0 ∨ k = 1 ∨ k = 2 := by omega
    rcases hb3 with rfl | rfl | rfl | rfl
    · go_wp2_with fail
      go_ret
      exact ⟨_, rfl, by have e := ho.out; rw [← e]; exact hown, hb⟩
    · by_cases t : lo ≤ (((lo + 4096 - 1) / 4096 * 4096) - 1)
      · have st : Hid (out ++ [(lo, (((lo + 4096 - 1) / 4096 * 4096) - 1))] = triK lo ((lo + 4096 - 1) / 4096 * 4096) ((hi + 1) / 4096 * 4096) hi 1) := by
          show _ = _
          rw [tri_y0 t, ho.out]
        clear ho
        go_wp2_with (at_builtin; refine wpList_append_lies _ rfl _ _ 22 rfl w.heap.size 41 i0 _ 2 16 Tryd.underlying22 hi0 hz0 hz1 hz2 rfl (by omega) _ _ _ rfl ((hown.alloc _).alloc _) ⟨wr.heap.size + 1, 0, none⟩ 1 1 [.int .i64 lo, .int .i64 (((lo + 4096 - 1) / 4096 * 4096) - 1)] rfl rfl (new_cells _ _ _ _ (by simp)) (by simp [Value.oneCell']) (by omega) (by unfold maxLen; omega) (by omega) (by have := hb.size; simp; omega) (wr.heap.size + 2) (by simp) ?_; intro gg cap1 w1 hown1 hgrow hat hlt1)
        go_roundw
        case rel => exact ⟨1, out ++ [(lo, (((lo + 4096 - 1) / 4096 * 4096) - 1))], by omega, by go_num, st, by rw [List.length_append]; exact Nat.succ_le_succ hol, by rw [cellsL_append, List.length_append]; exact hown1, hb.trans (below_append2 hown hb.size hgrow)⟩
        case measure => simp [intOf]
      · have st : Hid (out = triK lo ((lo + 4096 - 1) / 4096 * 4096) ((hi + 1) / 4096 * 4096) hi 1) := by
          show _ = _
          rw [tri_n0 t, ho.out]
        clear ho
        go_wp2_with fail
        go_roundw
        case rel => exact ⟨1, out, by omega, by go_num, st, by omega, hown.alloc _, hb.trans ((Below.new1 _).mono hb.size)⟩
        case measure => simp [intOf]
    · by_cases t : ((lo + 4096 - 1) / 4096 * 4096) ≤ (((hi + 1) / 4096 * 4096) - 1)
      · have st : Hid (out ++ [(((lo + 4096 - 1) / 4096 * 4096), (((hi + 1) / 4096 * 4096) - 1))] = triK lo ((lo + 4096 - 1) / 4096 * 4096) ((hi + 1) / 4096 * 4096) hi 2) := by
          show _ = _
          rw [tri_y1 t, ho.out]
        clear ho
        go_wp2_with (at_builtin; refine wpList_append_lies _ rfl _ _ 22 rfl w.heap.size 41 i0 _ 2 16 Tryd.underlying22 hi0 hz0 hz1 hz2 rfl (by omega) _ _ _ rfl ((hown.alloc _).alloc _) ⟨wr.heap.size + 1, 0, none⟩ 1 1 [.int .i64 ((lo + 4096 - 1) / 4096 * 4096), .int .i64 (((hi + 1) / 4096 * 4096) - 1)] rfl rfl (new_cells _ _ _ _ (by simp)) (by simp [Value.oneCell']) (by omega) (by unfold maxLen; omega) (by omega) (by have := hb.size; simp; omega) (wr.heap.size + 2) (by simp) ?_; intro gg cap1 w1 hown1 hgrow hat hlt1)
        go_roundw
        case rel => exact ⟨2, out ++ [(((lo + 4096 - 1) / 4096 * 4096), (((hi + 1) / 4096 * 4096) - 1))], by omega, by go_num, st, by rw [List.length_append]; exact Nat.succ_le_succ hol, by rw [cellsL_append, List.length_append]; exact hown1, hb.trans (below_append2 hown hb.size hgrow)⟩
        case measure => simp [intOf]
      · have st : Hid (out = triK lo ((lo + 4096 - 1) / 4096 * 4096) ((hi + 1) / 4096 * 4096) hi 2) := by
          show _ = _
          rw [tri_n1 t, ho.out]
        clear ho
        go_wp2_with fail
        go_roundw
        case rel => exact ⟨2, out, by omega, by go_num, st, by omega, hown.alloc _, hb.trans ((Below.new1 _).mono hb.size)⟩
        case measure => simp [intOf]
    · by_cases t : ((hi + 1) / 4096 * 4096) ≤ hi
      · have st : Hid (out ++ [(((hi + 1) / 4096 * 4096), hi)] = triK lo ((lo + 4096 - 1) / 4096 * 4096) ((hi + 1) / 4096 * 4096) hi 3) := by
          show _ = _
          rw [tri_y2 t, ho.out]
        clear ho
        go_wp2_with (at_builtin; refine wpList_append_lies _ rfl _ _ 22 rfl w.heap.size 41 i0 _ 2 16 Tryd.underlying22 hi0 hz0 hz1 hz2 rfl (by omega) _ _ _ rfl ((hown.alloc _).alloc _) ⟨wr.heap.size + 1, 0, none⟩ 1 1 [.int .i64 ((hi + 1) / 4096 * 4096), .int .i64 hi] rfl rfl (new_cells _ _ _ _ (by simp)) (by simp [Value.oneCell']) (by omega) (by unfold maxLen; omega) (by omega) (by have := hb.size; simp; omega) (wr.heap.size + 2) (by simp) ?_; intro gg cap1 w1 hown1 hgrow hat hlt1)
        go_roundw
        case rel => exact ⟨3, out ++ [(((hi + 1) / 4096 * 4096), hi)], by omega, by go_num, st, by rw [List.length_append]; exact Nat.succ_le_succ hol, by rw [cellsL_append, List.length_append]; exact hown1, hb.trans (below_append2 hown hb.size hgrow)⟩
        case measure => simp [intOf]
      · have st : Hid (out = triK lo ((lo + 4096 - 1) / 4096 * 4096) ((hi + 1) / 4096 * 4096) hi 3) := by
          show _ = _
          rw [tri_n2 t, ho.out]
        clear ho
        go_wp2_with fail
        go_roundw
        case rel => exact ⟨3, out, by omega, by go_num, st, by omega, hown.alloc _, hb.trans ((Below.new1 _).mono hb.size)⟩
        case measure => simp [intOf]

set_option maxRecDepth 20000 in
set_option maxHeartbeats 1000000 in
theorem cut18_same (lo hi : Int) (w : World) (h0 : 0 ≤ lo) (h1 : lo ≤ hi) (h2 : hi ≤ 1114111) (hq : lo / 262144 = hi / 262144) :
    Calls Tryd.prog 64 #[.int .i64 18, .agg #[.int .i64 lo, .int .i64 hi]] w fun e w' => ∃ v, e = .returned v ∧ Ow w' w.heap.size v [(lo, hi)] ∧ Below w.heap.size w w' := by
  go_enter Tryd.func64, Tryd.ntmps64
  go_wp2_with fail
  go_quiet (fail)
  go_wp2_with fail
  go_ret
  exact ⟨_, rfl, ow_box _ _ _ _ _ _ (by simp) (by simp), (((Below.new1 _).trans draws_below').alloc (by simp) _)⟩

set_option maxRecDepth 20000 in
set_option maxHeartbeats 2000000 in
theorem cut18_other (lo hi : Int) (w : World) (h0 : 0 ≤ lo) (h1 : lo ≤ hi) (h2 : hi ≤ 1114111) (hq : (lo / 262144 == hi / 262144) = false) :
    Calls Tryd.prog 64 #[.int .i64 18, .agg #[.int .i64 lo, .int .i64 hi]] w fun e w' => ∃ v, e = .returned v ∧ Ow w' w.heap.size v (triK lo ((lo + 262144 - 1) / 262144 * 262144) ((hi + 1) / 262144 * 262144) hi 3) ∧ Below w.heap.size w w' := by
  obtain ⟨i0, hi0, hz0, hz1, hz2⟩ := info_parts infoRg
  go_enter Tryd.func64, Tryd.ntmps64
  go_wp2_with fail
  go_quiet (fail)
  go_wp2_with fail
  go_loopw [9, 56] (fun v i wr => ∃ (k : Nat) (out : List (Int × Int)), k ≤ 3 ∧ i = .int .i64 k ∧ Hid (out = triK lo ((lo + 262144 - 1) / 262144 * 262144) ((hi + 1) / 262144 * 262144) hi k) ∧ out.length ≤ k ∧ wr.ownsRow w.heap.size 41 2 v out.length (cellsL out) ∧ Below w.heap.size w wr) (fun _ i _ => 3 - (intOf i).toNat)
  case atStart => exact ⟨0, [], by omega, rfl, rfl, Nat.le_refl _, World.ownsRow_nil _ _ _ _, (((Below.new1 _).trans draws_below').alloc (by simp) _)⟩
  case round =>
    obtain ⟨k, out, hk, rfl, ho, hol, hown, hb⟩ := hrel
    have hb3 : k = 3 ∨ k = 0 ∨ k = 1 ∨ k = 2 := by omega
    rcases hb3 with rfl | rfl | rfl | rfl
    · go_wp2_with fail
      go_ret
      exact ⟨_, rfl, by have e := ho.out; rw [← e]; exact hown, hb⟩
    · by_cases t : lo ≤ (((lo + 262144 - 1) / 262144 * 262144) - 1)
      · have st : Hid (out ++ [(lo, (((lo + 262144 - 1) / 262144 * 262144) - 1))] = triK lo ((lo + 262144 - 1) / 262144 * 262144) ((hi + 1) / 262144 * 262144) hi 1) := by
          show _ = _
          rw [tri_y0 t, ho.out]
        clear ho
        go_wp2_with (at_builtin; refine wpList_append_lies _ rfl _ _ 22 rfl w.heap.size 41 i0 _ 2 16 Tryd.underlying22 hi0 hz0 hz1 hz2 rfl (by omega) _ _ _ rfl ((hown.alloc _).alloc _) ⟨wr.heap.size + 1, 0, none⟩ 1 1 [.int .i64 lo, .int .i64 (((lo + 262144 - 1) / 262144 * 262144) - 1)] rfl rfl (new_cells _ _ _ _ (by simp)) (by simp [Value.oneCell']) (by omega) (by unfold maxLen; omega) (by omega) (by have := hb.size; simp; omega) (wr.heap.size + 2) (by simp) ?_; intro gg cap1 w1 hown1 hgrow hat hlt1)
        go_roundw
        case rel => exact ⟨1, out ++ [(lo, (((lo + 262144 - 1) / 262144 * 262144) - 1))], by omega, by go_num, st, by rw [List.length_append]; exact Nat.succ_le_succ hol, by rw [cellsL_append, List.length_append]; exact hown1, hb.trans (below_append2 hown hb.size hgrow)⟩
        case measure => simp [intOf]
      · have st : Hid (out = triK lo ((lo + 262144 - 1) / 262144 * 262144) ((hi + 1) / 262144 * 262144) hi 1) := by
          show _ = _
          rw [tri_n0 t, ho.out]
        clear ho
        go_wp2_with fail
        go_roundw
        case rel => exact ⟨1, out, by omega, by go_num, st, by omega, hown.alloc _, hb.trans ((Below.new1 _).mono hb.size)⟩
        case measure => simp [intOf]
    · by_cases t : ((lo + 262144 - 1) / 262144 * 262144) ≤ (((hi + 1) / 262144 * 262144) - 1)
      · have st : Hid (out ++ [(((lo + 262144 - 1) / 262144 * 262144), (((hi + 1) / 262144 * 262144) - 1))] = triK lo ((lo + 262144 - 1) / 262144 * 262144) ((hi + 1) / 262144 * 262144) hi 2) := by
          show _ = _
          rw [tri_y1 t, ho.out]
        clear ho
        go_wp2_with (at_builtin; refine wpList_append_lies _ rfl _ _ 22 rfl w.heap.size 41 i0 _ 2 16 Tryd.underlying22 hi0 hz0 hz1 hz2 rfl (by omega) _ _ _ rfl ((hown.alloc _).alloc _) ⟨wr.heap.size + 1, 0, none⟩ 1 1 [.int .i64 ((lo + 262144 - 1) / 262144 * 262144), .int .i64 (((hi + 1) / 262144 * 262144) - 1)] rfl rfl (new_cells _ _ _ _ (by simp)) (by simp [Value.oneCell']) (by omega) (by unfold maxLen; omega) (by omega) (by have := hb.size; simp; omega) (wr.heap.size + 2) (by simp) ?_; intro gg cap1 w1 hown1 hgrow hat hlt1)
        go_roundw
        case rel => exact ⟨2, out ++ [(((lo + 262144 - 1) / 262144 * 262144), (((hi + 1) / 262144 * 262144) - 1))], by omega, by go_num, st, by rw [List.length_append]; exact Nat.succ_le_succ hol, by rw [cellsL_append, List.length_append]; exact hown1, hb.trans (below_append2 hown hb.size hgrow)⟩
        case measure => simp [intOf]
      · have st : Hid (out = triK lo ((lo + 262144 - 1) / 262144 * 262144) ((hi + 1) / 262144 * 262144) hi 2) := by
          show _ = _
          rw [tri_n1 t, ho.out]
        clear ho
        go_wp2_with fail
        go_roundw
        case rel => exact ⟨2, out, by omega, by go_num, st, by omega, hown.alloc _, hb.trans ((Below.new1 _).mono hb.size)⟩
        case measure => simp [intOf]
    · by_cases t : ((hi + 1) / 262144 * 262144) ≤ hi
      · have st : Hid (out ++ [(((hi + 1) / 262144 * 262144), hi)] = triK lo ((lo + 262144 - 1) / 262144 * 262144) ((hi + 1) / 262144 * 262144) hi 3) := by
          show _ = _
          rw [tri_y2 t, ho.out]
        clear ho
        go_wp2_with (at_builtin; refine wpList_append_lies _ rfl _ _ 22 rfl w.heap.size 41 i0 _ 2 16 Tryd.underlying22 hi0 hz0 hz1 hz2 rfl (by omega) _ _ _ rfl ((hown.alloc _).alloc _) ⟨wr.heap.size + 1, 0, none⟩ 1 1 [.int .i64 ((hi + 1) / 262144 * 262144), .int .i64 hi] rfl rfl (new_cells _ _ _ _ (by simp)) (by simp [Value.oneCell']) (by omega) (by unfold maxLen; omega) (by omega) (by have := hb.size; simp; omega) (wr.heap.size + 2) (by simp) ?_; intro gg cap1 w1 hown1 hgrow hat hlt1)
        go_roundw
        case rel => exact ⟨3, out ++ [(((hi + 1) / 262144 * 262144), hi)], by omega, by go_num, st, by rw [List.length_append]; exact Nat.succ_le_succ hol, by rw [cellsL_append, List.length_append]; exact hown1, hb.trans (below_append2 hown hb.size hgrow)⟩
        case measure => simp [intOf]
      · have st : Hid (out = triK lo ((lo + 262144 - 1) / 262144 * 262144) ((hi + 1) / 262144 * 262144) hi 3) := by
          show _ = _
          rw [tri_n2 t, ho.out]
        clear ho
        go_wp2_with fail
        go_roundw
        case rel => exact ⟨3, out, by omega, by go_num, st, by omega, hown.alloc _, hb.trans ((Below.new1 _).mono hb.size)⟩
        case measure => simp [intOf]

/-- at whatever of the three -/
def bitsOf (k : Int) : Int := if k = 64 then 6 else if k = 4096 then 12 else 18
theorem cut_any (k : Int) (hk : Q.step k) (lo hi : Int) (w : World) (h0 : 0 ≤ lo) (h1 : lo ≤ hi) (h2 : hi ≤ 1114111) :
    Calls Tryd.prog 64 #[.int .i64 (bitsOf k), .agg #[.int .i64 lo, .int .i64 hi]] w fun e w' => ∃ v, e = .returned v ∧ Ow w' w.heap.size v (Q.cutL k (lo, hi)) ∧ Below w.heap.size w w' := by
  rcases Bool.eq_false_or_eq_true (lo / k == hi / k) with c | c
  · have c := eq_of_beq c
    rw [cut_one c]
    rcases hk with rfl | rfl | rfl
    · exact cut6_same lo hi w h0 h1 h2 c
    · exact cut12_same lo hi w h0 h1 h2 c
    · exact cut18_same lo hi w h0 h1 h2 c
  · rw [cut_tri c]
    rcases hk with rfl | rfl | rfl
    · exact cut6_other lo hi w h0 h1 h2 c
    · exact cut12_other lo hi w h0 h1 h2 c
    · exact cut18_other lo hi w h0 h1 h2 c

end Go.Proofs.YtejipaapbfjooaaDoor
