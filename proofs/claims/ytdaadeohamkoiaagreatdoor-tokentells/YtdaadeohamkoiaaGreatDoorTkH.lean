/- Contracts of package token: items. -/
import Derived.Test.YtdaadeohamkoiaaGreatDoorTkG
namespace Go.Proofs.YtdaadeohamkoiaaGreatDoor.T
open Go.RowKit
set_option linter.unusedVariables false
set_option linter.unusedSimpArgs false

def pairI (p : Option ((Int × Int) × Nat)) : (Int × Int) × Nat := p.getD ((0, 0), 0)
theorem st_dash : St ⟨#[45]⟩ [45] := ⟨rfl, by intro z hz; simp at hz; omega⟩
theorem infoRg2 : (Tryz.prog.info? 54).map (·.size) = some 2 := by kernel_rfl
theorem itemH_end (a : Option Addr) (len cap : Nat) (l : List Int) (w : World) (h : Bs w a len cap l) (hl : len ≤ 1000000) :
    Calls Tryz.prog 83 #[.slice a len cap] w fun e w' => e = .returned (.tuple #[.int .i64 (pairR (oneL true l)).1, .int .i64 ((pairR (oneL true l)).2 : Nat)]) ∧ Below w.heap.size w w' :=
  (hex_l a len cap l w h hl).mono fun _ _ h => ⟨h.1, by rw [h.2]; exact Below.refl _ _⟩
theorem itemS_end (a : Option Addr) (len cap : Nat) (l : List Int) (w : World) (h : Bs w a len cap l) (hl : len ≤ 1000000) :
    Calls Tryz.prog 79 #[.slice a len cap] w fun e w' => e = .returned (.tuple #[.int .i64 (pairR (oneL false l)).1, .int .i64 ((pairR (oneL false l)).2 : Nat)]) ∧ Below w.heap.size w w' :=
  scalar_l a len cap l w h hl
set_option maxRecDepth 20000 in
set_option maxHeartbeats 4000000 in
theorem itemH (a : Option Addr) (len cap : Nat) (l : List Int) (w : World) (h : Bs w a len cap l) (hl : len ≤ 1000000) :
    Calls Tryz.prog 125 #[.slice a len cap, .func (.func 83) #[] #[]] w fun e w' => e = .returned (.tuple #[.agg #[.int .i64 (pairI (itemL true l)).1.1, .int .i64 (pairI (itemL true l)).1.2], .int .i64 ((pairI (itemL true l)).2 : Nat)]) ∧ Below w.heap.size w w' := by
  have hlen := h.hlen
  have HB := hideR (Bs.later h (Below.new1 (.cells #[.int .i64 0, .int .i64 0] 54)) (Nat.le_refl _))
  have CE := hideR (fun W (hB : Bs W a len cap l) => itemH_end a len cap l W hB hl)
  cases e1 : oneL true l with
  | none =>
    have ei : itemL true l = none := by unfold itemL; rw [e1]
    rw [ei]
    rw [e1] at CE
    show Calls _ _ _ _ fun e w' => e = .returned (.tuple #[.agg #[.int .i64 0, .int .i64 0], .int .i64 0]) ∧ Below w.heap.size w w'
    replace CE : Hid (∀ W, Bs W a len cap l → Calls Tryz.prog 83 #[.slice a len cap] W fun e w' => e = .returned (.tuple #[.int .i64 0, .int .i64 0]) ∧ Below W.heap.size W w') := CE
    clear e1 ei h
    go_enter Tryz.func125, Tryz.ntmps125
    go_wp2_with fail
    refine (unhideR CE _ (unhideR HB)).mono ?_
    rintro e w1 ⟨rfl, b1⟩
    clear CE HB
    have HG := kept_new b1
    have q0 : w1.cell? ⟨w.heap.size, 0, none⟩ = some (.int .i64 0) := by simp [World.cell?, HG]
    have q1 : w1.cell? ⟨w.heap.size, 1, none⟩ = some (.int .i64 0) := by simp [World.cell?, HG]
    have f0 : w1.frozen? ⟨w.heap.size, 0, none⟩ = false := by simp [World.frozen?, HG]
    have f1 : w1.frozen? ⟨w.heap.size, 1, none⟩ = false := by simp [World.frozen?, HG]
    go_wp2_with fail
    (try simp only [Exit.inBlock, Exit.then])
    refine bodyPost_ret (v := .tuple #[.agg #[.int .i64 0, .int .i64 0], .int .i64 (0)]) ?_ rfl ⟨rfl, ?_⟩
    · rw [results_cell_tmp rfl]
      go_simp
      try omega
    · exact Below.setCell (Below.setCell ((Below.new1 _).trans (b1.mono (by simp))) (Nat.le_refl _) _) (Nat.le_refl _) _
  | some p =>
    obtain ⟨lo, n⟩ := p
    have gd := one_good true l lo n h.hbytes e1
    rw [e1] at CE
    replace CE : Hid (∀ W, Bs W a len cap l → Calls Tryz.prog 83 #[.slice a len cap] W fun e w' => e = .returned (.tuple #[.int .i64 lo, .int .i64 (n : Int)]) ∧ Below W.heap.size W w') := CE
    have sl := tail_run a len cap n n rfl (by omega)
    have CB := hideR (fun W (hB : Bs W a len cap l) => begins_l _ _ _ _ W (Bs.dropA hB n (by omega)) ⟨#[45]⟩ [45] st_dash (by simp))
    rw [pre1_eq (by omega)] at CB
    have t0 : ((n : Int) == 0) = false := beq_eq_false_iff_ne.2 (by omega)
    by_cases c1 : (l.drop n).getD 0 0 = 45
    · rw [decide_eq_true c1] at CB
      have hn1 : n + 1 ≤ len := by
        apply Classical.byContradiction
        intro cc
        have : l.drop n = [] := List.drop_of_length_le (by omega)
        rw [this] at c1
        simp [List.getD] at c1
      have t1 := wrapI ((n : Int) + 1) (by omega)
      have sl2 := tail_run a len cap (n + 1) ((n : Int) + 1) (by omega) hn1
      have CF := hideR (fun W (hB : Bs W a len cap l) => itemH_end _ _ _ _ W (Bs.dropA hB (n + 1) hn1) (by omega))
      cases e2 : oneL true (l.drop (n + 1)) with
      | none =>
        have ei : itemL true l = none := by unfold itemL; rw [e1]; simp only; rw [if_pos c1, e2]
        rw [ei]
        rw [e2] at CF
        show Calls _ _ _ _ fun e w' => e = .returned (.tuple #[.agg #[.int .i64 0, .int .i64 0], .int .i64 0]) ∧ Below w.heap.size w w'
        replace CF : Hid (∀ W, Bs W a len cap l → Calls Tryz.prog 83 #[.slice (dropA a cap (n + 1)) (len - (n + 1)) (cap - (n + 1))] W fun e w' => e = .returned (.tuple #[.int .i64 0, .int .i64 0]) ∧ Below W.heap.size W w') := CF
        clear e1 e2 ei h c1
        go_enter Tryz.func125, Tryz.ntmps125
        go_wp2_with fail
        refine (unhideR CE _ (unhideR HB)).mono ?_
        rintro e w1 ⟨rfl, b1⟩

        have HB1 := hideR (Bs.later (unhideR HB) b1 (Nat.le_refl _))
        clear HB CE
        go_wp2_with fail
        refine (unhideR CB _ (unhideR HB1)).mono ?_
        rintro e w2 ⟨rfl, b2⟩
        clear CB

        have HB2 := hideR (Bs.later (unhideR HB1) b2 (Nat.le_refl _))
        clear HB1
        go_wp2_with fail
        refine (unhideR CF _ (unhideR HB2)).mono ?_
        rintro e w3 ⟨rfl, b3⟩
        clear CF HB2
        have B3 := bthen (bthen b1 b2) b3

        have HG := kept_new B3
        have q0 : w3.cell? ⟨w.heap.size, 0, none⟩ = some (.int .i64 0) := by simp [World.cell?, HG]
        have q1 : w3.cell? ⟨w.heap.size, 1, none⟩ = some (.int .i64 0) := by simp [World.cell?, HG]
        have f0 : w3.frozen? ⟨w.heap.size, 0, none⟩ = false := by simp [World.frozen?, HG]
        have f1 : w3.frozen? ⟨w.heap.size, 1, none⟩ = false := by simp [World.frozen?, HG]
        go_wp2_with fail
        (try simp only [Exit.inBlock, Exit.then])
        refine bodyPost_ret (v := .tuple #[.agg #[.int .i64 0, .int .i64 0], .int .i64 (0)]) ?_ rfl ⟨rfl, ?_⟩
        · rw [results_cell_tmp rfl]
          go_simp
          try omega
        · exact Below.setCell (Below.setCell ((Below.new1 _).trans (B3.mono (by simp))) (Nat.le_refl _) _) (Nat.le_refl _) _
      | some q =>
        obtain ⟨hi, m⟩ := q
        have gd2 := one_good true _ hi m (U.isBytes_drop h.hbytes (n + 1)) e2
        rw [List.length_drop] at gd2
        rw [e2] at CF
        replace CF : Hid (∀ W, Bs W a len cap l → Calls Tryz.prog 83 #[.slice (dropA a cap (n + 1)) (len - (n + 1)) (cap - (n + 1))] W fun e w' => e = .returned (.tuple #[.int .i64 hi, .int .i64 (m : Int)]) ∧ Below W.heap.size W w') := CF
        have t2 : ((m : Int) == 0) = false := beq_eq_false_iff_ne.2 (by omega)
        have t3 := wrapI ((n : Int) + 1 + m) (by omega)
        by_cases c2 : hi < lo
        · have ei : itemL true l = none := by unfold itemL; rw [e1]; simp only; rw [if_pos c1, e2]; simp only; rw [if_pos c2]
          rw [ei]
          show Calls _ _ _ _ fun e w' => e = .returned (.tuple #[.agg #[.int .i64 0, .int .i64 0], .int .i64 0]) ∧ Below w.heap.size w w'
          clear e1 e2 ei h c1
          go_enter Tryz.func125, Tryz.ntmps125
          go_wp2_with fail
          refine (unhideR CE _ (unhideR HB)).mono ?_
          rintro e w1 ⟨rfl, b1⟩

          have HB1 := hideR (Bs.later (unhideR HB) b1 (Nat.le_refl _))
          clear HB CE
          go_wp2_with fail
          refine (unhideR CB _ (unhideR HB1)).mono ?_
          rintro e w2 ⟨rfl, b2⟩
          clear CB

          have HB2 := hideR (Bs.later (unhideR HB1) b2 (Nat.le_refl _))
          clear HB1
          go_wp2_with fail
          refine (unhideR CF _ (unhideR HB2)).mono ?_
          rintro e w3 ⟨rfl, b3⟩
          clear CF HB2
          have B3 := bthen (bthen b1 b2) b3

          have HG := kept_new B3
          have q0 : w3.cell? ⟨w.heap.size, 0, none⟩ = some (.int .i64 0) := by simp [World.cell?, HG]
          have q1 : w3.cell? ⟨w.heap.size, 1, none⟩ = some (.int .i64 0) := by simp [World.cell?, HG]
          have f0 : w3.frozen? ⟨w.heap.size, 0, none⟩ = false := by simp [World.frozen?, HG]
          have f1 : w3.frozen? ⟨w.heap.size, 1, none⟩ = false := by simp [World.frozen?, HG]
          go_wp2_with fail
          (try simp only [Exit.inBlock, Exit.then])
          refine bodyPost_ret (v := .tuple #[.agg #[.int .i64 0, .int .i64 0], .int .i64 (0)]) ?_ rfl ⟨rfl, ?_⟩
          · rw [results_cell_tmp rfl]
            go_simp
            try omega
          · exact Below.setCell (Below.setCell ((Below.new1 _).trans (B3.mono (by simp))) (Nat.le_refl _) _) (Nat.le_refl _) _
        · have ei : itemL true l = some ((lo, hi), n + 1 + m) := by unfold itemL; rw [e1]; simp only; rw [if_pos c1, e2]; simp only; rw [if_neg c2]
          rw [ei]
          show Calls _ _ _ _ fun e w' => e = .returned (.tuple #[.agg #[.int .i64 lo, .int .i64 hi], .int .i64 ((n + 1 + m : Nat) : Int)]) ∧ Below w.heap.size w w'
          have c2' : lo ≤ hi := by omega
          clear e1 e2 ei h c1
          go_enter Tryz.func125, Tryz.ntmps125
          go_wp2_with fail
          refine (unhideR CE _ (unhideR HB)).mono ?_
          rintro e w1 ⟨rfl, b1⟩

          have HB1 := hideR (Bs.later (unhideR HB) b1 (Nat.le_refl _))
          clear HB CE
          go_wp2_with fail
          refine (unhideR CB _ (unhideR HB1)).mono ?_
          rintro e w2 ⟨rfl, b2⟩
          clear CB

          have HB2 := hideR (Bs.later (unhideR HB1) b2 (Nat.le_refl _))
          clear HB1
          go_wp2_with fail
          refine (unhideR CF _ (unhideR HB2)).mono ?_
          rintro e w3 ⟨rfl, b3⟩
          clear CF HB2
          have B3 := bthen (bthen b1 b2) b3

          have HG := kept_new B3
          have q0 : w3.cell? ⟨w.heap.size, 0, none⟩ = some (.int .i64 0) := by simp [World.cell?, HG]
          have q1 : w3.cell? ⟨w.heap.size, 1, none⟩ = some (.int .i64 0) := by simp [World.cell?, HG]
          have f0 : w3.frozen? ⟨w.heap.size, 0, none⟩ = false := by simp [World.frozen?, HG]
          have f1 : w3.frozen? ⟨w.heap.size, 1, none⟩ = false := by simp [World.frozen?, HG]
          go_wp2_with fail
          (try simp only [Exit.inBlock, Exit.then])
          refine bodyPost_ret (v := .tuple #[.agg #[.int .i64 lo, .int .i64 hi], .int .i64 (((n + 1 + m : Nat) : Int))]) ?_ rfl ⟨rfl, ?_⟩
          · rw [results_cell_tmp rfl]
            go_simp
            try omega
          · exact Below.setCell (Below.setCell ((Below.new1 _).trans (B3.mono (by simp))) (Nat.le_refl _) _) (Nat.le_refl _) _
    · rw [decide_eq_false c1] at CB
      have ei : itemL true l = some ((lo, lo), n) := by unfold itemL; rw [e1]; simp only; rw [if_neg c1]
      rw [ei]
      show Calls _ _ _ _ fun e w' => e = .returned (.tuple #[.agg #[.int .i64 lo, .int .i64 lo], .int .i64 (n : Int)]) ∧ Below w.heap.size w w'
      clear e1 ei h c1
      go_enter Tryz.func125, Tryz.ntmps125
      go_wp2_with fail
      refine (unhideR CE _ (unhideR HB)).mono ?_
      rintro e w1 ⟨rfl, b1⟩

      have HB1 := hideR (Bs.later (unhideR HB) b1 (Nat.le_refl _))
      clear HB CE
      go_wp2_with fail
      refine (unhideR CB _ (unhideR HB1)).mono ?_
      rintro e w2 ⟨rfl, b2⟩
      clear CB

      clear HB1
      have B2 := bthen b1 b2
      have HG := kept_new B2
      have q0 : w2.cell? ⟨w.heap.size, 0, none⟩ = some (.int .i64 0) := by simp [World.cell?, HG]
      have q1 : w2.cell? ⟨w.heap.size, 1, none⟩ = some (.int .i64 0) := by simp [World.cell?, HG]
      have f0 : w2.frozen? ⟨w.heap.size, 0, none⟩ = false := by simp [World.frozen?, HG]
      have f1 : w2.frozen? ⟨w.heap.size, 1, none⟩ = false := by simp [World.frozen?, HG]
      go_wp2_with fail
      (try simp only [Exit.inBlock, Exit.then])
      refine bodyPost_ret (v := .tuple #[.agg #[.int .i64 lo, .int .i64 lo], .int .i64 ((n : Int))]) ?_ rfl ⟨rfl, ?_⟩
      · rw [results_cell_tmp rfl]
        go_simp
        try omega
      · exact Below.setCell (Below.setCell ((Below.new1 _).trans (B2.mono (by simp))) (Nat.le_refl _) _) (Nat.le_refl _) _
set_option maxRecDepth 20000 in
set_option maxHeartbeats 4000000 in
theorem itemS (a : Option Addr) (len cap : Nat) (l : List Int) (w : World) (h : Bs w a len cap l) (hl : len ≤ 1000000) :
    Calls Tryz.prog 125 #[.slice a len cap, .func (.func 79) #[] #[]] w fun e w' => e = .returned (.tuple #[.agg #[.int .i64 (pairI (itemL false l)).1.1, .int .i64 (pairI (itemL false l)).1.2], .int .i64 ((pairI (itemL false l)).2 : Nat)]) ∧ Below w.heap.size w w' := by
  have hlen := h.hlen
  have HB := hideR (Bs.later h (Below.new1 (.cells #[.int .i64 0, .int .i64 0] 54)) (Nat.le_refl _))
  have CE := hideR (fun W (hB : Bs W a len cap l) => itemS_end a len cap l W hB hl)
  cases e1 : oneL false l with
  | none =>
    have ei : itemL false l = none := by unfold itemL; rw [e1]
    rw [ei]
    rw [e1] at CE
    show Calls _ _ _ _ fun e w' => e = .returned (.tuple #[.agg #[.int .i64 0, .int .i64 0], .int .i64 0]) ∧ Below w.heap.size w w'
    replace CE : Hid (∀ W, Bs W a len cap l → Calls Tryz.prog 79 #[.slice a len cap] W fun e w' => e = .returned (.tuple #[.int .i64 0, .int .i64 0]) ∧ Below W.heap.size W w') := CE
    clear e1 ei h
    go_enter Tryz.func125, Tryz.ntmps125
    go_wp2_with fail
    refine (unhideR CE _ (unhideR HB)).mono ?_
    rintro e w1 ⟨rfl, b1⟩
    clear CE HB
    have HG := kept_new b1
    have q0 : w1.cell? ⟨w.heap.size, 0, none⟩ = some (.int .i64 0) := by simp [World.cell?, HG]
    have q1 : w1.cell? ⟨w.heap.size, 1, none⟩ = some (.int .i64 0) := by simp [World.cell?, HG]
    have f0 : w1.frozen? ⟨w.heap.size, 0, none⟩ = false := by simp [World.frozen?, HG]
    have f1 : w1.frozen? ⟨w.heap.size, 1, none⟩ = false := by simp [World.frozen?, HG]
    go_wp2_with fail
    (try simp only [Exit.inBlock, Exit.then])
    refine bodyPost_ret (v := .tuple #[.agg #[.int .i64 0, .int .i64 0], .int .i64 (0)]) ?_ rfl ⟨rfl, ?_⟩
    · rw [results_cell_tmp rfl]
      go_simp
      try omega
    · exact Below.setCell (Below.setCell ((Below.new1 _).trans (b1.mono (by simp))) (Nat.le_refl _) _) (Nat.le_refl _) _
  | some p =>
    obtain ⟨lo, n⟩ := p
    have gd := one_good false l lo n h.hbytes e1
    rw [e1] at CE
    replace CE : Hid (∀ W, Bs W a len cap l → Calls Tryz.prog 79 #[.slice a len cap] W fun e w' => e = .returned (.tuple #[.int .i64 lo, .int .i64 (n : Int)]) ∧ Below W.heap.size W w') := CE
    have sl := tail_run a len cap n n rfl (by omega)
    have CB := hideR (fun W (hB : Bs W a len cap l) => begins_l _ _ _ _ W (Bs.dropA hB n (by omega)) ⟨#[45]⟩ [45] st_dash (by simp))
    rw [pre1_eq (by omega)] at CB
    have t0 : ((n : Int) == 0) = false := beq_eq_false_iff_ne.2 (by omega)
    by_cases c1 : (l.drop n).getD 0 0 = 45
    · rw [decide_eq_true c1] at CB
      have hn1 : n + 1 ≤ len := by
        apply Classical.byContradiction
        intro cc
        have : l.drop n = [] := List.drop_of_length_le (by omega)
        rw [this] at c1
        simp [List.getD] at c1
      have t1 := wrapI ((n : Int) + 1) (by omega)
      have sl2 := tail_run a len cap (n + 1) ((n : Int) + 1) (by omega) hn1
      have CF := hideR (fun W (hB : Bs W a len cap l) => itemS_end _ _ _ _ W (Bs.dropA hB (n + 1) hn1) (by omega))
      cases e2 : oneL false (l.drop (n + 1)) with
      | none =>
        have ei : itemL false l = none := by unfold itemL; rw [e1]; simp only; rw [if_pos c1, e2]
        rw [ei]
        rw [e2] at CF
        show Calls _ _ _ _ fun e w' => e = .returned (.tuple #[.agg #[.int .i64 0, .int .i64 0], .int .i64 0]) ∧ Below w.heap.size w w'
        replace CF : Hid (∀ W, Bs W a len cap l → Calls Tryz.prog 79 #[.slice (dropA a cap (n + 1)) (len - (n + 1)) (cap - (n + 1))] W fun e w' => e = .returned (.tuple #[.int .i64 0, .int .i64 0]) ∧ Below W.heap.size W w') := CF
        clear e1 e2 ei h c1
        go_enter Tryz.func125, Tryz.ntmps125
        go_wp2_with fail
        refine (unhideR CE _ (unhideR HB)).mono ?_
        rintro e w1 ⟨rfl, b1⟩

        have HB1 := hideR (Bs.later (unhideR HB) b1 (Nat.le_refl _))
        clear HB CE
        go_wp2_with fail
        refine (unhideR CB _ (unhideR HB1)).mono ?_
        rintro e w2 ⟨rfl, b2⟩
        clear CB

        have HB2 := hideR (Bs.later (unhideR HB1) b2 (Nat.le_refl _))
        clear HB1
        go_wp2_with fail
        refine (unhideR CF _ (unhideR HB2)).mono ?_
        rintro e w3 ⟨rfl, b3⟩
        clear CF HB2
        have B3 := bthen (bthen b1 b2) b3

        have HG := kept_new B3
        have q0 : w3.cell? ⟨w.heap.size, 0, none⟩ = some (.int .i64 0) := by simp [World.cell?, HG]
        have q1 : w3.cell? ⟨w.heap.size, 1, none⟩ = some (.int .i64 0) := by simp [World.cell?, HG]
        have f0 : w3.frozen? ⟨w.heap.size, 0, none⟩ = false := by simp [World.frozen?, HG]
        have f1 : w3.frozen? ⟨w.heap.size, 1, none⟩ = false := by simp [World.frozen?, HG]
        go_wp2_with fail
        (try simp only [Exit.inBlock, Exit.then])
        refine bodyPost_ret (v := .tuple #[.agg #[.int .i64 0, .int .i64 0], .int .i64 (0)]) ?_ rfl ⟨rfl, ?_⟩
        · rw [results_cell_tmp rfl]
          go_simp
          try omega
        · exact Below.setCell (Below.setCell ((Below.new1 _).trans (B3.mono (by simp))) (Nat.le_refl _) _) (Nat.le_refl _) _
      | some q =>
        obtain ⟨hi, m⟩ := q
        have gd2 := one_good false _ hi m (U.isBytes_drop h.hbytes (n + 1)) e2
        rw [List.length_drop] at gd2
        rw [e2] at CF
        replace CF : Hid (∀ W, Bs W a len cap l → Calls Tryz.prog 79 #[.slice (dropA a cap (n + 1)) (len - (n + 1)) (cap - (n + 1))] W fun e w' => e = .returned (.tuple #[.int .i64 hi, .int .i64 (m : Int)]) ∧ Below W.heap.size W w') := CF
        have t2 : ((m : Int) == 0) = false := beq_eq_false_iff_ne.2 (by omega)
        have t3 := wrapI ((n : Int) + 1 + m) (by omega)
        by_cases c2 : hi < lo
        · have ei : itemL false l = none := by unfold itemL; rw [e1]; simp only; rw [if_pos c1, e2]; simp only; rw [if_pos c2]
          rw [ei]
          show Calls _ _ _ _ fun e w' => e = .returned (.tuple #[.agg #[.int .i64 0, .int .i64 0], .int .i64 0]) ∧ Below w.heap.size w w'
          clear e1 e2 ei h c1
          go_enter Tryz.func125, Tryz.ntmps125
          go_wp2_with fail
          refine (unhideR CE _ (unhideR HB)).mono ?_
          rintro e w1 ⟨rfl, b1⟩

          have HB1 := hideR (Bs.later (unhideR HB) b1 (Nat.le_refl _))
          clear HB CE
          go_wp2_with fail
          refine (unhideR CB _ (unhideR HB1)).mono ?_
          rintro e w2 ⟨rfl, b2⟩
          clear CB

          have HB2 := hideR (Bs.later (unhideR HB1) b2 (Nat.le_refl _))
          clear HB1
          go_wp2_with fail
          refine (unhideR CF _ (unhideR HB2)).mono ?_
          rintro e w3 ⟨rfl, b3⟩
          clear CF HB2
          have B3 := bthen (bthen b1 b2) b3

          have HG := kept_new B3
          have q0 : w3.cell? ⟨w.heap.size, 0, none⟩ = some (.int .i64 0) := by simp [World.cell?, HG]
          have q1 : w3.cell? ⟨w.heap.size, 1, none⟩ = some (.int .i64 0) := by simp [World.cell?, HG]
          have f0 : w3.frozen? ⟨w.heap.size, 0, none⟩ = false := by simp [World.frozen?, HG]
          have f1 : w3.frozen? ⟨w.heap.size, 1, none⟩ = false := by simp [World.frozen?, HG]
          go_wp2_with fail
          (try simp only [Exit.inBlock, Exit.then])
          refine bodyPost_ret (v := .tuple #[.agg #[.int .i64 0, .int .i64 0], .int .i64 (0)]) ?_ rfl ⟨rfl, ?_⟩
          · rw [results_cell_tmp rfl]
            go_simp
            try omega
          · exact Below.setCell (Below.setCell ((Below.new1 _).trans (B3.mono (by simp))) (Nat.le_refl _) _) (Nat.le_refl _) _
        · have ei : itemL false l = some ((lo, hi), n + 1 + m) := by unfold itemL; rw [e1]; simp only; rw [if_pos c1, e2]; simp only; rw [if_neg c2]
          rw [ei]
          show Calls _ _ _ _ fun e w' => e = .returned (.tuple #[.agg #[.int .i64 lo, .int .i64 hi], .int .i64 ((n + 1 + m : Nat) : Int)]) ∧ Below w.heap.size w w'
          have c2' : lo ≤ hi := by omega
          clear e1 e2 ei h c1
          go_enter Tryz.func125, Tryz.ntmps125
          go_wp2_with fail
          refine (unhideR CE _ (unhideR HB)).mono ?_
          rintro e w1 ⟨rfl, b1⟩

          have HB1 := hideR (Bs.later (unhideR HB) b1 (Nat.le_refl _))
          clear HB CE
          go_wp2_with fail
          refine (unhideR CB _ (unhideR HB1)).mono ?_
          rintro e w2 ⟨rfl, b2⟩
          clear CB

          have HB2 := hideR (Bs.later (unhideR HB1) b2 (Nat.le_refl _))
          clear HB1
          go_wp2_with fail
          refine (unhideR CF _ (unhideR HB2)).mono ?_
          rintro e w3 ⟨rfl, b3⟩
          clear CF HB2
          have B3 := bthen (bthen b1 b2) b3

          have HG := kept_new B3
          have q0 : w3.cell? ⟨w.heap.size, 0, none⟩ = some (.int .i64 0) := by simp [World.cell?, HG]
          have q1 : w3.cell? ⟨w.heap.size, 1, none⟩ = some (.int .i64 0) := by simp [World.cell?, HG]
          have f0 : w3.frozen? ⟨w.heap.size, 0, none⟩ = false := by simp [World.frozen?, HG]
          have f1 : w3.frozen? ⟨w.heap.size, 1, none⟩ = false := by simp [World.frozen?, HG]
          go_wp2_with fail
          (try simp only [Exit.inBlock, Exit.then])
          refine bodyPost_ret (v := .tuple #[.agg #[.int .i64 lo, .int .i64 hi], .int .i64 (((n + 1 + m : Nat) : Int))]) ?_ rfl ⟨rfl, ?_⟩
          · rw [results_cell_tmp rfl]
            go_simp
            try omega
          · exact Below.setCell (Below.setCell ((Below.new1 _).trans (B3.mono (by simp))) (Nat.le_refl _) _) (Nat.le_refl _) _
    · rw [decide_eq_false c1] at CB
      have ei : itemL false l = some ((lo, lo), n) := by unfold itemL; rw [e1]; simp only; rw [if_neg c1]
      rw [ei]
      show Calls _ _ _ _ fun e w' => e = .returned (.tuple #[.agg #[.int .i64 lo, .int .i64 lo], .int .i64 (n : Int)]) ∧ Below w.heap.size w w'
      clear e1 ei h c1
      go_enter Tryz.func125, Tryz.ntmps125
      go_wp2_with fail
      refine (unhideR CE _ (unhideR HB)).mono ?_
      rintro e w1 ⟨rfl, b1⟩

      have HB1 := hideR (Bs.later (unhideR HB) b1 (Nat.le_refl _))
      clear HB CE
      go_wp2_with fail
      refine (unhideR CB _ (unhideR HB1)).mono ?_
      rintro e w2 ⟨rfl, b2⟩
      clear CB

      clear HB1
      have B2 := bthen b1 b2
      have HG := kept_new B2
      have q0 : w2.cell? ⟨w.heap.size, 0, none⟩ = some (.int .i64 0) := by simp [World.cell?, HG]
      have q1 : w2.cell? ⟨w.heap.size, 1, none⟩ = some (.int .i64 0) := by simp [World.cell?, HG]
      have f0 : w2.frozen? ⟨w.heap.size, 0, none⟩ = false := by simp [World.frozen?, HG]
      have f1 : w2.frozen? ⟨w.heap.size, 1, none⟩ = false := by simp [World.frozen?, HG]
      go_wp2_with fail
      (try simp only [Exit.inBlock, Exit.then])
      refine bodyPost_ret (v := .tuple #[.agg #[.int .i64 lo, .int .i64 lo], .int .i64 ((n : Int))]) ?_ rfl ⟨rfl, ?_⟩
      · rw [results_cell_tmp rfl]
        go_simp
        try omega
      · exact Below.setCell (Below.setCell ((Below.new1 _).trans (B2.mono (by simp))) (Nat.le_refl _) _) (Nat.le_refl _) _
end Go.Proofs.YtdaadeohamkoiaaGreatDoor.T
