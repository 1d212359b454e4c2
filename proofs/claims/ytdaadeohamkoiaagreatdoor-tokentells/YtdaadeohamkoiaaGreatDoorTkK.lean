/- Contracts of package token: classes. -/
import Derived.Test.YtdaadeohamkoiaaGreatDoorTkJ
namespace Go.Proofs.YtdaadeohamkoiaaGreatDoor.T
open Go.RowKit
set_option linter.unusedVariables false
set_option linter.unusedSimpArgs false

theorem tok_cls {l : List Int} (hb : U.isBytes l) (h : l.getD 0 0 = 91) : tokL l = if (l.drop (1 + hatN l + (itemsG false (l.drop (1 + hatN l))).2)).getD 0 0 = 93 then some ((2, [], classL (decide (hatN l = 1)) (itemsG false (l.drop (1 + hatN l))).1), (itemsG false (l.drop (1 + hatN l))).2 + 2 + hatN l) else none := by
  unfold tokL
  rw [h, if_neg (by decide), if_neg (by omega), if_neg (by decide), if_neg (by omega), if_neg (by omega), if_pos rfl, items_gather (by omega) stop_cls _ _ (U.isBytes_drop hb (1 + hatN l)) (Nat.le_refl _), List.drop_drop]
  by_cases c : (List.drop (1 + hatN l + (itemsG false (l.drop (1 + hatN l))).2) l).getD 0 0 = 93
  · rw [if_pos c, if_pos c]
  · rw [if_neg c, if_neg c]
theorem nrm_surr (n : Int) : nrm [(55296, 57343)] n = (G.dom n && (decide (55296 ≤ n) && decide (n ≤ 57343))) := by
  unfold nrm
  rw [G.hasB_one]
theorem may_dom (n : Int) : U.mayB n = (G.dom n && !(decide (55296 ≤ n) && decide (n ≤ 57343))) := by
  unfold U.mayB G.dom
  rw [Bool.eq_iff_iff]
  simp only [Bool.and_eq_true, decide_eq_true_eq, Bool.not_eq_true', Bool.and_eq_false_iff, decide_eq_false_iff_not]
  omega
theorem an_cls0 {w w' : World} {xs : List (Int × Int)} {e : Ending} (h : AnO w (fun n => nrm (normL xs) n && !nrm [(55296, 57343)] n) e w') : ∃ a cap, e = .returned (.slice a (classL false xs).length cap) ∧ (Rs w' a (classL false xs).length cap (classL false xs) ∧ Ty w' a) ∧ Below w.heap.size w w' := by
  refine ano_is (class_is false xs) (h.congr fun n => by
    simp only [Bool.false_eq_true, if_false]
    rw [nrm_surr, may_dom]
    unfold nrm
    rw [(norm_is xs).2]
    unfold inN
    cases G.dom n <;> cases (decide (55296 ≤ n) && decide (n ≤ 57343)) <;> cases G.hasB xs n <;> rfl)
theorem an_cls1 {w w' : World} {xs A : List (Int × Int)} (hA : G.Is A (notP xs 1114111)) {e : Ending} (h : AnO w (fun n => nrm A n && !nrm [(55296, 57343)] n) e w') : ∃ a cap, e = .returned (.slice a (classL true xs).length cap) ∧ (Rs w' a (classL true xs).length cap (classL true xs) ∧ Ty w' a) ∧ Below w.heap.size w w' := by
  refine ano_is (class_is true xs) (h.congr fun n => by
    simp only [if_true]
    rw [nrm_surr, may_dom]
    unfold nrm
    rw [hA.2]
    unfold notP nrm
    have e3 : G.hasB [(0, 1114111)] n = G.dom n := G.hasB_one _ _ _
    rw [e3]
    cases G.dom n <;> cases (decide (55296 ≤ n) && decide (n ≤ 57343)) <;> cases G.hasB xs n <;> rfl)
theorem may_small {l : List (Int × Int)} (h : G.mayB l = true) : l.length ≤ 1000000 := by
  have := G.may_length h
  omega
theorem st_hat : St ⟨#[94]⟩ [94] := ⟨rfl, by intro z hz; simp at hz; omega⟩
theorem st_end : St ⟨#[93]⟩ [93] := ⟨rfl, by intro z hz; simp at hz; omega⟩
set_option maxRecDepth 20000 in
set_option maxHeartbeats 4000000 in
theorem class_0 (a : Option Addr) (len cap : Nat) (l : List Int) (w : World) (h : Bs w a len cap l) (hl : len ≤ 100000) (hp : 1 ≤ len) (h0 : l.getD 0 0 = 91) (hk : hatN l = 0) :
    Calls Tryz.prog 46 #[.slice a len cap] w fun e w' => ∃ v n, e = .returned (.tuple #[v, .int .i64 (n : Nat)]) ∧ TokO w' v n (tokL l) ∧ Below w.heap.size w w' := by
  rw [tok_cls h.hbytes h0, hk]
  have hlen := h.hlen
  have hcap := h.hcap
  have hat : pre [94] (l.drop 1) = false := by
    rw [pre1_eq (by omega), drop_getD]
    unfold hatN at hk
    split at hk
    · next c => omega
    · next c => exact decide_eq_false c
  have il := items_len false _ _ (U.isBytes_drop h.hbytes 1) (Nat.le_refl _)
  have ft := hideR (items_fits false _ _ (U.isBytes_drop h.hbytes 1) (Nat.le_refl _))
  rw [List.length_drop] at il
  have sl := tail_run a len cap 1 1 rfl (by omega)
  skip
  have HB := hideR (Bs.later h (Below.new1 zTok) (Nat.le_refl _))
  have CH := hideR (fun W (hB : Bs W a len cap l) => begins_l _ _ _ _ W (Bs.dropA hB 1 (by omega)) ⟨#[94]⟩ [94] st_hat (by simp))
  rw [hat] at CH
  have CI := hideR (fun W (hB : Bs W a len cap l) => itemsS _ _ _ _ W (Bs.dropA hB 1 hp) (by omega))
  show Calls _ _ _ _ fun e w' => ∃ v n, e = .returned (.tuple #[v, .int .i64 (n : Nat)]) ∧ TokO w' v n (if (l.drop (1 + (itemsG false (l.drop 1)).2)).getD 0 0 = 93 then some ((2, [], classL false (itemsG false (l.drop 1)).1), (itemsG false (l.drop 1)).2 + 2 + 0) else none) ∧ Below w.heap.size w w'
  clear h h0 hk hat
  generalize itemsG false (l.drop 1) = G at *
  obtain ⟨xs, n⟩ := G
  simp only at il ft CI ⊢
  have t1 := wrapI (1 + (n : Int)) (by omega)
  have t2 := wrapI (1 + (n : Int) + 1) (by omega)
  have sl2 := tail_run a len cap (1 + n) (1 + (n : Int)) (by omega) (by omega)
  have CB := hideR (fun W (hB : Bs W a len cap l) => begins_l _ _ _ _ W (Bs.dropA hB (1 + n) (by omega)) ⟨#[93]⟩ [93] st_end (by simp))
  rw [pre1_eq (by omega)] at CB
  have CR := hideR (fun W x c (hR : Rs W x xs.length c xs) => norm_o x xs.length c xs W hR (by omega))
  skip
  unfold zTok at HB
  by_cases c : (l.drop (1 + n)).getD 0 0 = 93
  · rw [if_pos c]
    rw [decide_eq_true c] at CB
    clear c
    go_enter Tryz.func46, Tryz.ntmps46
    go_wp2_with fail
    refine (unhideR CH _ (unhideR HB)).mono ?_
    rintro e w1 ⟨rfl, b1⟩
    have HB1 := hideR (Bs.later (unhideR HB) b1 (Nat.le_refl _))
    clear CH HB
    go_wp2_with fail
    refine (unhideR CI _ (unhideR HB1)).mono ?_
    rintro e w2 ⟨v, rfl, o2, b2⟩
    obtain ⟨x, cx, rfl, hR⟩ := Ow.rs o2 (unhideR ft)
    have HB2 := hideR (Bs.later (unhideR HB1) b2 (Nat.le_refl _))
    have HR := hideR hR
    clear CI HB1 hR o2 ft
    go_wp2_with fail
    refine (unhideR CB _ (unhideR HB2)).mono ?_
    rintro e w3 ⟨rfl, b3⟩
    have HR3 := hideR (Rs.later (unhideR HR) b3 (Nat.le_refl _))
    clear CB HR HB2

    go_wp2_with fail
    refine (unhideR CR _ _ _ (unhideR HR3)).mono ?_
    intro e w4 an
    obtain ⟨y, cy, rfl, ⟨hN, -⟩, b4⟩ := ano_is (norm_is xs) an
    have hnl : (normL xs).length ≤ 1000000 := may_small (norm_is xs).1
    have HN := hideR hN
    clear CR HR3 an hN
    have CL := hideR (rgLessO_any y (normL xs).length cy (normL xs) (some ⟨w4.heap.size, 0, none⟩) 1 1 [(55296, 57343)] (w4.alloc (boxRg 55296 57343)) (Rs.later (unhideR HN) (Below.new1 _) (Nat.le_refl _)) (Rs.single w4 55296 57343 (by unfold fits; omega) (by unfold fits; omega) _ rfl) hnl (by omega))
    clear HN
    unfold boxRg at CL
    go_wp2_with fail
    refine (unhideR CL).mono ?_
    intro e w5 an
    obtain ⟨u, cu, rfl, hN, b5⟩ := an_cls0 an
    have HN := hideR hN
    clear CL an hN
    have B4 := bthen (bthen (bthen b1 b2) b3) b4
    have B5 : Below (w.alloc zTok).heap.size (w.alloc zTok) w5 := bthen (bthen B4 (Below.new1 _)) b5

    have HG : w5.heap[w.heap.size]? = some (.cells #[.int .i64 0, .string ⟨#[]⟩, .slice none 0 0, .int .i64 0] 24) := kept_new B5
    obtain ⟨⟨q0, q1, q2, q3⟩, f0, f1, f2, f3⟩ := cells4 HG
    clear B4
    go_wp2_with fail
    (try simp only [Exit.inBlock, Exit.then])
    refine bodyPost_ret (v := .tuple #[.agg #[.int .i64 2, .string ⟨#[]⟩, .slice u (classL false xs).length cu, .int .i64 0], .int .i64 ((n + 2 + 0 : Nat) : Int)]) ?_ rfl ⟨_, _, rfl, .inr ⟨_, rfl, u, cu, rfl, Rs.set4 (unhideR HN) HG _ _ _ _⟩, ?_⟩
    · rw [results_cell_tmp rfl]
      go_simp
      omega
    · exact set4 ((Below.new1 _).trans (B5.mono (by simp))) (Nat.le_refl _) _ _ _ _
  · rw [if_neg c]
    rw [decide_eq_false c] at CB
    clear c
    go_enter Tryz.func46, Tryz.ntmps46
    go_wp2_with fail
    refine (unhideR CH _ (unhideR HB)).mono ?_
    rintro e w1 ⟨rfl, b1⟩
    have HB1 := hideR (Bs.later (unhideR HB) b1 (Nat.le_refl _))
    clear CH HB
    go_wp2_with fail
    refine (unhideR CI _ (unhideR HB1)).mono ?_
    rintro e w2 ⟨v, rfl, o2, b2⟩
    obtain ⟨x, cx, rfl, hR⟩ := Ow.rs o2 (unhideR ft)
    have HB2 := hideR (Bs.later (unhideR HB1) b2 (Nat.le_refl _))
    have HR := hideR hR
    clear CI HB1 hR o2 ft
    go_wp2_with fail
    refine (unhideR CB _ (unhideR HB2)).mono ?_
    rintro e w3 ⟨rfl, b3⟩
    have HR3 := hideR (Rs.later (unhideR HR) b3 (Nat.le_refl _))
    clear CB HR HB2

    clear CR HR3
    have B3 := bthen (bthen b1 b2) b3
    have HG := kept_new B3
    obtain ⟨⟨q0, q1, q2, q3⟩, f0, f1, f2, f3⟩ := cells4 HG
    go_wp2_with fail
    (try simp only [Exit.inBlock, Exit.then])
    refine bodyPost_ret (v := .tuple #[zeroTok, .int .i64 (0 : Nat)]) ?_ rfl ⟨_, _, rfl, .inl ⟨rfl, rfl, rfl⟩, ?_⟩
    · rw [results_cell_tmp rfl]
      go_simp
      try rfl
    · exact set4 ((Below.new1 _).trans (B3.mono (by simp))) (Nat.le_refl _) _ _ _ _
set_option maxRecDepth 20000 in
set_option maxHeartbeats 4000000 in
theorem class_1 (a : Option Addr) (len cap : Nat) (l : List Int) (w : World) (h : Bs w a len cap l) (hl : len ≤ 100000) (hp : 2 ≤ len) (h0 : l.getD 0 0 = 91) (hk : hatN l = 1) :
    Calls Tryz.prog 46 #[.slice a len cap] w fun e w' => ∃ v n, e = .returned (.tuple #[v, .int .i64 (n : Nat)]) ∧ TokO w' v n (tokL l) ∧ Below w.heap.size w w' := by
  rw [tok_cls h.hbytes h0, hk]
  have hlen := h.hlen
  have hcap := h.hcap
  have hat : pre [94] (l.drop 1) = true := by
    rw [pre1_eq (by omega), drop_getD]
    unfold hatN at hk
    split at hk
    · next c => exact decide_eq_true c
    · next c => omega
  have il := items_len false _ _ (U.isBytes_drop h.hbytes 2) (Nat.le_refl _)
  have ft := hideR (items_fits false _ _ (U.isBytes_drop h.hbytes 2) (Nat.le_refl _))
  rw [List.length_drop] at il
  have sl := tail_run a len cap 1 1 rfl (by omega)
  have sl1 := tail_run a len cap 2 2 rfl hp
  have HB := hideR (Bs.later h (Below.new1 zTok) (Nat.le_refl _))
  have CH := hideR (fun W (hB : Bs W a len cap l) => begins_l _ _ _ _ W (Bs.dropA hB 1 (by omega)) ⟨#[94]⟩ [94] st_hat (by simp))
  rw [hat] at CH
  have CI := hideR (fun W (hB : Bs W a len cap l) => itemsS _ _ _ _ W (Bs.dropA hB 2 hp) (by omega))
  show Calls _ _ _ _ fun e w' => ∃ v n, e = .returned (.tuple #[v, .int .i64 (n : Nat)]) ∧ TokO w' v n (if (l.drop (2 + (itemsG false (l.drop 2)).2)).getD 0 0 = 93 then some ((2, [], classL true (itemsG false (l.drop 2)).1), (itemsG false (l.drop 2)).2 + 2 + 1) else none) ∧ Below w.heap.size w w'
  clear h h0 hk hat
  generalize itemsG false (l.drop 2) = G at *
  obtain ⟨xs, n⟩ := G
  simp only at il ft CI ⊢
  have t1 := wrapI (2 + (n : Int)) (by omega)
  have t2 := wrapI (2 + (n : Int) + 1) (by omega)
  have sl2 := tail_run a len cap (2 + n) (2 + (n : Int)) (by omega) (by omega)
  have CB := hideR (fun W (hB : Bs W a len cap l) => begins_l _ _ _ _ W (Bs.dropA hB (2 + n) (by omega)) ⟨#[93]⟩ [93] st_end (by simp))
  rw [pre1_eq (by omega)] at CB
  have CR := hideR (fun W x c (hR : Rs W x xs.length c xs) => norm_o x xs.length c xs W hR (by omega))
  have CT := hideR (fun W x c (hR : Rs W x xs.length c xs) => rgNot_any x xs.length c xs 1114111 W hR (by omega) (by unfold fits; omega))
  unfold zTok at HB
  by_cases c : (l.drop (2 + n)).getD 0 0 = 93
  · rw [if_pos c]
    rw [decide_eq_true c] at CB
    clear c
    go_enter Tryz.func46, Tryz.ntmps46
    go_wp2_with fail
    refine (unhideR CH _ (unhideR HB)).mono ?_
    rintro e w1 ⟨rfl, b1⟩
    have HB1 := hideR (Bs.later (unhideR HB) b1 (Nat.le_refl _))
    clear CH HB
    go_wp2_with fail
    refine (unhideR CI _ (unhideR HB1)).mono ?_
    rintro e w2 ⟨v, rfl, o2, b2⟩
    obtain ⟨x, cx, rfl, hR⟩ := Ow.rs o2 (unhideR ft)
    have HB2 := hideR (Bs.later (unhideR HB1) b2 (Nat.le_refl _))
    have HR := hideR hR
    clear CI HB1 hR o2 ft
    go_wp2_with fail
    refine (unhideR CB _ (unhideR HB2)).mono ?_
    rintro e w3 ⟨rfl, b3⟩
    have HR3 := hideR (Rs.later (unhideR HR) b3 (Nat.le_refl _))
    clear CB HR HB2

    go_wp2_with fail
    refine (unhideR CR _ _ _ (unhideR HR3)).mono ?_
    intro e w4 an
    obtain ⟨y, cy, rfl, ⟨hN, -⟩, b4⟩ := ano_is (norm_is xs) an
    have HR4 := hideR (Rs.later (unhideR HR3) b4 (Nat.le_refl _))
    clear CR HR3 an hN
    go_wp2_with fail
    refine (unhideR CT _ _ _ (unhideR HR4)).mono ?_
    intro e w4b an
    obtain ⟨yb, lb, cyb, A, rfl, hN, hA, b4b⟩ := an
    have hnl : lb ≤ 1000000 := by rw [← hN.hlen]; exact may_small hA.1
    have HN := hideR hN
    clear CT HR4 hN
    have CL := hideR (rgLessO_any yb lb cyb A (some ⟨w4b.heap.size, 0, none⟩) 1 1 [(55296, 57343)] (w4b.alloc (boxRg 55296 57343)) (Rs.later (unhideR HN) (Below.new1 _) (Nat.le_refl _)) (Rs.single w4b 55296 57343 (by unfold fits; omega) (by unfold fits; omega) _ rfl) hnl (by omega))
    clear HN
    unfold boxRg at CL
    go_wp2_with fail
    refine (unhideR CL).mono ?_
    intro e w5 an
    obtain ⟨u, cu, rfl, hN, b5⟩ := an_cls1 hA an
    have HN := hideR hN
    clear CL an hN
    have B4 := bthen (bthen (bthen (bthen b1 b2) b3) b4) b4b
    have B5 : Below (w.alloc zTok).heap.size (w.alloc zTok) w5 := bthen (bthen B4 (Below.new1 _)) b5

    have HG : w5.heap[w.heap.size]? = some (.cells #[.int .i64 0, .string ⟨#[]⟩, .slice none 0 0, .int .i64 0] 24) := kept_new B5
    obtain ⟨⟨q0, q1, q2, q3⟩, f0, f1, f2, f3⟩ := cells4 HG
    clear B4
    go_wp2_with fail
    (try simp only [Exit.inBlock, Exit.then])
    refine bodyPost_ret (v := .tuple #[.agg #[.int .i64 2, .string ⟨#[]⟩, .slice u (classL true xs).length cu, .int .i64 0], .int .i64 ((n + 2 + 1 : Nat) : Int)]) ?_ rfl ⟨_, _, rfl, .inr ⟨_, rfl, u, cu, rfl, Rs.set4 (unhideR HN) HG _ _ _ _⟩, ?_⟩
    · rw [results_cell_tmp rfl]
      go_simp
      omega
    · exact set4 ((Below.new1 _).trans (B5.mono (by simp))) (Nat.le_refl _) _ _ _ _
  · rw [if_neg c]
    rw [decide_eq_false c] at CB
    clear c
    go_enter Tryz.func46, Tryz.ntmps46
    go_wp2_with fail
    refine (unhideR CH _ (unhideR HB)).mono ?_
    rintro e w1 ⟨rfl, b1⟩
    have HB1 := hideR (Bs.later (unhideR HB) b1 (Nat.le_refl _))
    clear CH HB
    go_wp2_with fail
    refine (unhideR CI _ (unhideR HB1)).mono ?_
    rintro e w2 ⟨v, rfl, o2, b2⟩
    obtain ⟨x, cx, rfl, hR⟩ := Ow.rs o2 (unhideR ft)
    have HB2 := hideR (Bs.later (unhideR HB1) b2 (Nat.le_refl _))
    have HR := hideR hR
    clear CI HB1 hR o2 ft
    go_wp2_with fail
    refine (unhideR CB _ (unhideR HB2)).mono ?_
    rintro e w3 ⟨rfl, b3⟩
    have HR3 := hideR (Rs.later (unhideR HR) b3 (Nat.le_refl _))
    clear CB HR HB2

    clear CR HR3
    have B3 := bthen (bthen b1 b2) b3
    have HG := kept_new B3
    obtain ⟨⟨q0, q1, q2, q3⟩, f0, f1, f2, f3⟩ := cells4 HG
    go_wp2_with fail
    (try simp only [Exit.inBlock, Exit.then])
    refine bodyPost_ret (v := .tuple #[zeroTok, .int .i64 (0 : Nat)]) ?_ rfl ⟨_, _, rfl, .inl ⟨rfl, rfl, rfl⟩, ?_⟩
    · rw [results_cell_tmp rfl]
      go_simp
      try rfl
    · exact set4 ((Below.new1 _).trans (B3.mono (by simp))) (Nat.le_refl _) _ _ _ _
theorem class_l (a : Option Addr) (len cap : Nat) (l : List Int) (w : World) (h : Bs w a len cap l) (hl : len ≤ 100000) (hp : 1 ≤ len) (h0 : l.getD 0 0 = 91) :
    Calls Tryz.prog 46 #[.slice a len cap] w fun e w' => ∃ v n, e = .returned (.tuple #[v, .int .i64 (n : Nat)]) ∧ TokO w' v n (tokL l) ∧ Below w.heap.size w w' := by
  by_cases c : l.getD 1 0 = 94
  · have hk : hatN l = 1 := by unfold hatN; rw [if_pos c]
    have h2 : 2 ≤ len := by
      apply Classical.byContradiction
      intro cc
      have e : l.getD 1 0 = 0 := by simp [List.getD, List.getElem?_eq_none (show l.length ≤ 1 by have := h.hlen; omega)]
      omega
    exact class_1 a len cap l w h hl h2 h0 hk
  · exact class_0 a len cap l w h hl hp h0 (by unfold hatN; rw [if_neg c])
end Go.Proofs.YtdaadeohamkoiaaGreatDoor.T
