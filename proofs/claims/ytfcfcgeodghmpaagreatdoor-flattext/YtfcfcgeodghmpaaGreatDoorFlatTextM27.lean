/- Parts of the proof of FlatText that stand ahead of it (27: TkJ, TkK, TkL, TkN, TkP, TkR, TkT, TkV). -/
import Derived.Test.YtfcfcgeodghmpaaGreatDoorFlatTextM23
import Derived.Test.YtfcfcgeodghmpaaGreatDoorFlatTextM26
import Derived.Test.YtfcfcgeodghmpaaGreatDoorFlatTextM12
import Derived.Lib.OthersKept
import Derived.Carry
import Derived.BigRegion
import Derived.Laws.BitsLemmas
import Derived.Test.YtfcfcgeodghmpaaGreatDoorFlatTextM6
namespace Go.Proofs.YtfcfcgeodghmpaaGreatDoor.T
open Go.RowKit
set_option linter.unusedVariables false
set_option linter.unusedSimpArgs false

theorem sign_scalar {r : List Int} (hb : U.isBytes r) {x : Int} {k : Nat} (h : signL r = some (x, k)) : U.mayB x = true := by
  unfold signL at h
  split at h
  · cases h
  · next h0 =>
    split at h
    · split at h
      · cases h
      · next c =>
        simp only [Option.some.injEq] at h
        rcases U.next_cases hb with ⟨e, _⟩ | ⟨_, e⟩ | ⟨r', hm, e, _⟩
        · exact absurd e h0
        · rw [e] at c; exact absurd (show (-1 : Int) < 32 by omega) (fun z => c (.inl z))
        · rw [e] at h
          simp only [Prod.mk.injEq] at h
          rw [← h.1]; exact hm
    · split at h
      · cases h
      · split at h
        · cases h
        · next c =>
          simp only [Option.some.injEq, Prod.mk.injEq] at h
          rw [← h.1]
          cases e : U.mayB (digF 6 0 (List.drop 2 r)).1 with
          | true => rfl
          | false => exact absurd (Or.inr (Or.inl e)) c
theorem one_range {b : Bool} {r : List Int} (hb : U.isBytes r) {x : Int} {k : Nat} (h : oneL b r = some (x, k)) : 0 ≤ x ∧ x ≤ 1114111 := by
  cases b with
  | true => have := one_hex h; omega
  | false =>
    have := (U.may_iff x).1 (sign_scalar hb h)
    omega
theorem item_range {b : Bool} {r : List Int} (hb : U.isBytes r) {x : Int × Int} {n : Nat} (h : itemL b r = some (x, n)) : 0 ≤ x.1 ∧ x.1 ≤ x.2 ∧ x.2 ≤ 1114111 := by
  unfold itemL at h
  cases e : oneL b r with
  | none => rw [e] at h; cases h
  | some p =>
    obtain ⟨lo, k⟩ := p
    have r1 := one_range hb e
    rw [e] at h
    simp only at h
    split at h
    · cases e2 : oneL b (r.drop (k + 1)) with
      | none => rw [e2] at h; cases h
      | some q =>
        obtain ⟨to, m⟩ := q
        have r2 := one_range (U.isBytes_drop hb (k + 1)) e2
        rw [e2] at h
        simp only at h
        split at h
        · cases h
        · simp only [Option.some.injEq, Prod.mk.injEq] at h
          obtain ⟨rfl, rfl⟩ := h
          simp only
          omega
    · simp only [Option.some.injEq, Prod.mk.injEq] at h
      obtain ⟨rfl, rfl⟩ := h
      simp only
      omega
theorem items_fits (b : Bool) : ∀ (f : Nat) (r : List Int), U.isBytes r → r.length ≤ f → ∀ x ∈ (itemsG b r).1, fits x.1 ∧ fits x.2 := by
  intro f
  induction f with
  | zero =>
    intro r hb h
    have : r = [] := List.eq_nil_of_length_eq_zero (by omega)
    subst this
    rw [items_no (item_nil b)]
    intro x hx; cases hx
  | succ f ih =>
    intro r hb h
    cases e : itemL b r with
    | none => rw [items_no e]; intro x hx; cases hx
    | some p =>
      obtain ⟨x, n⟩ := p
      have hn := item_good b r x n hb e
      have hr := item_range hb e
      have := ih (r.drop n) (U.isBytes_drop hb n) (by rw [List.length_drop]; omega)
      rw [items_yes hb e]
      intro y hy
      rcases List.mem_cons.1 hy with rfl | hy
      · unfold fits; omega
      · exact this y hy
theorem stop_hex (r : List Int) (h : r.getD 0 0 = 62) : itemL true r = none := by
  have : hexI r = -1 := by
    unfold hexI
    rw [h, if_pos (.inl (by decide))]
  unfold itemL oneL
  simp [this]
theorem stop_cls (r : List Int) (h : r.getD 0 0 = 93) : itemL false r = none := by
  have h0 : r ≠ [] := by intro c; rw [c] at h; exact absurd h (by decide)
  have : signL r = none := by
    unfold signL
    rw [if_neg h0, if_pos (by rw [h]; omega)]
    have e : U.nextL r = (93, 1) := by
      unfold U.nextL
      rw [if_neg h0, h]
      have hl : 1 ≤ r.length := by cases r <;> simp_all
      have m1 : U.manyN 93 = 1 := by decide
      rw [m1, if_neg (by omega)]
      have e2 : U.readN 1 r = 93 := by
        show r.getD 0 0 = 93
        exact h
      rw [e2]
      rfl
    rw [e]
    rfl
  unfold itemL oneL
  simp [this]
theorem tok_octs {l : List Int} (hb : U.isBytes l) (h : l.getD 0 0 = 60) : tokL l = if (l.drop (1 + (itemsG true (l.drop 1)).2)).getD 0 0 = 62 then some ((3, [], normL (itemsG true (l.drop 1)).1), (itemsG true (l.drop 1)).2 + 2) else none := by
  unfold tokL
  rw [h, if_neg (by decide), if_neg (by omega), if_neg (by decide), if_neg (by omega), if_pos rfl, items_gather (by omega) stop_hex _ _ (U.isBytes_drop hb 1) (Nat.le_refl _), List.drop_drop]
  by_cases c : (List.drop (1 + (itemsG true (l.drop 1)).2) l).getD 0 0 = 62
  · rw [if_pos c, if_pos c]
  · rw [if_neg c, if_neg c]
theorem cells4 {W : World} {g : Nat} {x0 x1 x2 x3 : Value} {t : TypeId} (h : W.heap[g]? = some (.cells #[x0, x1, x2, x3] t)) :
    (W.cell? ⟨g, 0, none⟩ = some x0 ∧ W.cell? ⟨g, 1, none⟩ = some x1 ∧ W.cell? ⟨g, 2, none⟩ = some x2 ∧ W.cell? ⟨g, 3, none⟩ = some x3) ∧
    (W.frozen? ⟨g, 0, none⟩ = false ∧ W.frozen? ⟨g, 1, none⟩ = false ∧ W.frozen? ⟨g, 2, none⟩ = false ∧ W.frozen? ⟨g, 3, none⟩ = false) := by
  refine ⟨⟨?_, ?_, ?_, ?_⟩, ?_, ?_, ?_, ?_⟩ <;> simp [World.cell?, World.frozen?, h]
theorem set4 {B : Nat} {a w : World} (h : Below B a w) {g : Nat} (hg : B ≤ g) (x0 x1 x2 x3 : Value) : Below B a ((((w.setCell ⟨g, 0, none⟩ x0).setCell ⟨g, 1, none⟩ x1).setCell ⟨g, 2, none⟩ x2).setCell ⟨g, 3, none⟩ x3) :=
  Below.setCell (Below.setCell (Below.setCell (Below.setCell h (show B ≤ (⟨g, 0, none⟩ : Addr).block from hg) _) (show B ≤ (⟨g, 1, none⟩ : Addr).block from hg) _) (show B ≤ (⟨g, 2, none⟩ : Addr).block from hg) _) (show B ≤ (⟨g, 3, none⟩ : Addr).block from hg) _
theorem Rs.set4 {w : World} {a : Option Addr} {len cap : Nat} {l : List (Int × Int)} (h : Rs w a len cap l ∧ Ty w a) {g : Nat} {cs : Array Value} (hg : w.heap[g]? = some (.cells cs 102)) (x0 x1 x2 x3 : Value) :
    Rs ((((w.setCell ⟨g, 0, none⟩ x0).setCell ⟨g, 1, none⟩ x1).setCell ⟨g, 2, none⟩ x2).setCell ⟨g, 3, none⟩ x3) a len cap l ∧ Ty ((((w.setCell ⟨g, 0, none⟩ x0).setCell ⟨g, 1, none⟩ x1).setCell ⟨g, 2, none⟩ x2).setCell ⟨g, 3, none⟩ x3) a := by
  have hbg : ∀ b off, a = some ⟨b, off, none⟩ → b ≠ g := by
    intro b off e c
    subst c
    obtain ⟨cs', fr, hk⟩ := h.2 b off e
    rw [hg] at hk
    injection hk with hk
    injection hk with _ hk
    exact absurd hk (by decide)
  constructor
  · refine ⟨h.1.hlen, h.1.hcap, h.1.hmax, h.1.hfit, fun i hi => ?_⟩
    obtain ⟨b, off, ha, hc, hd⟩ := h.1.hcell i hi
    have ne : ∀ (k m : Nat), (⟨g, k, none⟩ : Addr) ≠ ⟨b, m, none⟩ := fun k m e => hbg b off ha (by injection e with e1; exact e1.symm)
    refine ⟨b, off, ha, ?_, ?_⟩
    · rw [World.cell?_setCell_other (h := ne _ _), World.cell?_setCell_other (h := ne _ _), World.cell?_setCell_other (h := ne _ _), World.cell?_setCell_other (h := ne _ _)]; exact hc
    · rw [World.cell?_setCell_other (h := ne _ _), World.cell?_setCell_other (h := ne _ _), World.cell?_setCell_other (h := ne _ _), World.cell?_setCell_other (h := ne _ _)]; exact hd
  · intro b off e
    obtain ⟨cs', fr, hk⟩ := h.2 b off e
    have hb := hbg b off e
    refine ⟨cs', fr, ?_⟩
    rw [Below.heap_setCell _ _ _ _ hb, Below.heap_setCell _ _ _ _ hb, Below.heap_setCell _ _ _ _ hb, Below.heap_setCell _ _ _ _ hb]
    exact hk
theorem own_ty {w : World} {base : Nat} {a : Option Addr} {n m cap : Nat} {xs : List Value} (h : w.ownsRow base 58 2 (.slice a n cap) m xs) : Ty w a := by
  intro b off e
  rcases h.2 with ⟨e0, _⟩ | ⟨g, cap', cur, e0, _, hg, _⟩
  · injection e0 with e1; rw [e] at e1; cases e1
  · injection e0 with e1
    rw [e] at e1
    injection e1 with e1
    injection e1 with e1
    subst e1
    exact ⟨_, _, hg⟩
theorem ano_is {w w' : World} {p : Int → Bool} {R : List (Int × Int)} (hR : G.Is R p) {e : Ending} (h : AnO w p e w') : ∃ a cap, e = .returned (.slice a R.length cap) ∧ (Rs w' a R.length cap R ∧ Ty w' a) ∧ Below w.heap.size w w' := by
  obtain ⟨v, out, he, ho, hi, hb⟩ := h
  have e1 : out = R := hi.unique hR (fun n => rfl)
  subst e1
  obtain ⟨a, cap, rfl, hr⟩ := Ow.rs ho (may_fits hi.1)
  exact ⟨a, cap, he, ⟨hr, own_ty ho⟩, hb⟩
theorem norm_o (a : Option Addr) (len cap : Nat) (l : List (Int × Int)) (w : World) (h : Rs w a len cap l) (hs : len ≤ 1000000) :
    Calls Tryz.prog 123 #[.slice a len cap] w (AnO w (inN l)) := (norm_any a len cap l w h hs).mono fun _ _ ⟨v, out, he, ho, hi, hb⟩ => ⟨v, out, he, ho, hi, hb⟩
theorem st_gt : St ⟨#[62]⟩ [62] := ⟨rfl, by intro z hz; simp at hz; omega⟩
def zTok : Obj := .cells #[.int .i64 0, .string ⟨#[]⟩, .slice none 0 0, .int .i64 0] 102
set_option maxRecDepth 20000 in
set_option maxHeartbeats 4000000 in
theorem octets_l (a : Option Addr) (len cap : Nat) (l : List Int) (w : World) (h : Bs w a len cap l) (hl : len ≤ 100000) (hp : 1 ≤ len) (h0 : l.getD 0 0 = 60) :
    Calls Tryz.prog 78 #[.slice a len cap] w fun e w' => ∃ v n, e = .returned (.tuple #[v, .int .i64 (n : Nat)]) ∧ TokO w' v n (tokL l) ∧ Below w.heap.size w w' := by
  rw [tok_octs h.hbytes h0]
  have hlen := h.hlen
  have hcap := h.hcap
  have il := items_len true _ _ (U.isBytes_drop h.hbytes 1) (Nat.le_refl _)
  have ft := hideR (items_fits true _ _ (U.isBytes_drop h.hbytes 1) (Nat.le_refl _))
  rw [List.length_drop] at il
  have sl := tail_run a len cap 1 1 rfl hp
  have HB := hideR (Bs.later h (Below.new1 zTok) (Nat.le_refl _))
  have CI := hideR (fun W (hB : Bs W a len cap l) => itemsH _ _ _ _ W (Bs.dropA hB 1 hp) (by omega))
  clear h h0
  generalize itemsG true (l.drop 1) = G at *
  obtain ⟨xs, n⟩ := G
  simp only at il ft CI ⊢
  have t1 := wrapI (1 + (n : Int)) (by omega)
  have t2 := wrapI (1 + (n : Int) + 1) (by omega)
  have sl2 := tail_run a len cap (1 + n) (1 + (n : Int)) (by omega) (by omega)
  have CB := hideR (fun W (hB : Bs W a len cap l) => begins_l _ _ _ _ W (Bs.dropA hB (1 + n) (by omega)) ⟨#[62]⟩ [62] st_gt (by simp))
  rw [pre1_eq (by omega)] at CB
  have CR := hideR (fun W x c (hR : Rs W x xs.length c xs) => norm_o x xs.length c xs W hR (by omega))
  unfold zTok at HB
  by_cases c : (l.drop (1 + n)).getD 0 0 = 62
  · rw [if_pos c]
    rw [decide_eq_true c] at CB
    clear c
    go_enter Tryz.func78, Tryz.ntmps78
    go_wp2_with fail
    refine (unhideR CI _ (unhideR HB)).mono ?_
    rintro e w1 ⟨v, rfl, o1, b1⟩
    obtain ⟨x, cx, rfl, hR⟩ := Ow.rs o1 (unhideR ft)
    have HB1 := hideR (Bs.later (unhideR HB) b1 (Nat.le_refl _))
    have HR := hideR hR
    clear CI HB hR o1 ft
    go_wp2_with fail
    refine (unhideR CB _ (unhideR HB1)).mono ?_
    rintro e w2 ⟨rfl, b2⟩
    have HR2 := hideR (Rs.later (unhideR HR) b2 (Nat.le_refl _))
    clear CB HR HB1
    go_wp2_with fail
    refine (unhideR CR _ _ _ (unhideR HR2)).mono ?_
    intro e w3 an
    obtain ⟨y, cy, rfl, hN, b3⟩ := ano_is (norm_is xs) an
    have HN := hideR hN
    clear CR HR2 an hN
    have B3 := bthen (bthen b1 b2) b3
    have HG := kept_new B3
    obtain ⟨⟨q0, q1, q2, q3⟩, f0, f1, f2, f3⟩ := cells4 HG
    go_wp2_with fail
    (try simp only [Exit.inBlock, Exit.then])
    refine bodyPost_ret (v := .tuple #[.agg #[.int .i64 3, .string ⟨#[]⟩, .slice y (normL xs).length cy, .int .i64 0], .int .i64 ((n + 2 : Nat) : Int)]) ?_ rfl ⟨_, _, rfl, .inr ⟨_, rfl, y, cy, rfl, Rs.set4 (unhideR HN) HG _ _ _ _⟩, ?_⟩
    · rw [results_cell_tmp rfl]
      go_simp
      omega
    · exact set4 ((Below.new1 _).trans (B3.mono (by simp))) (Nat.le_refl _) _ _ _ _
  · rw [if_neg c]
    rw [decide_eq_false c] at CB
    clear c
    go_enter Tryz.func78, Tryz.ntmps78
    go_wp2_with fail
    refine (unhideR CI _ (unhideR HB)).mono ?_
    rintro e w1 ⟨v, rfl, o1, b1⟩
    have HB1 := hideR (Bs.later (unhideR HB) b1 (Nat.le_refl _))
    clear CI HB o1 ft
    go_wp2_with fail
    refine (unhideR CB _ (unhideR HB1)).mono ?_
    rintro e w2 ⟨rfl, b2⟩
    clear CB HB1 CR
    have B3 := bthen b1 b2
    have HG := kept_new B3
    obtain ⟨⟨q0, q1, q2, q3⟩, f0, f1, f2, f3⟩ := cells4 HG
    go_wp2_with fail
    (try simp only [Exit.inBlock, Exit.then])
    refine bodyPost_ret (v := .tuple #[zeroTok, .int .i64 (0 : Nat)]) ?_ rfl ⟨_, _, rfl, .inl ⟨rfl, rfl, rfl⟩, ?_⟩
    · rw [results_cell_tmp rfl]
      go_simp
      try rfl
    · exact set4 ((Below.new1 _).trans (B3.mono (by simp))) (Nat.le_refl _) _ _ _ _
end Go.Proofs.YtfcfcgeodghmpaaGreatDoor.T

namespace Go.Proofs.YtfcfcgeodghmpaaGreatDoor.T
open Go.RowKit
set_option linter.unusedVariables false
set_option linter.unusedSimpArgs false

theorem tok_cls {l : List Int} (hb : U.isBytes l) (h : l.getD 0 0 = 91) : tokL l = if (l.drop (1 + hatN l + (itemsG false (l.drop (1 + hatN l))).2)).getD 0 0 = 93 then some ((2, [], classL (decide (hatN l = 1)) (itemsG false (l.drop (1 + hatN l))).1), (itemsG false (l.drop (1 + hatN l))).2 + 2 + hatN l) else none := by
  unfold tokL
  rw [h, if_neg (by decide), if_neg (by omega), if_neg (by decide), if_neg (by omega), if_neg (by omega), if_pos rfl, items_gather (by omega) stop_cls _ _ (U.isBytes_drop hb (1 + hatN l)) (Nat.le_refl _), List.drop_drop]
  by_cases c : (List.drop (1 + hatN l + (itemsG false (l.drop (1 + hatN l))).2) l).getD 0 0 = 93
  · rw [if_pos c, if_pos c]
  · rw [if_neg c, if_neg c]
theorem nrm_surr (n : Int) : nrm [(55296, 57343)] n = (G.dom n && (decide (55296 ≤ n) && decide (n ≤ 57343))) := by
  unfold nrm
  rw [G.hasB_one]
theorem may_dom (n : Int) : U.mayB n = (G.dom n && !(decide (55296 ≤ n) && decide (n ≤ 57343))) := by
  unfold U.mayB G.dom
  rw [Bool.eq_iff_iff]
  simp only [Bool.and_eq_true, decide_eq_true_eq, Bool.not_eq_true', Bool.and_eq_false_iff, decide_eq_false_iff_not]
  omega
theorem an_cls0 {w w' : World} {xs : List (Int × Int)} {e : Ending} (h : AnO w (fun n => nrm (normL xs) n && !nrm [(55296, 57343)] n) e w') : ∃ a cap, e = .returned (.slice a (classL false xs).length cap) ∧ (Rs w' a (classL false xs).length cap (classL false xs) ∧ Ty w' a) ∧ Below w.heap.size w w' := by
  refine ano_is (class_is false xs) (h.congr fun n => by
    simp only [Bool.false_eq_true, if_false]
    rw [nrm_surr, may_dom]
    unfold nrm
    rw [(norm_is xs).2]
    unfold inN
    cases G.dom n <;> cases (decide (55296 ≤ n) && decide (n ≤ 57343)) <;> cases G.hasB xs n <;> rfl)
theorem an_cls1 {w w' : World} {xs A : List (Int × Int)} (hA : G.Is A (notP xs 1114111)) {e : Ending} (h : AnO w (fun n => nrm A n && !nrm [(55296, 57343)] n) e w') : ∃ a cap, e = .returned (.slice a (classL true xs).length cap) ∧ (Rs w' a (classL true xs).length cap (classL true xs) ∧ Ty w' a) ∧ Below w.heap.size w w' := by
  refine ano_is (class_is true xs) (h.congr fun n => by
    simp only [if_true]
    rw [nrm_surr, may_dom]
    unfold nrm
    rw [hA.2]
    unfold notP nrm
    have e3 : G.hasB [(0, 1114111)] n = G.dom n := G.hasB_one _ _ _
    rw [e3]
    cases G.dom n <;> cases (decide (55296 ≤ n) && decide (n ≤ 57343)) <;> cases G.hasB xs n <;> rfl)
theorem may_small {l : List (Int × Int)} (h : G.mayB l = true) : l.length ≤ 1000000 := by
  have := G.may_length h
  omega
theorem st_hat : St ⟨#[94]⟩ [94] := ⟨rfl, by intro z hz; simp at hz; omega⟩
theorem st_end : St ⟨#[93]⟩ [93] := ⟨rfl, by intro z hz; simp at hz; omega⟩
set_option maxRecDepth 20000 in
set_option maxHeartbeats 4000000 in
theorem class_0 (a : Option Addr) (len cap : Nat) (l : List Int) (w : World) (h : Bs w a len cap l) (hl : len ≤ 100000) (hp : 1 ≤ len) (h0 : l.getD 0 0 = 91) (hk : hatN l = 0) :
    Calls Tryz.prog 77 #[.slice a len cap] w fun e w' => ∃ v n, e = .returned (.tuple #[v, .int .i64 (n : Nat)]) ∧ TokO w' v n (tokL l) ∧ Below w.heap.size w w' := by
  rw [tok_cls h.hbytes h0, hk]
  have hlen := h.hlen
  have hcap := h.hcap
  have hat : pre [94] (l.drop 1) = false := by
    rw [pre1_eq (by omega), drop_getD]
    unfold hatN at hk
    split at hk
    · next c => omega
    · next c => exact decide_eq_false c
  have il := items_len false _ _ (U.isBytes_drop h.hbytes 1) (Nat.le_refl _)
  have ft := hideR (items_fits false _ _ (U.isBytes_drop h.hbytes 1) (Nat.le_refl _))
  rw [List.length_drop] at il
  have sl := tail_run a len cap 1 1 rfl (by omega)
  skip
  have HB := hideR (Bs.later h (Below.new1 zTok) (Nat.le_refl _))
  have CH := hideR (fun W (hB : Bs W a len cap l) => begins_l _ _ _ _ W (Bs.dropA hB 1 (by omega)) ⟨#[94]⟩ [94] st_hat (by simp))
  rw [hat] at CH
  have CI := hideR (fun W (hB : Bs W a len cap l) => itemsS _ _ _ _ W (Bs.dropA hB 1 hp) (by omega))
  show Calls _ _ _ _ fun e w' => ∃ v n, e = .returned (.tuple #[v, .int .i64 (n : Nat)]) ∧ TokO w' v n (if (l.drop (1 + (itemsG false (l.drop 1)).2)).getD 0 0 = 93 then some ((2, [], classL false (itemsG false (l.drop 1)).1), (itemsG false (l.drop 1)).2 + 2 + 0) else none) ∧ Below w.heap.size w w'
  clear h h0 hk hat
  generalize itemsG false (l.drop 1) = G at *
  obtain ⟨xs, n⟩ := G
  simp only at il ft CI ⊢
  have t1 := wrapI (1 + (n : Int)) (by omega)
  have t2 := wrapI (1 + (n : Int) + 1) (by omega)
  have sl2 := tail_run a len cap (1 + n) (1 + (n : Int)) (by omega) (by omega)
  have CB := hideR (fun W (hB : Bs W a len cap l) => begins_l _ _ _ _ W (Bs.dropA hB (1 + n) (by omega)) ⟨#[93]⟩ [93] st_end (by simp))
  rw [pre1_eq (by omega)] at CB
  have CR := hideR (fun W x c (hR : Rs W x xs.length c xs) => norm_o x xs.length c xs W hR (by omega))
  skip
  unfold zTok at HB
  by_cases c : (l.drop (1 + n)).getD 0 0 = 93
  · rw [if_pos c]
    rw [decide_eq_true c] at CB
    clear c
    go_enter Tryz.func77, Tryz.ntmps77
    go_wp2_with fail
    refine (unhideR CH _ (unhideR HB)).mono ?_
    rintro e w1 ⟨rfl, b1⟩
    have HB1 := hideR (Bs.later (unhideR HB) b1 (Nat.le_refl _))
    clear CH HB
    go_wp2_with fail
    refine (unhideR CI _ (unhideR HB1)).mono ?_
    rintro e w2 ⟨v, rfl, o2, b2⟩
    obtain ⟨x, cx, rfl, hR⟩ := Ow.rs o2 (unhideR ft)
    have HB2 := hideR (Bs.later (unhideR HB1) b2 (Nat.le_refl _))
    have HR := hideR hR
    clear CI HB1 hR o2 ft
    go_wp2_with fail
    refine (unhideR CB _ (unhideR HB2)).mono ?_
    rintro e w3 ⟨rfl, b3⟩
    have HR3 := hideR (Rs.later (unhideR HR) b3 (Nat.le_refl _))
    clear CB HR HB2

    go_wp2_with fail
    refine (unhideR CR _ _ _ (unhideR HR3)).mono ?_
    intro e w4 an
    obtain ⟨y, cy, rfl, ⟨hN, -⟩, b4⟩ := ano_is (norm_is xs) an
    have hnl : (normL xs).length ≤ 1000000 := may_small (norm_is xs).1
    have HN := hideR hN
    clear CR HR3 an hN
    have CL := hideR (rgLessO_any y (normL xs).length cy (normL xs) (some ⟨w4.heap.size, 0, none⟩) 1 1 [(55296, 57343)] (w4.alloc (boxRg 55296 57343)) (Rs.later (unhideR HN) (Below.new1 _) (Nat.le_refl _)) (Rs.single w4 55296 57343 (by unfold fits; omega) (by unfold fits; omega) _ rfl) hnl (by omega))
    clear HN
    unfold boxRg at CL
    go_wp2_with fail
    refine (unhideR CL).mono ?_
    intro e w5 an
    obtain ⟨u, cu, rfl, hN, b5⟩ := an_cls0 an
    have HN := hideR hN
    clear CL an hN
    have B4 := bthen (bthen (bthen b1 b2) b3) b4
    have B5 : Below (w.alloc zTok).heap.size (w.alloc zTok) w5 := bthen (bthen B4 (Below.new1 _)) b5

    have HG : w5.heap[w.heap.size]? = some (.cells #[.int .i64 0, .string ⟨#[]⟩, .slice none 0 0, .int .i64 0] 102) := kept_new B5
    obtain ⟨⟨q0, q1, q2, q3⟩, f0, f1, f2, f3⟩ := cells4 HG
    clear B4
    go_wp2_with fail
    (try simp only [Exit.inBlock, Exit.then])
    refine bodyPost_ret (v := .tuple #[.agg #[.int .i64 2, .string ⟨#[]⟩, .slice u (classL false xs).length cu, .int .i64 0], .int .i64 ((n + 2 + 0 : Nat) : Int)]) ?_ rfl ⟨_, _, rfl, .inr ⟨_, rfl, u, cu, rfl, Rs.set4 (unhideR HN) HG _ _ _ _⟩, ?_⟩
    · rw [results_cell_tmp rfl]
      go_simp
      omega
    · exact set4 ((Below.new1 _).trans (B5.mono (by simp))) (Nat.le_refl _) _ _ _ _
  · rw [if_neg c]
    rw [decide_eq_false c] at CB
    clear c
    go_enter Tryz.func77, Tryz.ntmps77
    go_wp2_with fail
    refine (unhideR CH _ (unhideR HB)).mono ?_
    rintro e w1 ⟨rfl, b1⟩
    have HB1 := hideR (Bs.later (unhideR HB) b1 (Nat.le_refl _))
    clear CH HB
    go_wp2_with fail
    refine (unhideR CI _ (unhideR HB1)).mono ?_
    rintro e w2 ⟨v, rfl, o2, b2⟩
    obtain ⟨x, cx, rfl, hR⟩ := Ow.rs o2 (unhideR ft)
    have HB2 := hideR (Bs.later (unhideR HB1) b2 (Nat.le_refl _))
    have HR := hideR hR
    clear CI HB1 hR o2 ft
    go_wp2_with fail
    refine (unhideR CB _ (unhideR HB2)).mono ?_
    rintro e w3 ⟨rfl, b3⟩
    have HR3 := hideR (Rs.later (unhideR HR) b3 (Nat.le_refl _))
    clear CB HR HB2

    clear CR HR3
    have B3 := bthen (bthen b1 b2) b3
    have HG := kept_new B3
    obtain ⟨⟨q0, q1, q2, q3⟩, f0, f1, f2, f3⟩ := cells4 HG
    go_wp2_with fail
    (try simp only [Exit.inBlock, Exit.then])
    refine bodyPost_ret (v := .tuple #[zeroTok, .int .i64 (0 : Nat)]) ?_ rfl ⟨_, _, rfl, .inl ⟨rfl, rfl, rfl⟩, ?_⟩
    · rw [results_cell_tmp rfl]
      go_simp
      try rfl
    · exact set4 ((Below.new1 _).trans (B3.mono (by simp))) (Nat.le_refl _) _ _ _ _
set_option maxRecDepth 20000 in
set_option maxHeartbeats 4000000 in
theorem class_1 (a : Option Addr) (len cap : Nat) (l : List Int) (w : World) (h : Bs w a len cap l) (hl : len ≤ 100000) (hp : 2 ≤ len) (h0 : l.getD 0 0 = 91) (hk : hatN l = 1) :
    Calls Tryz.prog 77 #[.slice a len cap] w fun e w' => ∃ v n, e = .returned (.tuple #[v, .int .i64 (n : Nat)]) ∧ TokO w' v n (tokL l) ∧ Below w.heap.size w w' := by
  rw [tok_cls h.hbytes h0, hk]
  have hlen := h.hlen
  have hcap := h.hcap
  have hat : pre [94] (l.drop 1) = true := by
    rw [pre1_eq (by omega), drop_getD]
    unfold hatN at hk
    split at hk
    · next c => exact decide_eq_true c
    · next c => omega
  have il := items_len false _ _ (U.isBytes_drop h.hbytes 2) (Nat.le_refl _)
  have ft := hideR (items_fits false _ _ (U.isBytes_drop h.hbytes 2) (Nat.le_refl _))
  rw [List.length_drop] at il
  have sl := tail_run a len cap 1 1 rfl (by omega)
  have sl1 := tail_run a len cap 2 2 rfl hp
  have HB := hideR (Bs.later h (Below.new1 zTok) (Nat.le_refl _))
  have CH := hideR (fun W (hB : Bs W a len cap l) => begins_l _ _ _ _ W (Bs.dropA hB 1 (by omega)) ⟨#[94]⟩ [94] st_hat (by simp))
  rw [hat] at CH
  have CI := hideR (fun W (hB : Bs W a len cap l) => itemsS _ _ _ _ W (Bs.dropA hB 2 hp) (by omega))
  show Calls _ _ _ _ fun e w' => ∃ v n, e = .returned (.tuple #[v, .int .i64 (n : Nat)]) ∧ TokO w' v n (if (l.drop (2 + (itemsG false (l.drop 2)).2)).getD 0 0 = 93 then some ((2, [], classL true (itemsG false (l.drop 2)).1), (itemsG false (l.drop 2)).2 + 2 + 1) else none) ∧ Below w.heap.size w w'
  clear h h0 hk hat
  generalize itemsG false (l.drop 2) = G at *
  obtain ⟨xs, n⟩ := G
  simp only at il ft CI ⊢
  have t1 := wrapI (2 + (n : Int)) (by omega)
  have t2 := wrapI (2 + (n : Int) + 1) (by omega)
  have sl2 := tail_run a len cap (2 + n) (2 + (n : Int)) (by omega) (by omega)
  have CB := hideR (fun W (hB : Bs W a len cap l) => begins_l _ _ _ _ W (Bs.dropA hB (2 + n) (by omega)) ⟨#[93]⟩ [93] st_end (by simp))
  rw [pre1_eq (by omega)] at CB
  have CR := hideR (fun W x c (hR : Rs W x xs.length c xs) => norm_o x xs.length c xs W hR (by omega))
  have CT := hideR (fun W x c (hR : Rs W x xs.length c xs) => rgNot_any x xs.length c xs 1114111 W hR (by omega) (by unfold fits; omega))
  unfold zTok at HB
  by_cases c : (l.drop (2 + n)).getD 0 0 = 93
  · rw [if_pos c]
    rw [decide_eq_true c] at CB
    clear c
    go_enter Tryz.func77, Tryz.ntmps77
    go_wp2_with fail
    refine (unhideR CH _ (unhideR HB)).mono ?_
    rintro e w1 ⟨rfl, b1⟩
    have HB1 := hideR (Bs.later (unhideR HB) b1 (Nat.le_refl _))
    clear CH HB
    go_wp2_with fail
    refine (unhideR CI _ (unhideR HB1)).mono ?_
    rintro e w2 ⟨v, rfl, o2, b2⟩
    obtain ⟨x, cx, rfl, hR⟩ := Ow.rs o2 (unhideR ft)
    have HB2 := hideR (Bs.later (unhideR HB1) b2 (Nat.le_refl _))
    have HR := hideR hR
    clear CI HB1 hR o2 ft
    go_wp2_with fail
    refine (unhideR CB _ (unhideR HB2)).mono ?_
    rintro e w3 ⟨rfl, b3⟩
    have HR3 := hideR (Rs.later (unhideR HR) b3 (Nat.le_refl _))
    clear CB HR HB2

    go_wp2_with fail
    refine (unhideR CR _ _ _ (unhideR HR3)).mono ?_
    intro e w4 an
    obtain ⟨y, cy, rfl, ⟨hN, -⟩, b4⟩ := ano_is (norm_is xs) an
    have HR4 := hideR (Rs.later (unhideR HR3) b4 (Nat.le_refl _))
    clear CR HR3 an hN
    go_wp2_with fail
    refine (unhideR CT _ _ _ (unhideR HR4)).mono ?_
    intro e w4b an
    obtain ⟨yb, lb, cyb, A, rfl, hN, hA, b4b⟩ := an
    have hnl : lb ≤ 1000000 := by rw [← hN.hlen]; exact may_small hA.1
    have HN := hideR hN
    clear CT HR4 hN
    have CL := hideR (rgLessO_any yb lb cyb A (some ⟨w4b.heap.size, 0, none⟩) 1 1 [(55296, 57343)] (w4b.alloc (boxRg 55296 57343)) (Rs.later (unhideR HN) (Below.new1 _) (Nat.le_refl _)) (Rs.single w4b 55296 57343 (by unfold fits; omega) (by unfold fits; omega) _ rfl) hnl (by omega))
    clear HN
    unfold boxRg at CL
    go_wp2_with fail
    refine (unhideR CL).mono ?_
    intro e w5 an
    obtain ⟨u, cu, rfl, hN, b5⟩ := an_cls1 hA an
    have HN := hideR hN
    clear CL an hN
    have B4 := bthen (bthen (bthen (bthen b1 b2) b3) b4) b4b
    have B5 : Below (w.alloc zTok).heap.size (w.alloc zTok) w5 := bthen (bthen B4 (Below.new1 _)) b5

    have HG : w5.heap[w.heap.size]? = some (.cells #[.int .i64 0, .string ⟨#[]⟩, .slice none 0 0, .int .i64 0] 102) := kept_new B5
    obtain ⟨⟨q0, q1, q2, q3⟩, f0, f1, f2, f3⟩ := cells4 HG
    clear B4
    go_wp2_with fail
    (try simp only [Exit.inBlock, Exit.then])
    refine bodyPost_ret (v := .tuple #[.agg #[.int .i64 2, .string ⟨#[]⟩, .slice u (classL true xs).length cu, .int .i64 0], .int .i64 ((n + 2 + 1 : Nat) : Int)]) ?_ rfl ⟨_, _, rfl, .inr ⟨_, rfl, u, cu, rfl, Rs.set4 (unhideR HN) HG _ _ _ _⟩, ?_⟩
    · rw [results_cell_tmp rfl]
      go_simp
      omega
    · exact set4 ((Below.new1 _).trans (B5.mono (by simp))) (Nat.le_refl _) _ _ _ _
  · rw [if_neg c]
    rw [decide_eq_false c] at CB
    clear c
    go_enter Tryz.func77, Tryz.ntmps77
    go_wp2_with fail
    refine (unhideR CH _ (unhideR HB)).mono ?_
    rintro e w1 ⟨rfl, b1⟩
    have HB1 := hideR (Bs.later (unhideR HB) b1 (Nat.le_refl _))
    clear CH HB
    go_wp2_with fail
    refine (unhideR CI _ (unhideR HB1)).mono ?_
    rintro e w2 ⟨v, rfl, o2, b2⟩
    obtain ⟨x, cx, rfl, hR⟩ := Ow.rs o2 (unhideR ft)
    have HB2 := hideR (Bs.later (unhideR HB1) b2 (Nat.le_refl _))
    have HR := hideR hR
    clear CI HB1 hR o2 ft
    go_wp2_with fail
    refine (unhideR CB _ (unhideR HB2)).mono ?_
    rintro e w3 ⟨rfl, b3⟩
    have HR3 := hideR (Rs.later (unhideR HR) b3 (Nat.le_refl _))
    clear CB HR HB2

    clear CR HR3
    have B3 := bthen (bthen b1 b2) b3
    have HG := kept_new B3
    obtain ⟨⟨q0, q1, q2, q3⟩, f0, f1, f2, f3⟩ := cells4 HG
    go_wp2_with fail
    (try simp only [Exit.inBlock, Exit.then])
    refine bodyPost_ret (v := .tuple #[zeroTok, .int .i64 (0 : Nat)]) ?_ rfl ⟨_, _, rfl, .inl ⟨rfl, rfl, rfl⟩, ?_⟩
    · rw [results_cell_tmp rfl]
      go_simp
      try rfl
    · exact set4 ((Below.new1 _).trans (B3.mono (by simp))) (Nat.le_refl _) _ _ _ _
theorem class_l (a : Option Addr) (len cap : Nat) (l : List Int) (w : World) (h : Bs w a len cap l) (hl : len ≤ 100000) (hp : 1 ≤ len) (h0 : l.getD 0 0 = 91) :
    Calls Tryz.prog 77 #[.slice a len cap] w fun e w' => ∃ v n, e = .returned (.tuple #[v, .int .i64 (n : Nat)]) ∧ TokO w' v n (tokL l) ∧ Below w.heap.size w w' := by
  by_cases c : l.getD 1 0 = 94
  · have hk : hatN l = 1 := by unfold hatN; rw [if_pos c]
    have h2 : 2 ≤ len := by
      apply Classical.byContradiction
      intro cc
      have e : l.getD 1 0 = 0 := by simp [List.getD, List.getElem?_eq_none (show l.length ≤ 1 by have := h.hlen; omega)]
      omega
    exact class_1 a len cap l w h hl h2 h0 hk
  · exact class_0 a len cap l w h hl hp h0 (by unfold hatN; rw [if_neg c])
end Go.Proofs.YtfcfcgeodghmpaaGreatDoor.T

namespace Go.Proofs.YtfcfcgeodghmpaaGreatDoor.T
open Go.RowKit
set_option linter.unusedVariables false
set_option linter.unusedSimpArgs false

def piecesF : Nat → List Int → List Int × Nat
  | 0, _ => ([], 0)
  | f + 1, r => match pieceP r with
    | none => ([], 0)
    | some (x, n) => (x :: (piecesF f (r.drop n)).1, n + (piecesF f (r.drop n)).2)
theorem pieceP_nil : pieceP [] = none := by decide
theorem pieceP_good {r : List Int} {x : Int} {n : Nat} (hb : U.isBytes r) (h : pieceP r = some (x, n)) : (1 ≤ n ∧ n ≤ r.length) ∧ 0 ≤ x ∧ x ≤ 255 := by
  unfold pieceP at h
  split at h
  · cases h
  · exact ⟨piece_good r x n hb h, piece_byte h⟩
theorem piecesF_nil : ∀ f, piecesF f [] = ([], 0) := by
  intro f
  cases f with
  | zero => rfl
  | succ f => simp only [piecesF, pieceP_nil]
theorem pieces_fuel : ∀ (f g : Nat) (r : List Int), U.isBytes r → r.length ≤ f → r.length ≤ g → piecesF f r = piecesF g r := by
  intro f
  induction f with
  | zero =>
    intro g r hb h1 h2
    have : r = [] := List.eq_nil_of_length_eq_zero (by omega)
    subst this
    rw [piecesF_nil, piecesF_nil]
  | succ f ih =>
    intro g r hb h1 h2
    cases g with
    | zero =>
      have : r = [] := List.eq_nil_of_length_eq_zero (by omega)
      subst this
      rw [piecesF_nil, piecesF_nil]
    | succ g =>
      simp only [piecesF]
      cases e : pieceP r with
      | none => rfl
      | some p =>
        obtain ⟨x, n⟩ := p
        have := pieceP_good hb e
        simp only
        rw [ih g (r.drop n) (U.isBytes_drop hb n) (by rw [List.length_drop]; omega) (by rw [List.length_drop]; omega)]
def piecesG (r : List Int) : List Int × Nat := piecesF r.length r
theorem pieces_no {r : List Int} (h : pieceP r = none) : piecesG r = ([], 0) := by
  unfold piecesG
  cases e : r.length with
  | zero => rfl
  | succ f => simp only [piecesF, h]
theorem pieces_yes {r : List Int} (hb : U.isBytes r) {x : Int} {n : Nat} (h : pieceP r = some (x, n)) : piecesG r = (x :: (piecesG (r.drop n)).1, n + (piecesG (r.drop n)).2) := by
  have hn := pieceP_good hb h
  unfold piecesG
  obtain ⟨k, hk⟩ : ∃ k, r.length = k + 1 := ⟨r.length - 1, by omega⟩
  rw [hk]
  simp only [piecesF, h]
  rw [pieces_fuel k (r.drop n).length (r.drop n) (U.isBytes_drop hb n) (by rw [List.length_drop]; omega) (Nat.le_refl _)]
theorem pieces_gather : ∀ (f : Nat) (r : List Int), U.isBytes r → r.length ≤ f →
    gatherL pieceL 34 r = if (r.drop (piecesG r).2).getD 0 0 = 34 then some ((piecesG r).1, (piecesG r).2 + 1) else none := by
  intro f
  induction f with
  | zero =>
    intro r hb h
    have : r = [] := List.eq_nil_of_length_eq_zero (by omega)
    subst this
    rw [pieces_no pieceP_nil, gather_nil, if_neg (by simp [List.getD])]
  | succ f ih =>
    intro r hb h
    by_cases hr : r = []
    · subst hr
      rw [pieces_no pieceP_nil, gather_nil, if_neg (by simp [List.getD])]
    · by_cases hst : r.getD 0 0 = 34
      · rw [pieces_no (by unfold pieceP; rw [if_pos hst]), gather_stop hr hst, List.drop_zero, if_pos hst]
      · have epl : pieceP r = pieceL r := by unfold pieceP; rw [if_neg hst]
        cases e : pieceL r with
        | none => rw [gather_bad hr hst e, pieces_no (epl.trans e), List.drop_zero, if_neg hst]
        | some p =>
          obtain ⟨x, n⟩ := p
          have hn := piece_good r x n hb e
          rw [gather_step piece_good hb hr hst e, ih (r.drop n) (U.isBytes_drop hb n) (by rw [List.length_drop]; omega), pieces_yes hb (epl.trans e), List.drop_drop]
          by_cases cc : (List.drop (n + (piecesG (r.drop n)).2) r).getD 0 0 = 34
          · rw [if_pos cc, if_pos cc]
            simp only [Option.some.injEq, Prod.mk.injEq, true_and]
            omega
          · rw [if_neg cc, if_neg cc]
theorem tok_lits {l : List Int} (hb : U.isBytes l) (h : l.getD 0 0 = 34) : tokL l = if (piecesG (l.drop 1)).1 ≠ [] ∧ (l.drop (1 + (piecesG (l.drop 1)).2)).getD 0 0 = 34 then some ((1, (piecesG (l.drop 1)).1, []), (piecesG (l.drop 1)).2 + 2) else none := by
  unfold tokL
  rw [h, if_neg (by decide), if_neg (by omega), if_neg (by decide), if_pos rfl, pieces_gather _ _ (U.isBytes_drop hb 1) (Nat.le_refl _), List.drop_drop]
  by_cases c : (List.drop (1 + (piecesG (l.drop 1)).2) l).getD 0 0 = 34
  · rw [if_pos c]
    simp only
    by_cases c2 : (piecesG (l.drop 1)).1 = []
    · rw [if_pos c2, if_neg (fun x => x.1 c2)]
    · rw [if_neg c2, if_pos ⟨c2, c⟩]
  · rw [if_neg c, if_neg (fun x => c x.2)]
theorem st_quote : St ⟨#[34]⟩ [34] := ⟨rfl, by intro z hz; simp at hz; omega⟩
set_option maxRecDepth 20000 in
set_option maxHeartbeats 4000000 in
theorem lit_l (a : Option Addr) (len cap : Nat) (l : List Int) (w : World) (h : Bs w a len cap l) (hl : len ≤ 100000) (hp : 1 ≤ len) (h0 : l.getD 0 0 = 34) :
    Calls Tryz.prog 76 #[.slice a len cap] w fun e w' => ∃ v n, e = .returned (.tuple #[v, .int .i64 (n : Nat)]) ∧ TokO w' v n (tokL l) ∧ Below w.heap.size w w' := by
  rw [tok_lits h.hbytes h0]
  generalize hO : (if (piecesG (l.drop 1)).1 ≠ [] ∧ (l.drop (1 + (piecesG (l.drop 1)).2)).getD 0 0 = 34 then some (((1, (piecesG (l.drop 1)).1, []) : Tk), (piecesG (l.drop 1)).2 + 2) else none) = O
  have HQ := hideR hO
  clear hO
  have hlen := h.hlen
  have hcap := h.hcap
  have HBB := hideR h.hbytes
  have HB := hideR (Bs.later h (Below.new1 zTok) (Nat.le_refl _))
  obtain ⟨ti, hi0, hz0, hz1, hz2⟩ := info_parts info_byte
  clear h h0
  unfold zTok at HB
  have hw0 : (w.alloc (.cells #[.int .i64 0, .string ⟨#[]⟩, .slice none 0 0, .int .i64 0] 102)).heap.size = w.heap.size + 1 := by simp
  go_enter Tryz.func76, Tryz.ntmps76
  go_wp2_with fail
  generalize hW : w.alloc (.cells #[.int .i64 0, .string ⟨#[]⟩, .slice none 0 0, .int .i64 0] 102) = W0 at *
  go_loopw [4, 5] (fun v j wr => ∃ (k : Nat) (acc : List Int), 1 ≤ k ∧ k ≤ len ∧ acc.length ≤ k ∧ j = .int .i64 (k : Int) ∧ U.isBytes acc ∧ Hid (piecesG (l.drop 1) = (acc ++ (piecesG (l.drop k)).1, (k - 1) + (piecesG (l.drop k)).2)) ∧ wr.ownsRow W0.heap.size 5 1 v acc.length (acc.map (Value.int .u8)) ∧ Below W0.heap.size W0 wr) (fun _ j _ => len - (intOf j).toNat)
  case atStart => exact ⟨1, [], Nat.le_refl _, hp, by simp, rfl, (fun z hz => by cases hz), by show _ = _; simp, World.ownsRow_nil _ _ _ _, Below.refl _ _⟩
  case round =>
    obtain ⟨k, acc, hk1, hk, hok, rfl, hby, hg, hown, hb⟩ := hrel
    have hB := Bs.later (unhideR HB) hb (Nat.le_refl _)
    have sl := tail_run a len cap k k rfl hk
    have CP := hideR (piece_l _ _ _ _ wr (Bs.dropA hB k hk) (by omega))
    have HO := hideR hown
    have HBW := hideR hB
    have hws := hb.size
    cases e1 : pieceP (l.drop k) with
    | none =>
      have HG : Hid (piecesG (l.drop 1) = (acc, k - 1)) := by
        show _ = _
        rw [hg.out, pieces_no e1]
        simp
      rw [e1] at CP
      replace CP : Hid (Calls Tryz.prog 119 #[.slice (dropA a cap k) (len - k) (cap - k)] wr fun e w' => e = .returned (.tuple #[.int .u8 0, .int .i64 0]) ∧ Below wr.heap.size wr w') := CP
      clear e1 hg HB hB hown HBB
      have HQ2 : Hid ((if acc ≠ [] ∧ (l.drop k).getD 0 0 = 34 then some (((1, acc, []) : Tk), k - 1 + 2) else none) = O) := by
        have := unhideR HQ
        rw [unhideR HG] at this
        simp only at this
        rw [show 1 + (k - 1) = k by omega] at this
        exact this
      clear HQ
      by_cases ca : acc = []
      · subst ca
        have eO : O = none := by rw [← unhideR HQ2, if_neg (fun x => x.1 rfl)]
        have EO := hideR eO
        clear HQ2 eO
        obtain ⟨p4, c4, e4, -⟩ := Bs.ofOwn hby (unhideR HO)
        simp only [List.length_nil] at e4
        clear HO
        subst e4
        go_wp2_with fail
        refine (unhideR CP).mono ?_
        rintro e w1 ⟨rfl, b1⟩
        clear CP
        have B3 := hb.trans (b1.mono hws)
        have HG2 : w1.heap[w.heap.size]? = some (.cells #[.int .i64 0, .string ⟨#[]⟩, .slice none 0 0, .int .i64 0] 102) := by rw [← hW] at B3; exact kept_new B3
        have B4 : Below w.heap.size w w1 := by rw [← hW] at B3; exact (Below.new1 _).trans (B3.mono (by simp))
        obtain ⟨⟨q0, q1, q2, q3⟩, f0, f1, f2, f3⟩ := cells4 HG2
        go_wp2_with fail
        (try simp only [Exit.inBlock, Exit.then])
        refine bodyPost_ret (v := .tuple #[zeroTok, .int .i64 (0 : Nat)]) ?_ rfl ⟨_, _, rfl, .inl ⟨unhideR EO, rfl, rfl⟩, ?_⟩
        · rw [results_cell_tmp rfl]
          go_simp
          try rfl
        · exact set4 B4 (Nat.le_refl _) _ _ _ _
      · have hal : 1 ≤ acc.length := by cases acc <;> simp_all
        have tl : ((acc.length : Int) == 0) = false := beq_eq_false_iff_ne.2 (by omega)
        have t2 := wrapI ((k : Int) + 1) (by omega)
        have CB := hideR (fun W (hB : Bs W a len cap l) => begins_l _ _ _ _ W (Bs.dropA hB k hk) ⟨#[34]⟩ [34] st_quote (by simp))
        rw [pre1_eq (by omega)] at CB
        obtain ⟨p4, c4, e4, -⟩ := Bs.ofOwn hby (unhideR HO)
        subst e4
        by_cases cq : (l.drop k).getD 0 0 = 34
        · have eO : O = some ((1, acc, []), k - 1 + 2) := by rw [← unhideR HQ2, if_pos ⟨ca, cq⟩]
          have EO := hideR eO
          clear HQ2 eO
          rw [decide_eq_true cq] at CB
          clear cq ca
          go_wp2_with fail
          refine (unhideR CP).mono ?_
          rintro e w1 ⟨rfl, b1⟩
          have HB1 := hideR (Bs.later (unhideR HBW) b1 (Nat.le_refl _))
          have HO1 := hideR (ownL b1 (unhideR HO))
          clear CP HO HBW
          go_wp2_with fail
          refine (unhideR CB _ (unhideR HB1)).mono ?_
          rintro e w2 ⟨rfl, b2⟩
          have ho2 := ownL b2 (unhideR HO1)
          clear CB HO1 HB1
          have B3 := (hb.trans (b1.mono hws)).trans (b2.mono (by have := b1.size; omega))
          have HG2 : w2.heap[w.heap.size]? = some (.cells #[.int .i64 0, .string ⟨#[]⟩, .slice none 0 0, .int .i64 0] 102) := by rw [← hW] at B3; exact kept_new B3
          have B4 : Below w.heap.size w w2 := by rw [← hW] at B3; exact (Below.new1 _).trans (B3.mono (by simp))
          obtain ⟨⟨q0, q1, q2, q3⟩, f0, f1, f2, f3⟩ := cells4 HG2
          obtain ⟨p5, c5, e5, bs5⟩ := Bs.ofOwn hby ho2
          injection e5 with e6 e7 e8
          subst e6 e8
          have cv := bs5.str
          have HT := hideR (fun (W : World) => TokV.plain W 1 acc 0)
          clear ho2 bs5 hby
          generalize strOfNums acc = S at *
          go_wp2_with fail
          (try simp only [Exit.inBlock, Exit.then])
          refine bodyPost_ret (v := .tuple #[.agg #[.int .i64 1, .string S, .slice none 0 0, .int .i64 0], .int .i64 ((k - 1 + 2 : Nat) : Int)]) ?_ rfl ⟨_, _, rfl, .inr ⟨_, unhideR EO, unhideR HT _⟩, ?_⟩
          · rw [results_cell_tmp rfl]
            go_simp
            omega
          · exact set4 B4 (Nat.le_refl _) _ _ _ _
        · have eO : O = none := by rw [← unhideR HQ2, if_neg (fun x => cq x.2)]
          have EO := hideR eO
          clear HQ2 eO
          rw [decide_eq_false cq] at CB
          clear cq ca
          go_wp2_with fail
          refine (unhideR CP).mono ?_
          rintro e w1 ⟨rfl, b1⟩
          have HB1 := hideR (Bs.later (unhideR HBW) b1 (Nat.le_refl _))
          clear CP HO HBW
          go_wp2_with fail
          refine (unhideR CB _ (unhideR HB1)).mono ?_
          rintro e w2 ⟨rfl, b2⟩
          clear CB HB1
          have B3 := (hb.trans (b1.mono hws)).trans (b2.mono (by have := b1.size; omega))
          have HG2 : w2.heap[w.heap.size]? = some (.cells #[.int .i64 0, .string ⟨#[]⟩, .slice none 0 0, .int .i64 0] 102) := by rw [← hW] at B3; exact kept_new B3
          have B4 : Below w.heap.size w w2 := by rw [← hW] at B3; exact (Below.new1 _).trans (B3.mono (by simp))
          obtain ⟨⟨q0, q1, q2, q3⟩, f0, f1, f2, f3⟩ := cells4 HG2
          go_wp2_with fail
          (try simp only [Exit.inBlock, Exit.then])
          refine bodyPost_ret (v := .tuple #[zeroTok, .int .i64 (0 : Nat)]) ?_ rfl ⟨_, _, rfl, .inl ⟨unhideR EO, rfl, rfl⟩, ?_⟩
          · rw [results_cell_tmp rfl]
            go_simp
            try rfl
          · exact set4 B4 (Nat.le_refl _) _ _ _ _
    | some p =>
      obtain ⟨z, n⟩ := p
      have gd := pieceP_good (U.isBytes_drop (unhideR HBB) k) e1
      rw [List.length_drop] at gd
      have HG : Hid (piecesG (l.drop 1) = ((acc ++ [z]) ++ (piecesG (l.drop (k + n))).1, (k + n - 1) + (piecesG (l.drop (k + n))).2)) := by
        show _ = _
        rw [hg.out, pieces_yes (U.isBytes_drop (unhideR HBB) k) e1, List.drop_drop]
        simp only [List.append_assoc, List.singleton_append, Prod.mk.injEq, true_and]
        omega
      have hby2 : U.isBytes (acc ++ [z]) := fun y hy => by
        rcases List.mem_append.1 hy with h | h
        · exact hby y h
        · simp at h; subst h; omega
      rw [e1] at CP
      replace CP : Hid (Calls Tryz.prog 119 #[.slice (dropA a cap k) (len - k) (cap - k)] wr fun e w' => e = .returned (.tuple #[.int .u8 z, .int .i64 (n : Int)]) ∧ Below wr.heap.size wr w') := CP
      have t0 : ((n : Int) == 0) = false := beq_eq_false_iff_ne.2 (by omega)
      clear e1 hg HB hB hown HBB HBW hby
      go_wp2_with fail
      refine (unhideR CP).mono ?_
      rintro e w1 ⟨rfl, b1⟩
      have own1 := ownL b1 (unhideR HO)
      have hb1 := hb.trans (b1.mono hws)
      have hs1 := hb1.size
      clear CP HO
      go_wp2_with (at_builtin; refine wpList_append_lies _ rfl _ _ 54 rfl W0.heap.size 5 ti _ 1 1 Tryz.underlying54 hi0 hz0 hz1 hz2 rfl (by omega) _ _ _ rfl (own1.alloc _) ⟨w1.heap.size, 0, none⟩ 1 1 [.int .u8 z] rfl rfl (new_byte _ _ _ rfl) (by simp [Value.oneCell']) (by omega) (by unfold maxLen; omega) (by omega) (by simp; omega) (w1.heap.size + 1) (by simp) ?_; intro gg cap1 w2 hown1 hgrow hat hlt1)
      go_roundw
      case rel => exact ⟨k + n, acc ++ [z], by omega, by omega, by simp; omega, by go_num, hby2, HG, by rw [u8_snoc, List.length_append]; exact hown1, grow_b (own1.alloc _) (hb1.alloc hs1 _) (by simp; omega) hgrow⟩
      case measure => simp [intOf]; omega
end Go.Proofs.YtfcfcgeodghmpaaGreatDoor.T

namespace Go.Proofs.YtfcfcgeodghmpaaGreatDoor.T
open Go.RowKit
set_option linter.unusedVariables false
set_option linter.unusedSimpArgs false

def Mp (w : World) (b : Nat) (f : Int → Option Nat) : Prop :=
  ∃ es clock, w.heap[b]? = some (.map es clock) ∧ ∀ c : Int, (f c = none ∧ Instr.findNow (.int .u8) (.int .u8 c) es.toList 0 = some none) ∨ ∃ g i, f c = some g ∧ Instr.findNow (.int .u8) (.int .u8 c) es.toList 0 = some (some (i, .func (.func g) #[] #[]))
theorem find_app (kind : TypeDesc) (k : Value) : ∀ (es : List MapEntry) (e : MapEntry) (n : Nat), Instr.findNow kind k (es ++ [e]) n = match Instr.findNow kind k es n with
    | some none => Instr.findNow kind k [e] (n + es.length)
    | r => r := by
  intro es
  induction es with
  | nil => intro e n; simp [Instr.findNow]
  | cons x t ih =>
    intro e n
    rw [List.cons_append]
    unfold Instr.findNow
    cases h : Instr.sameNow kind k x.key with
    | none => rfl
    | some b =>
      cases b with
      | true => rfl
      | false =>
        simp only
        rw [ih]
        cases h2 : Instr.findNow kind k t (n + 1) with
        | none => rfl
        | some r =>
          cases r with
          | none =>
            simp only [List.length_cons]
            rw [show n + 1 + t.length = n + (t.length + 1) by omega]
            unfold Instr.findNow
            rfl
          | some q => rfl
theorem Mp.new (w : World) : Mp (w.alloc (.map #[] 0)) w.heap.size (fun _ => none) := ⟨#[], 0, heap_alloc_new w _, fun c => .inl ⟨rfl, rfl⟩⟩
def upd (f : Int → Option Nat) (c : Int) (g : Nat) : Int → Option Nat := fun x => if x = c then some g else f x
theorem Mp.keep {w w' : World} {b : Nat} {f : Int → Option Nat} (h : Mp w b f) (e : w'.heap[b]? = w.heap[b]?) : Mp w' b f := by
  obtain ⟨es, clock, hb, hf⟩ := h
  exact ⟨es, clock, e.trans hb, hf⟩
theorem Mp.later {w w' : World} {b : Nat} {f : Int → Option Nat} (h : Mp w b f) (hb : Below w.heap.size w w') : Mp w' b f := by
  obtain ⟨es, clock, h1, hf⟩ := h
  exact ⟨es, clock, (hb.block b (Array.getElem?_eq_some_iff.1 h1).1).trans h1, hf⟩
theorem Mp.lt {w : World} {b : Nat} {f : Int → Option Nat} (h : Mp w b f) : b < w.heap.size := by
  obtain ⟨es, clock, h1, hf⟩ := h
  exact (Array.getElem?_eq_some_iff.1 h1).1
theorem ck_byte (e : Bool) (c : Int) (W : World) : (Instr.checkKey e 10000 5 (.int .u8 c)).run Tryz.prog W = .ok () W := by
  show (Instr.checkKey e (9999 + 1) 5 (.int .u8 c)).run Tryz.prog W = .ok () W
  rw [Instr.checkKey]
  simp [run_underlying Tryz.underlying5]
theorem Mp.put {w : World} {b : Nat} {f : Int → Option Nat} (h : Mp w b f) (c : Int) (g : Nat) (hc : f c = none) :
    ∃ w', (Instr.mapUpdate 98 (.map (some b)) (.int .u8 c) (.func (.func g) #[] #[])).run Tryz.prog w = .ok () w' ∧ Mp w' b (upd f c g) ∧ w'.heap.size = w.heap.size ∧ (∀ k, k ≠ b → w'.heap[k]? = w.heap[k]?) ∧ w'.os = w.os ∧ w'.tape = w.tape ∧ w'.output = w.output := by
  obtain ⟨es, clock, hb, hf⟩ := h
  have hlt := (Array.getElem?_eq_some_iff.1 hb).1
  have hnow : Instr.findNow (.int .u8) (.int .u8 c) es.toList 0 = some none := by
    rcases hf c with ⟨_, h⟩ | ⟨g', i, h, _⟩
    · exact h
    · rw [hc] at h; cases h
  refine ⟨{ w with heap := w.heap.setIfInBounds b (.map (es.push { key := .int .u8 c, val := .func (.func g) #[] #[], born := clock }) (clock + 1)) }, ?_, ?_, by simp, fun k hk => by simp [Array.getElem?_setIfInBounds, Ne.symm hk], rfl, rfl, rfl⟩
  · simp [Instr.mapUpdate, run_underlying Tryz.underlying98, getObj, setObj, hb, ck_byte, run_underlying Tryz.underlying5, Instr.findKey, hnow, Sem.run]
  · refine ⟨es.push { key := .int .u8 c, val := .func (.func g) #[] #[], born := clock }, clock + 1, by simp [Array.getElem?_setIfInBounds, hlt], fun x => ?_⟩
    rw [Array.toList_push, find_app]
    unfold upd
    by_cases e : x = c
    · subst e
      rw [hnow, if_pos rfl]
      exact .inr ⟨g, _, rfl, by simp [Instr.findNow, Instr.sameNow]; rfl⟩
    · rw [if_neg e]
      rcases hf x with ⟨h1, h2⟩ | ⟨g', i, h1, h2⟩
      · refine .inl ⟨h1, ?_⟩
        rw [h2]
        have : (x == c) = false := beq_eq_false_iff_ne.2 e
        simp [Instr.findNow, Instr.sameNow, this]
      · exact .inr ⟨g', i, h1, by rw [h2]⟩
theorem Mp.get {w : World} {b : Nat} {f : Int → Option Nat} (h : Mp w b f) (c : Int) :
    (Instr.lookup 98 (.map (some b)) (.int .u8 c) true).run Tryz.prog w = .ok (.tuple #[match f c with | none => .nilFunc | some g => .func (.func g) #[] #[], .bool (f c).isSome]) w := by
  obtain ⟨es, clock, hb, hf⟩ := h
  have hz : (zeroValue 130).run Tryz.prog w = .ok .nilFunc w := by kernel_rfl
  rcases hf c with ⟨h1, h2⟩ | ⟨g, i, h1, h2⟩
  · simp [Instr.lookup, run_underlying Tryz.underlying98, getObj, hb, ck_byte, run_underlying Tryz.underlying5, Instr.findKey, h2, h1, hz, Sem.run]
  · simp [Instr.lookup, run_underlying Tryz.underlying98, getObj, hb, ck_byte, run_underlying Tryz.underlying5, Instr.findKey, h2, h1, Sem.run]
end Go.Proofs.YtfcfcgeodghmpaaGreatDoor.T

/- Contracts of package token: readers, and the token that a tail begins by. -/
namespace Go.Proofs.YtfcfcgeodghmpaaGreatDoor.T
open Go.RowKit
set_option linter.unusedVariables false
set_option linter.unusedSimpArgs false

def f4 : Int → Option Nat := upd (upd (upd (upd (fun _ => none) 64 75) 34 76) 91 77) 60 78
def fL (k : Nat) : Int → Option Nat := fun c => if 97 ≤ c ∧ c < 97 + (k : Int) then some 79 else f4 c
def fS (p : Nat) : Int → Option Nat := fun c => if c ∈ signs.take p then some 80 else fL 26 c
theorem fL_zero : fL 0 = f4 := by
  funext c
  unfold fL
  rw [if_neg (by omega)]
theorem fL_step (k : Nat) : upd (fL k) (97 + (k : Int)) 79 = fL (k + 1) := by
  funext c
  unfold upd fL
  by_cases h : c = 97 + (k : Int)
  · rw [if_pos h, if_pos (by omega)]
  · rw [if_neg h]
    by_cases h2 : 97 ≤ c ∧ c < 97 + (k : Int)
    · rw [if_pos h2, if_pos (by omega)]
    · rw [if_neg h2, if_neg (by omega)]
theorem fL_new (k : Nat) (hk : k < 26) : fL k (97 + (k : Int)) = none := by
  unfold fL f4 upd
  rw [if_neg (by omega), if_neg (by omega), if_neg (by omega), if_neg (by omega), if_neg (by omega)]
theorem fS_zero : fS 0 = fL 26 := by
  funext c
  unfold fS
  rw [if_neg (by simp)]
theorem fS_step (p : Nat) (hp : p < 10) : upd (fS p) (signs.getD p 0) 80 = fS (p + 1) := by
  funext c
  have e : signs.take (p + 1) = signs.take p ++ [signs.getD p 0] := by
    have : ∀ q : Fin 10, signs.take (q.val + 1) = signs.take q.val ++ [signs.getD q.val 0] := by decide
    exact this ⟨p, hp⟩
  unfold upd fS
  rw [e]
  by_cases h : c = signs.getD p 0
  · rw [if_pos h, if_pos (by rw [h]; simp)]
  · rw [if_neg h]
    by_cases h2 : c ∈ signs.take p
    · rw [if_pos h2, if_pos (List.mem_append_left _ h2)]
    · rw [if_neg h2, if_neg (by intro x; rcases List.mem_append.1 x with x | x; exact h2 x; exact h (by simpa using x))]
theorem fS_new (p : Nat) (hp : p < 10) : fS p (signs.getD p 0) = none := by
  have : ∀ q : Fin 10, fS q.val (signs.getD q.val 0) = none := by decide
  exact this ⟨p, hp⟩
theorem next_sign {p : Nat} (h : p < 10) (W : World) (k : Nat) (hk : W.heap[k]? = some (.stringIter ⟨#[61, 124, 59, 40, 41, 42, 43, 63, 47, 37]⟩ p)) :
    ∀ ty, (Instr.next (.pointer (some ⟨k, 0, none⟩)) true ty).run Tryz.prog W = .ok (.tuple #[.bool true, .int .i64 (p : Int), .int .i32 (signs.getD p 0)]) (W.iterAt k ⟨#[61, 124, 59, 40, 41, 42, 43, 63, 47, 37]⟩ (p + 1)) := by
  intro ty
  have key : ∀ n : Fin 10, (((⟨#[61, 124, 59, 40, 41, 42, 43, 63, 47, 37]⟩ : ByteArray)[n.val]'(by have := n.isLt; exact this)).toNat < 128) := by decide
  have val : ∀ n : Fin 10, ((((⟨#[61, 124, 59, 40, 41, 42, 43, 63, 47, 37]⟩ : ByteArray)[n.val]'(by have := n.isLt; exact this)).toNat : Int) = signs.getD n.val 0) := by decide
  have hk1 : ((⟨#[61, 124, 59, 40, 41, 42, 43, 63, 47, 37]⟩ : ByteArray)[p]'h).toNat < 128 := key ⟨p, h⟩
  have hk2 : (((⟨#[61, 124, 59, 40, 41, 42, 43, 63, 47, 37]⟩ : ByteArray)[p]'h).toNat : Int) = signs.getD p 0 := val ⟨p, h⟩
  rw [Lib.run_next_ascii_at W k _ p ty hk h hk1, hk2]
theorem sign_byte (p : Nat) (hp : p < 10) : IntKind.u8.wrap (signs.getD p 0) = signs.getD p 0 := by
  have : ∀ q : Fin 10, IntKind.u8.wrap (signs.getD q.val 0) = signs.getD q.val 0 := by decide
  exact this ⟨p, hp⟩
theorem iterAt_below {B : Nat} {w W : World} (h : Below B w W) {k : Nat} (hk : B ≤ k) (s : ByteArray) (p : Nat) : Below B w (W.iterAt k s p) := Lib.below_iterAt h hk s p
theorem iterAt_other (W : World) (k b : Nat) (h : b ≠ k) (s : ByteArray) (p : Nat) : (W.iterAt k s p).heap[b]? = W.heap[b]? := by
  unfold World.iterAt
  simp [Array.getElem?_setIfInBounds, Ne.symm h]
theorem put_below {B : Nat} {w W W' : World} (h : Below B w W) {b : Nat} (hb : B ≤ b) (s : W'.heap.size = W.heap.size) (o : ∀ k, k ≠ b → W'.heap[k]? = W.heap[k]?) (x1 : W'.os = W.os) (x2 : W'.tape = W.tape) (x3 : W'.output = W.output) : Below B w W' :=
  ⟨x1.trans h.os, x2.trans h.tape, x3.trans h.output, by rw [s]; exact h.size, fun k hk => (o k (by omega)).trans (h.block k hk)⟩
set_option maxRecDepth 20000 in
set_option maxHeartbeats 4000000 in
theorem readers_l (w : World) :
    Calls Tryz.prog 40 #[] w fun e w' => ∃ b, e = .returned (.map (some b)) ∧ Mp w' b (fS 10) ∧ Below w.heap.size w w' := by
  have hmm := @run_makeMap Tryz.prog
  obtain ⟨W1, r1, m1, s1, o1, x11, x12, x13⟩ := (Mp.new w).put 64 75 rfl
  obtain ⟨W2, r2, m2, s2, o2, x21, x22, x23⟩ := m1.put 34 76 rfl
  obtain ⟨W3, r3, m3, s3, o3, x31, x32, x33⟩ := m2.put 91 77 rfl
  obtain ⟨W4, r4, m4, s4, o4, x41, x42, x43⟩ := m3.put 60 78 rfl
  have B0 : Below w.heap.size w (w.alloc (.map #[] 0)) := Below.new1 _
  have B1 := put_below B0 (Nat.le_refl _) s1 o1 x11 x12 x13
  have B2 := put_below B1 (Nat.le_refl _) s2 o2 x21 x22 x23
  have B3 := put_below B2 (Nat.le_refl _) s3 o3 x31 x32 x33
  have B4 := hideR (put_below B3 (Nat.le_refl _) s4 o4 x41 x42 x43)
  have M4 : Hid (Mp W4 w.heap.size (fL 0)) := by rw [fL_zero]; exact m4
  clear m1 m2 m3 m4 s1 s2 s3 s4 o1 o2 o3 o4 x11 x12 x13 x21 x22 x23 x31 x32 x33 x41 x42 x43 B0 B1 B2 B3
  go_enter Tryz.func40, Tryz.ntmps40
  go_wp2_with fail
  clear r1 r2 r3 r4 hmm
  go_loopw [2] (fun u wr => ∃ k : Nat, k ≤ 26 ∧ u = .int .u8 (97 + (k : Int)) ∧ Hid (Mp wr w.heap.size (fL k)) ∧ Hid (Below w.heap.size w wr)) (fun u _ => 123 - (intOf u).toNat)
  case atStart => exact ⟨0, by omega, rfl, M4, B4⟩
  case round =>
    obtain ⟨k, hk, rfl, hm, hb⟩ := hrel
    clear M4 B4
    by_cases hlt : k < 26
    · have c1 : 97 + (k : Int) ≤ 122 := by omega
      obtain ⟨W', r, m, s, o, x1, x2, x3⟩ := (unhideR hm).put (97 + (k : Int)) 79 (fL_new k hlt)
      rw [fL_step] at m
      have M := hideR m
      have B := hideR (put_below (unhideR hb) (Nat.le_refl _) s o x1 x2 x3)
      clear m s o x1 x2 x3 hm hb
      go_wp2_with fail
      go_roundw
      case rel => exact ⟨k + 1, by omega, by go_num, M, B⟩
      case measure => simp [intOf]; omega
    · obtain rfl : k = 26 := by omega
      have c1 : ¬ 97 + ((26 : Nat) : Int) ≤ 122 := by omega
      have hlt2 := (unhideR hm).lt
      have hws := (unhideR hb).size
      have M0 : Hid (Mp (wr.iter ⟨#[61, 124, 59, 40, 41, 42, 43, 63, 47, 37]⟩ 0) w.heap.size (fS 0)) := by
        rw [fS_zero]
        exact Mp.later (unhideR hm) (iter_below _ _ _)
      have B0 : Hid (Below w.heap.size w (wr.iter ⟨#[61, 124, 59, 40, 41, 42, 43, 63, 47, 37]⟩ 0)) := (unhideR hb).trans ((iter_below _ _ _).mono hws)
      have I0 : Hid ((wr.iter ⟨#[61, 124, 59, 40, 41, 42, 43, 63, 47, 37]⟩ 0).heap[wr.heap.size]? = some (.stringIter ⟨#[61, 124, 59, 40, 41, 42, 43, 63, 47, 37]⟩ 0)) := World.iter_heap _ _ _
      clear hm hb
      go_wp2_with fail
      generalize hit : wr.heap.size = it at *
      generalize hwi : wr.iter ⟨#[61, 124, 59, 40, 41, 42, 43, 63, 47, 37]⟩ 0 = Wi at *
      clear hwi
      go_loopw [] (fun wx => ∃ p : Nat, p ≤ 10 ∧ Hid (wx.heap[it]? = some (.stringIter ⟨#[61, 124, 59, 40, 41, 42, 43, 63, 47, 37]⟩ p)) ∧ Hid (Mp wx w.heap.size (fS p)) ∧ Hid (Below w.heap.size w wx)) (fun wx => 10 - wx.iterPos it)
      case atStart => exact ⟨0, by omega, I0, M0, B0⟩
      case round =>
        obtain ⟨p, hp, hi, hm, hb⟩ := hrel
        clear I0 M0 B0
        by_cases hlt3 : p < 10
        · have hne : w.heap.size ≠ it := by omega
          have hn := next_sign hlt3 wr it (unhideR hi)
          have I1 := Lib.iterAt_heap wr it ⟨#[61, 124, 59, 40, 41, 42, 43, 63, 47, 37]⟩ p (p + 1) (unhideR hi)
          have m1 := Mp.keep (unhideR hm) (iterAt_other wr it w.heap.size hne ⟨#[61, 124, 59, 40, 41, 42, 43, 63, 47, 37]⟩ (p + 1))
          have b1 := iterAt_below (unhideR hb) (k := it) (by omega) ⟨#[61, 124, 59, 40, 41, 42, 43, 63, 47, 37]⟩ (p + 1)
          have q0 := iterPos_of (unhideR hi)
          obtain ⟨W', r, m, s, o, x1, x2, x3⟩ := m1.put (signs.getD p 0) 80 (fS_new p hlt3)
          rw [fS_step p hlt3] at m
          have M := hideR m
          have I2 : W'.heap[it]? = some (.stringIter ⟨#[61, 124, 59, 40, 41, 42, 43, 63, 47, 37]⟩ (p + 1)) := (o it (Ne.symm hne)).trans I1
          have q1 := iterPos_of I2
          have I := hideR I2
          have B := hideR (put_below b1 (Nat.le_refl _) s o x1 x2 x3)
          have t1 := sign_byte p hlt3
          clear m s o x1 x2 x3 hm hb m1 b1 hi I1 I2
          generalize wr.iterAt it ⟨#[61, 124, 59, 40, 41, 42, 43, 63, 47, 37]⟩ (p + 1) = V at *
          generalize signs.getD p 0 = z at *
          go_wp2_with fail
          go_roundw
          case rel => exact ⟨p + 1, by omega, I, M, B⟩
          case measure => rw [q0, q1]; omega
        · obtain rfl : p = 10 := by omega
          have hn := fun ty => Lib.run_next_end_at (P := Tryz.prog) wr it ⟨#[61, 124, 59, 40, 41, 42, 43, 63, 47, 37]⟩ 10 ty (unhideR hi) (by decide)
          clear hi
          go_wp2_with fail
          go_ret
          exact ⟨_, rfl, unhideR hm, unhideR hb⟩

/-! ### The token that a tail begins by -/
theorem fS_let {c : Int} (h : isLet c = true) : fS 10 c = some 79 := by
  have hc : 97 ≤ c ∧ c ≤ 122 := by simpa [isLet] using h
  have hs : c ∉ signs.take 10 := by
    intro x
    have : ∀ z ∈ signs.take 10, z < 97 ∨ 122 < z := by decide
    have := this c x
    omega
  unfold fS fL
  rw [if_neg hs, if_pos (by omega)]
theorem fS_sign {c : Int} (h : c ∈ signs) : fS 10 c = some 80 := by
  unfold fS
  rw [if_pos (by exact h)]
theorem fS_64 : fS 10 64 = some 75 := by decide
theorem fS_34 : fS 10 34 = some 76 := by decide
theorem fS_91 : fS 10 91 = some 77 := by decide
theorem fS_60 : fS 10 60 = some 78 := by decide
theorem fS_none {c : Int} (h1 : isLet c = false) (h2 : c ∉ signs) (h3 : c ≠ 64) (h4 : c ≠ 34) (h5 : c ≠ 91) (h6 : c ≠ 60) : fS 10 c = none := by
  have hc : ¬ (97 ≤ c ∧ c ≤ 122) := by
    intro x
    have : isLet c = true := by simpa [isLet] using x
    rw [h1] at this
    cases this
  unfold fS fL f4 upd
  rw [if_neg (by exact h2), if_neg (by omega), if_neg h6, if_neg h5, if_neg h4, if_neg h3]
theorem tok_none {l : List Int} (h1 : isLet (l.getD 0 0) = false) (h2 : l.getD 0 0 ∉ signs) (h3 : l.getD 0 0 ≠ 64) (h4 : l.getD 0 0 ≠ 34) (h5 : l.getD 0 0 ≠ 91) (h6 : l.getD 0 0 ≠ 60) : tokL l = none := by
  unfold tokL
  rw [h1, if_neg (by simp), if_neg h3, if_neg h2, if_neg h4, if_neg h6, if_neg h5]
def Reads (g : Nat) (a : Option Addr) (len cap : Nat) (l : List Int) : Prop := ∀ W, Bs W a len cap l → Calls Tryz.prog g #[.slice a len cap] W fun e w' => ∃ v n, e = .returned (.tuple #[v, .int .i64 (n : Nat)]) ∧ TokO w' v n (tokL l) ∧ Below W.heap.size W w'
theorem TokO.form {w : World} {v : Value} {n : Nat} {o : Option (Tk × Nat)} (h : TokO w v n o) : ∃ k s p m c q, v = .agg #[.int .i64 k, .string s, .slice p m c, .int .i64 q] := by
  rcases h with ⟨_, rfl, _⟩ | ⟨t, _, a, c, rfl, _⟩
  · exact ⟨_, _, _, _, _, _, rfl⟩
  · exact ⟨_, _, _, _, _, _, rfl⟩
theorem TokO.set4 {w : World} {v : Value} {n : Nat} {o : Option (Tk × Nat)} (h : TokO w v n o) {g : Nat} {cs : Array Value} (hg : w.heap[g]? = some (.cells cs 102)) (x0 x1 x2 x3 : Value) :
    TokO ((((w.setCell ⟨g, 0, none⟩ x0).setCell ⟨g, 1, none⟩ x1).setCell ⟨g, 2, none⟩ x2).setCell ⟨g, 3, none⟩ x3) v n o := by
  rcases h with h | ⟨t, e, a, c, rfl, hr⟩
  · exact .inl h
  · exact .inr ⟨t, e, a, c, rfl, Rs.set4 hr hg _ _ _ _⟩
set_option maxRecDepth 20000 in
set_option maxHeartbeats 4000000 in
theorem token_name (a : Option Addr) (len cap : Nat) (l : List Int) (w : World) (h : Bs w a len cap l) (hp : 1 ≤ len) (b : Nat) (hm : Mp w b (fS 10)) (hf : fS 10 (l.getD 0 0) = some 79) (hr : Reads 79 a len cap l) :
    Calls Tryz.prog 42 #[.slice a len cap, .map (some b)] w fun e w' => ∃ v n, e = .returned (.tuple #[v, .int .i64 (n : Nat)]) ∧ TokO w' v n (tokL l) ∧ Below w.heap.size w w' := by
  have HB := hideR (Bs.later h (Below.new1 zTok) (Nat.le_refl _))
  have lk := (Mp.later hm (Below.new1 zTok)).get (l.getD 0 0)
  rw [hf] at lk
  simp only [Option.isSome_some] at lk
  obtain ⟨bb, off, rfl, hb⟩ := h.open (by omega)
  obtain ⟨z, hz, z0, z1, cz⟩ := bat hb 0 (by omega)
  rw [Nat.add_zero] at cz
  rw [hz] at lk
  have cz1 : (w.alloc zTok).cell? ⟨bb, off, none⟩ = some (.int .u8 z) := by rw [(Below.new1 (w := w) zTok).cell (block_lt' cz)]; exact cz
  have CR := hideR hr
  unfold zTok at *
  clear h hb hm hf hr hz cz
  go_enter Tryz.func42, Tryz.ntmps42
  go_wp2_with fail
  refine (unhideR CR _ (unhideR HB)).mono ?_
  rintro e w1 ⟨v, n, rfl, to, b1⟩
  obtain ⟨k, s, p, m, c, q, rfl⟩ := to.form
  have HT := hideR to
  clear CR HB to
  have HG := kept_new b1
  obtain ⟨⟨q0, q1, q2, q3⟩, f0, f1, f2, f3⟩ := cells4 HG
  go_wp2_with fail
  (try simp only [Exit.inBlock, Exit.then])
  refine bodyPost_ret (v := .tuple #[.agg #[.int .i64 k, .string s, .slice p m c, .int .i64 q], .int .i64 (n : Nat)]) ?_ rfl ⟨_, _, rfl, TokO.set4 (unhideR HT) HG _ _ _ _, ?_⟩
  · rw [results_cell_tmp rfl]
    go_simp
  · exact set4 ((Below.new1 _).trans (b1.mono (by simp))) (Nat.le_refl _) _ _ _ _
set_option maxRecDepth 20000 in
set_option maxHeartbeats 4000000 in
theorem token_sign (a : Option Addr) (len cap : Nat) (l : List Int) (w : World) (h : Bs w a len cap l) (hp : 1 ≤ len) (b : Nat) (hm : Mp w b (fS 10)) (hf : fS 10 (l.getD 0 0) = some 80) (hr : Reads 80 a len cap l) :
    Calls Tryz.prog 42 #[.slice a len cap, .map (some b)] w fun e w' => ∃ v n, e = .returned (.tuple #[v, .int .i64 (n : Nat)]) ∧ TokO w' v n (tokL l) ∧ Below w.heap.size w w' := by
  have HB := hideR (Bs.later h (Below.new1 zTok) (Nat.le_refl _))
  have lk := (Mp.later hm (Below.new1 zTok)).get (l.getD 0 0)
  rw [hf] at lk
  simp only [Option.isSome_some] at lk
  obtain ⟨bb, off, rfl, hb⟩ := h.open (by omega)
  obtain ⟨z, hz, z0, z1, cz⟩ := bat hb 0 (by omega)
  rw [Nat.add_zero] at cz
  rw [hz] at lk
  have cz1 : (w.alloc zTok).cell? ⟨bb, off, none⟩ = some (.int .u8 z) := by rw [(Below.new1 (w := w) zTok).cell (block_lt' cz)]; exact cz
  have CR := hideR hr
  unfold zTok at *
  clear h hb hm hf hr hz cz
  go_enter Tryz.func42, Tryz.ntmps42
  go_wp2_with fail
  refine (unhideR CR _ (unhideR HB)).mono ?_
  rintro e w1 ⟨v, n, rfl, to, b1⟩
  obtain ⟨k, s, p, m, c, q, rfl⟩ := to.form
  have HT := hideR to
  clear CR HB to
  have HG := kept_new b1
  obtain ⟨⟨q0, q1, q2, q3⟩, f0, f1, f2, f3⟩ := cells4 HG
  go_wp2_with fail
  (try simp only [Exit.inBlock, Exit.then])
  refine bodyPost_ret (v := .tuple #[.agg #[.int .i64 k, .string s, .slice p m c, .int .i64 q], .int .i64 (n : Nat)]) ?_ rfl ⟨_, _, rfl, TokO.set4 (unhideR HT) HG _ _ _ _, ?_⟩
  · rw [results_cell_tmp rfl]
    go_simp
  · exact set4 ((Below.new1 _).trans (b1.mono (by simp))) (Nat.le_refl _) _ _ _ _
set_option maxRecDepth 20000 in
set_option maxHeartbeats 4000000 in
theorem token_mark (a : Option Addr) (len cap : Nat) (l : List Int) (w : World) (h : Bs w a len cap l) (hp : 1 ≤ len) (b : Nat) (hm : Mp w b (fS 10)) (hf : fS 10 (l.getD 0 0) = some 75) (hr : Reads 75 a len cap l) :
    Calls Tryz.prog 42 #[.slice a len cap, .map (some b)] w fun e w' => ∃ v n, e = .returned (.tuple #[v, .int .i64 (n : Nat)]) ∧ TokO w' v n (tokL l) ∧ Below w.heap.size w w' := by
  have HB := hideR (Bs.later h (Below.new1 zTok) (Nat.le_refl _))
  have lk := (Mp.later hm (Below.new1 zTok)).get (l.getD 0 0)
  rw [hf] at lk
  simp only [Option.isSome_some] at lk
  obtain ⟨bb, off, rfl, hb⟩ := h.open (by omega)
  obtain ⟨z, hz, z0, z1, cz⟩ := bat hb 0 (by omega)
  rw [Nat.add_zero] at cz
  rw [hz] at lk
  have cz1 : (w.alloc zTok).cell? ⟨bb, off, none⟩ = some (.int .u8 z) := by rw [(Below.new1 (w := w) zTok).cell (block_lt' cz)]; exact cz
  have CR := hideR hr
  unfold zTok at *
  clear h hb hm hf hr hz cz
  go_enter Tryz.func42, Tryz.ntmps42
  go_wp2_with fail
  refine (unhideR CR _ (unhideR HB)).mono ?_
  rintro e w1 ⟨v, n, rfl, to, b1⟩
  obtain ⟨k, s, p, m, c, q, rfl⟩ := to.form
  have HT := hideR to
  clear CR HB to
  have HG := kept_new b1
  obtain ⟨⟨q0, q1, q2, q3⟩, f0, f1, f2, f3⟩ := cells4 HG
  go_wp2_with fail
  (try simp only [Exit.inBlock, Exit.then])
  refine bodyPost_ret (v := .tuple #[.agg #[.int .i64 k, .string s, .slice p m c, .int .i64 q], .int .i64 (n : Nat)]) ?_ rfl ⟨_, _, rfl, TokO.set4 (unhideR HT) HG _ _ _ _, ?_⟩
  · rw [results_cell_tmp rfl]
    go_simp
  · exact set4 ((Below.new1 _).trans (b1.mono (by simp))) (Nat.le_refl _) _ _ _ _
set_option maxRecDepth 20000 in
set_option maxHeartbeats 4000000 in
theorem token_lit (a : Option Addr) (len cap : Nat) (l : List Int) (w : World) (h : Bs w a len cap l) (hp : 1 ≤ len) (b : Nat) (hm : Mp w b (fS 10)) (hf : fS 10 (l.getD 0 0) = some 76) (hr : Reads 76 a len cap l) :
    Calls Tryz.prog 42 #[.slice a len cap, .map (some b)] w fun e w' => ∃ v n, e = .returned (.tuple #[v, .int .i64 (n : Nat)]) ∧ TokO w' v n (tokL l) ∧ Below w.heap.size w w' := by
  have HB := hideR (Bs.later h (Below.new1 zTok) (Nat.le_refl _))
  have lk := (Mp.later hm (Below.new1 zTok)).get (l.getD 0 0)
  rw [hf] at lk
  simp only [Option.isSome_some] at lk
  obtain ⟨bb, off, rfl, hb⟩ := h.open (by omega)
  obtain ⟨z, hz, z0, z1, cz⟩ := bat hb 0 (by omega)
  rw [Nat.add_zero] at cz
  rw [hz] at lk
  have cz1 : (w.alloc zTok).cell? ⟨bb, off, none⟩ = some (.int .u8 z) := by rw [(Below.new1 (w := w) zTok).cell (block_lt' cz)]; exact cz
  have CR := hideR hr
  unfold zTok at *
  clear h hb hm hf hr hz cz
  go_enter Tryz.func42, Tryz.ntmps42
  go_wp2_with fail
  refine (unhideR CR _ (unhideR HB)).mono ?_
  rintro e w1 ⟨v, n, rfl, to, b1⟩
  obtain ⟨k, s, p, m, c, q, rfl⟩ := to.form
  have HT := hideR to
  clear CR HB to
  have HG := kept_new b1
  obtain ⟨⟨q0, q1, q2, q3⟩, f0, f1, f2, f3⟩ := cells4 HG
  go_wp2_with fail
  (try simp only [Exit.inBlock, Exit.then])
  refine bodyPost_ret (v := .tuple #[.agg #[.int .i64 k, .string s, .slice p m c, .int .i64 q], .int .i64 (n : Nat)]) ?_ rfl ⟨_, _, rfl, TokO.set4 (unhideR HT) HG _ _ _ _, ?_⟩
  · rw [results_cell_tmp rfl]
    go_simp
  · exact set4 ((Below.new1 _).trans (b1.mono (by simp))) (Nat.le_refl _) _ _ _ _
set_option maxRecDepth 20000 in
set_option maxHeartbeats 4000000 in
theorem token_class (a : Option Addr) (len cap : Nat) (l : List Int) (w : World) (h : Bs w a len cap l) (hp : 1 ≤ len) (b : Nat) (hm : Mp w b (fS 10)) (hf : fS 10 (l.getD 0 0) = some 77) (hr : Reads 77 a len cap l) :
    Calls Tryz.prog 42 #[.slice a len cap, .map (some b)] w fun e w' => ∃ v n, e = .returned (.tuple #[v, .int .i64 (n : Nat)]) ∧ TokO w' v n (tokL l) ∧ Below w.heap.size w w' := by
  have HB := hideR (Bs.later h (Below.new1 zTok) (Nat.le_refl _))
  have lk := (Mp.later hm (Below.new1 zTok)).get (l.getD 0 0)
  rw [hf] at lk
  simp only [Option.isSome_some] at lk
  obtain ⟨bb, off, rfl, hb⟩ := h.open (by omega)
  obtain ⟨z, hz, z0, z1, cz⟩ := bat hb 0 (by omega)
  rw [Nat.add_zero] at cz
  rw [hz] at lk
  have cz1 : (w.alloc zTok).cell? ⟨bb, off, none⟩ = some (.int .u8 z) := by rw [(Below.new1 (w := w) zTok).cell (block_lt' cz)]; exact cz
  have CR := hideR hr
  unfold zTok at *
  clear h hb hm hf hr hz cz
  go_enter Tryz.func42, Tryz.ntmps42
  go_wp2_with fail
  refine (unhideR CR _ (unhideR HB)).mono ?_
  rintro e w1 ⟨v, n, rfl, to, b1⟩
  obtain ⟨k, s, p, m, c, q, rfl⟩ := to.form
  have HT := hideR to
  clear CR HB to
  have HG := kept_new b1
  obtain ⟨⟨q0, q1, q2, q3⟩, f0, f1, f2, f3⟩ := cells4 HG
  go_wp2_with fail
  (try simp only [Exit.inBlock, Exit.then])
  refine bodyPost_ret (v := .tuple #[.agg #[.int .i64 k, .string s, .slice p m c, .int .i64 q], .int .i64 (n : Nat)]) ?_ rfl ⟨_, _, rfl, TokO.set4 (unhideR HT) HG _ _ _ _, ?_⟩
  · rw [results_cell_tmp rfl]
    go_simp
  · exact set4 ((Below.new1 _).trans (b1.mono (by simp))) (Nat.le_refl _) _ _ _ _
set_option maxRecDepth 20000 in
set_option maxHeartbeats 4000000 in
theorem token_octets (a : Option Addr) (len cap : Nat) (l : List Int) (w : World) (h : Bs w a len cap l) (hp : 1 ≤ len) (b : Nat) (hm : Mp w b (fS 10)) (hf : fS 10 (l.getD 0 0) = some 78) (hr : Reads 78 a len cap l) :
    Calls Tryz.prog 42 #[.slice a len cap, .map (some b)] w fun e w' => ∃ v n, e = .returned (.tuple #[v, .int .i64 (n : Nat)]) ∧ TokO w' v n (tokL l) ∧ Below w.heap.size w w' := by
  have HB := hideR (Bs.later h (Below.new1 zTok) (Nat.le_refl _))
  have lk := (Mp.later hm (Below.new1 zTok)).get (l.getD 0 0)
  rw [hf] at lk
  simp only [Option.isSome_some] at lk
  obtain ⟨bb, off, rfl, hb⟩ := h.open (by omega)
  obtain ⟨z, hz, z0, z1, cz⟩ := bat hb 0 (by omega)
  rw [Nat.add_zero] at cz
  rw [hz] at lk
  have cz1 : (w.alloc zTok).cell? ⟨bb, off, none⟩ = some (.int .u8 z) := by rw [(Below.new1 (w := w) zTok).cell (block_lt' cz)]; exact cz
  have CR := hideR hr
  unfold zTok at *
  clear h hb hm hf hr hz cz
  go_enter Tryz.func42, Tryz.ntmps42
  go_wp2_with fail
  refine (unhideR CR _ (unhideR HB)).mono ?_
  rintro e w1 ⟨v, n, rfl, to, b1⟩
  obtain ⟨k, s, p, m, c, q, rfl⟩ := to.form
  have HT := hideR to
  clear CR HB to
  have HG := kept_new b1
  obtain ⟨⟨q0, q1, q2, q3⟩, f0, f1, f2, f3⟩ := cells4 HG
  go_wp2_with fail
  (try simp only [Exit.inBlock, Exit.then])
  refine bodyPost_ret (v := .tuple #[.agg #[.int .i64 k, .string s, .slice p m c, .int .i64 q], .int .i64 (n : Nat)]) ?_ rfl ⟨_, _, rfl, TokO.set4 (unhideR HT) HG _ _ _ _, ?_⟩
  · rw [results_cell_tmp rfl]
    go_simp
  · exact set4 ((Below.new1 _).trans (b1.mono (by simp))) (Nat.le_refl _) _ _ _ _
set_option maxRecDepth 20000 in
set_option maxHeartbeats 4000000 in
theorem token_none (a : Option Addr) (len cap : Nat) (l : List Int) (w : World) (h : Bs w a len cap l) (hp : 1 ≤ len) (b : Nat) (hm : Mp w b (fS 10)) (hf : fS 10 (l.getD 0 0) = none) (ht : tokL l = none) :
    Calls Tryz.prog 42 #[.slice a len cap, .map (some b)] w fun e w' => ∃ v n, e = .returned (.tuple #[v, .int .i64 (n : Nat)]) ∧ TokO w' v n (tokL l) ∧ Below w.heap.size w w' := by
  rw [ht]
  have lk := (Mp.later hm (Below.new1 zTok)).get (l.getD 0 0)
  rw [hf] at lk
  simp only [Option.isSome_none] at lk
  obtain ⟨bb, off, rfl, hb⟩ := h.open (by omega)
  obtain ⟨z, hz, z0, z1, cz⟩ := bat hb 0 (by omega)
  rw [Nat.add_zero] at cz
  rw [hz] at lk
  have cz1 : (w.alloc zTok).cell? ⟨bb, off, none⟩ = some (.int .u8 z) := by rw [(Below.new1 (w := w) zTok).cell (block_lt' cz)]; exact cz
  unfold zTok at *
  clear h hb hm hf hz cz ht
  go_enter Tryz.func42, Tryz.ntmps42
  go_wp2_with fail
  (try simp only [Exit.inBlock, Exit.then])
  refine bodyPost_ret (v := .tuple #[zeroTok, .int .i64 (0 : Nat)]) ?_ rfl ⟨_, _, rfl, .inl ⟨rfl, rfl, rfl⟩, ?_⟩
  · rw [results_cell_tmp rfl]
    go_simp
    try rfl
  · exact Below.new1 _
theorem token_l (a : Option Addr) (len cap : Nat) (l : List Int) (w : World) (h : Bs w a len cap l) (hl : len ≤ 100000) (hp : 1 ≤ len) (b : Nat) (hm : Mp w b (fS 10)) :
    Calls Tryz.prog 42 #[.slice a len cap, .map (some b)] w fun e w' => ∃ v n, e = .returned (.tuple #[v, .int .i64 (n : Nat)]) ∧ TokO w' v n (tokL l) ∧ Below w.heap.size w w' := by
  cases h1 : isLet (l.getD 0 0) with
  | true => exact token_name a len cap l w h hp b hm (fS_let h1) (fun W hB => name_l a len cap l W hB (by omega) h1)
  | false =>
    by_cases h2 : l.getD 0 0 ∈ signs
    · exact token_sign a len cap l w h hp b hm (fS_sign h2) (fun W hB => sign_l a len cap l W hB hp h2)
    · by_cases h3 : l.getD 0 0 = 64
      · exact token_mark a len cap l w h hp b hm (by rw [h3]; exact fS_64) (fun W hB => mark_l a len cap l W hB (by omega) hp h3)
      · by_cases h4 : l.getD 0 0 = 34
        · exact token_lit a len cap l w h hp b hm (by rw [h4]; exact fS_34) (fun W hB => lit_l a len cap l W hB hl hp h4)
        · by_cases h5 : l.getD 0 0 = 91
          · exact token_class a len cap l w h hp b hm (by rw [h5]; exact fS_91) (fun W hB => class_l a len cap l W hB hl hp h5)
          · by_cases h6 : l.getD 0 0 = 60
            · exact token_octets a len cap l w h hp b hm (by rw [h6]; exact fS_60) (fun W hB => octets_l a len cap l W hB hl hp h6)
            · exact token_none a len cap l w h hp b hm (fS_none h1 h2 h3 h4 h5 h6) (tok_none h1 h2 h3 h4 h5 h6)
end Go.Proofs.YtfcfcgeodghmpaaGreatDoor.T

namespace Go.Proofs.YtfcfcgeodghmpaaGreatDoor.T
open Go.RowKit
set_option linter.unusedVariables false
set_option linter.unusedSimpArgs false

def skipN : List Int → Nat
  | [] => 0
  | z :: t => if isBl z then skipN t + 1 else 0
theorem skip_len : ∀ r : List Int, skipN r ≤ r.length := by
  intro r
  induction r with
  | nil => simp [skipN]
  | cons z t ih => simp only [skipN]; split <;> simp <;> omega
theorem bl_byte : ∀ n : Fin 256, ([32, 9, 10, 13] : List UInt8).contains (UInt8.ofNat n.val) = isBl (n.val : Int) := by decide +kernel
theorem bl_byte' {z : Int} (h0 : 0 ≤ z) (h1 : z ≤ 255) : ([32, 9, 10, 13] : List UInt8).contains (UInt8.ofNat z.toNat) = isBl z := by
  have := bl_byte ⟨z.toNat, by omega⟩
  simp only [Int.toNat_of_nonneg h0] at this
  exact this
theorem trim_len : ∀ r : List Int, U.isBytes r → (Lib.trimLeftS (Lib.bytesOf r) [32, 9, 10, 13]).length = r.length - skipN r := by
  intro r
  induction r with
  | nil => intro _; rfl
  | cons z t ih =>
    intro hb
    have hz := U.isBytes_head hb
    have := ih (U.isBytes_tail hb)
    unfold Lib.trimLeftS Lib.bytesOf at *
    rw [List.map_cons, List.dropWhile_cons, bl_byte' hz.1 hz.2]
    simp only [skipN, List.length_cons]
    cases h : isBl z with
    | true =>
      simp only [if_true]
      rw [this]
      omega
    | false =>
      simp
theorem tail_run8 (a : Option Addr) (len cap k : Nat) (i : Int) (hi : i = (k : Int)) (hk : k ≤ len) : ∀ W, (Instr.slice 54 (.slice a len cap) (some (.int .i64 i)) none none).run Tryz.prog W = .ok (.slice (dropA a cap k) (len - k) (cap - k)) W := by
  intro W
  subst hi
  have hu : Tryz.prog.underlying 54 = some (.slice 5) := Tryz.underlying54
  unfold Instr.slice dropA
  simp [hu, run_underlying, Instr.sliceBounds, Instr.sliceBound, asIntOf, hk, Tryz.sizeOf5]
theorem trim_l (a : Option Addr) (len cap : Nat) (l : List Int) (w : World) (h : Bs w a len cap l) :
    Calls Tryz.prog 81 #[.slice a len cap, .string ⟨#[32, 9, 10, 13]⟩] w fun e w' => (∃ x c, e = .returned (.slice x (len - skipN l) c)) ∧ Below w.heap.size w w' := by
  have hm := h.hmax
  unfold maxLen at hm
  have := Any.bytes_TrimLeft_laid trimL_lays (by kernel_rfl) a len cap l ⟨#[32, 9, 10, 13]⟩ w h.hlen h.hcap (by omega) (Bs.bytesIn h) (fun x hx => by have := h.hbytes x hx; omega) (by decide) (fun j b hb => by have := List.mem_of_getElem? hb; simp at this; rcases this with rfl | rfl | rfl | rfl <;> decide)
  have hl := trim_len l h.hbytes
  have hs := skip_len l
  rw [h.hlen] at hl hs
  refine Calls.mono this fun e w' hh => ⟨?_, hh.2⟩
  rw [hh.1]
  show ∃ x c, Ending.returned (Lib.leftV a len cap (len - (Lib.trimLeftS (Lib.bytesOf l) [32, 9, 10, 13]).length)) = _
  rw [hl, show len - (len - skipN l) = skipN l by omega]
  unfold Lib.leftV Lib.fromV
  split
  · next c => exact ⟨none, 0, by rw [c]; simp⟩
  · exact ⟨_, _, rfl⟩
set_option maxRecDepth 20000 in
set_option maxHeartbeats 2000000 in
theorem blanks_l (a : Option Addr) (len cap : Nat) (l : List Int) (w : World) (h : Bs w a len cap l) (hl : len ≤ 1000000) (k : Nat) (hk : k ≤ len) :
    Calls Tryz.prog 41 #[.slice a len cap, .int .i64 k] w fun e w' => e = .returned (.int .i64 ((k + skipN (l.drop k) : Nat) : Int)) ∧ Below w.heap.size w w' := by
  have hlen := h.hlen
  have sl := tail_run8 a len cap k k rfl hk
  have C := hideR (trim_l _ _ _ _ w (Bs.dropA h k hk))
  have hs := skip_len (l.drop k)
  rw [List.length_drop] at hs
  clear h
  generalize skipN (l.drop k) = m at *
  have t1 := wrapI ((len : Int) - ((len - k - m : Nat) : Int)) (by omega)
  go_enter Tryz.func41, Tryz.ntmps41
  go_wp2_with fail
  refine (unhideR C).mono ?_
  rintro e w1 ⟨⟨x, c, rfl⟩, b1⟩
  clear C
  go_wp2_with fail
  go_ret
  exact ⟨by show Ending.returned (Value.int .i64 _) = _; congr 2; omega, b1⟩
end Go.Proofs.YtfcfcgeodghmpaaGreatDoor.T

/- Contracts of package token: All. -/
namespace Go.Proofs.YtfcfcgeodghmpaaGreatDoor.T
open Go.RowKit
set_option linter.unusedVariables false
set_option linter.unusedSimpArgs false

theorem all_skip : ∀ (r : List Int) (a c : Nat), U.isBytes r → allA a c r = allA (a + skipN r) c (r.drop (skipN r)) := by
  intro r
  induction r with
  | nil => intro a c _; rfl
  | cons z t ih =>
    intro a c hb
    simp only [skipN]
    cases h : isBl z with
    | false => simp
    | true =>
      simp only [if_true]
      rw [all_blank hb (by simp) (by simpa using h), List.drop_succ_cons, List.drop_zero, List.drop_succ_cons, ih (a + 1) c (U.isBytes_tail hb), show a + 1 + skipN t = a + (skipN t + 1) by omega]
theorem skip_stop : ∀ r : List Int, r.drop (skipN r) ≠ [] → isBl ((r.drop (skipN r)).getD 0 0) = false := by
  intro r
  induction r with
  | nil => intro h; exact absurd rfl h
  | cons z t ih =>
    intro h
    simp only [skipN] at *
    cases e : isBl z with
    | false => simp [e]
    | true =>
      rw [e] at h
      simp only [if_true, List.drop_succ_cons] at h ⊢
      exact ih h

/-! ### Tokens, one behind the other -/
def TkC (w : World) : List (Tk × Nat) → List Value → Prop
  | [], cs => cs = []
  | (t, p) :: ts, cs => ∃ c0 c1 c2 c3 cs', cs = c0 :: c1 :: c2 :: c3 :: cs' ∧ TokV w (.agg #[c0, c1, c2, c3]) t p ∧ TkC w ts cs'
theorem TkC.mono {w w' : World} (h : ∀ v t p, TokV w v t p → TokV w' v t p) : ∀ (ts : List (Tk × Nat)) (cs : List Value), TkC w ts cs → TkC w' ts cs := by
  intro ts
  induction ts with
  | nil => intro cs hc; exact hc
  | cons x ts ih =>
    obtain ⟨t, p⟩ := x
    intro cs hc
    obtain ⟨c0, c1, c2, c3, cs', e, hv, hr⟩ := hc
    exact ⟨c0, c1, c2, c3, cs', e, h _ _ _ hv, ih _ hr⟩
theorem TkC.later {w w' : World} {ts : List (Tk × Nat)} {cs : List Value} (h : TkC w ts cs) (b : Below w.heap.size w w') : TkC w' ts cs := TkC.mono (fun _ _ _ hv => TokV.later hv b) ts cs h
theorem TkC.snoc {w : World} {t : Tk} {p : Nat} {c0 c1 c2 c3 : Value} (hv : TokV w (.agg #[c0, c1, c2, c3]) t p) : ∀ (ts : List (Tk × Nat)) (cs : List Value), TkC w ts cs → TkC w (ts ++ [(t, p)]) (cs ++ [c0, c1, c2, c3]) := by
  intro ts
  induction ts with
  | nil =>
    intro cs hc
    have : cs = [] := hc
    subst this
    exact ⟨c0, c1, c2, c3, [], rfl, hv, rfl⟩
  | cons x ts ih =>
    obtain ⟨t', p'⟩ := x
    intro cs hc
    obtain ⟨d0, d1, d2, d3, cs', e, hv', hr⟩ := hc
    exact ⟨d0, d1, d2, d3, cs' ++ [c0, c1, c2, c3], by rw [e]; rfl, hv', ih _ hr⟩
theorem own_ne {W : World} {base : Nat} {e : TypeId} {size : Nat} {v : Value} {n : Nat} {xs : List Value} (h : W.ownsRow base e size v n xs) {k : Nat} {cs : Array Value} {t : TypeId} {fr : Nat × Nat} (hk : W.heap[k]? = some (.cells cs t fr)) (ht : t ≠ e) : some k ≠ v.ownBlock := by
  rcases h.2 with ⟨rfl, _⟩ | ⟨g, cap, cur, rfl, _, hg, _⟩
  · simp [Value.ownBlock]
  · intro e'
    simp only [Value.ownBlock, Option.some.injEq] at e'
    subst e'
    rw [hk] at hg
    injection hg with hg
    injection hg with _ hg
    exact ht hg
theorem TokV.grown {W W' : World} {base : Nat} {v : Value} {n : Nat} {xs : List Value} (ho : W.ownsRow base 102 4 v n xs) (hg : W.grownBy W' v.ownBlock) (u : Value) (t : Tk) (p : Int) (h : TokV W u t p) : TokV W' u t p := by
  obtain ⟨a, c, e, hr, ht⟩ := h
  have key : ∀ b off, a = some ⟨b, off, none⟩ → W'.heap[b]? = W.heap[b]? := by
    intro b off e
    obtain ⟨cs, fr, hk⟩ := ht b off e
    exact hg.block b (Array.getElem?_eq_some_iff.1 hk).1 (own_ne ho hk (by decide))
  refine ⟨a, c, e, ⟨hr.hlen, hr.hcap, hr.hmax, hr.hfit, fun i hi => ?_⟩, fun b off e => ?_⟩
  · obtain ⟨b, off, ha, hc, hd⟩ := hr.hcell i hi
    exact ⟨b, off, ha, by rw [World.cell?_of_block (key b off ha)]; exact hc, by rw [World.cell?_of_block (key b off ha)]; exact hd⟩
  · obtain ⟨cs, fr, hk⟩ := ht b off e
    exact ⟨cs, fr, (key b off e).trans hk⟩
theorem infoTok3 : (Tryz.prog.info? 102).map (fun i => (i.zero, i.size, i.bytes)) = some (some (.agg #[.int .i64 0, .string ⟨#[]⟩, .slice none 0 0, .int .i64 0]), 4, 56) := by kernel_rfl
theorem new_tok (w : World) (n : Nat) (x0 x1 x2 x3 : Value) (hn : n = w.heap.size) : ∀ (j : Nat) (u : Value), [x0, x1, x2, x3][j]? = some u → (w.alloc (.cells #[x0, x1, x2, x3] 102)).cell? ((⟨n, 0, none⟩ : Addr).add j) = some u := by
  subst hn
  exact World.news_of_block (cs := #[x0, x1, x2, x3]) (t := 102) (fr := (0, 0)) (heap_alloc_new w _)
def Tks (w : World) (base : Nat) (v : Value) (ts : List (Tk × Nat)) : Prop := ∃ cs, w.ownsRow base 102 4 v ts.length cs ∧ TkC w ts cs
def AllR (w : World) (base : Nat) (l : List Int) (e : Ending) : Prop :=
  (∃ a er, allL l = .inl (a, er) ∧ e = .returned (.tuple #[.slice none 0 0, .int .i64 (a : Nat), .int .i64 er])) ∨
  ∃ ts v, allL l = .inr ts ∧ e = .returned (.tuple #[v, .int .i64 (l.length : Nat), .int .i64 0]) ∧ Tks w base v ts
set_option maxRecDepth 20000 in
set_option maxHeartbeats 8000000 in
theorem all_l (s : ByteArray) (l : List Int) (h : St s l) (hl : l.length ≤ 1000000) (w : World) :
    Calls Tryz.prog 24 #[.string s] w fun e w' => AllR w' w.heap.size l e ∧ Below w.heap.size w w' := by
  have hsz := h.size
  have hbb := h.2
  have kc := fun W => run_bytes_of_string (P := Tryz.prog) W 9 54 5 s Tryz.underlying9 Tryz.underlying54 Tryz.underlying5
  by_cases hbig : 3000 < l.length
  · have e : allL l = .inl (0, 7) := by unfold allL; rw [if_pos hbig]
    have t1 : (3000 : Int) < (s.size : Int) := by omega
    have EQ := hideR e
    clear h kc hsz e
    go_enter Tryz.func24, Tryz.ntmps24
    go_wp2_with fail
    (try simp only [Exit.inBlock, Exit.then])
    refine bodyPost_ret (v := .tuple #[.slice none 0 0, .int .i64 (0 : Nat), .int .i64 7]) ?_ rfl ⟨.inl ⟨0, 7, unhideR EQ, rfl⟩, Below.refl _ _⟩
    simp [results, Tryz.results24]
  · have t1 : (s.size : Int) ≤ 3000 := by omega
    have BC := hideR (fun W fr => bs_conv' W h (by unfold maxLen; omega) fr)
    have CBl := hideR (fun W x c (hB : Bs W x s.size c l) k (hk : k ≤ s.size) => blanks_l x s.size c l W hB (by omega) k hk)
    have CT := hideR (fun W x c (hB : Bs W x s.size c l) k (hk : k < s.size) b (hm : Mp W b (fS 10)) => token_l _ _ _ _ W (Bs.dropA hB k (by omega)) (by omega) (by omega) b hm)
    have HL := hideR hsz
    have HBB := hideR hbb
    have AL : Hid (allL l = allA 0 600 l) := allL_is (by omega)
    have ssl : s.size ≤ 3000 := by omega
    have t1b : decide ((3000 : Int) < (s.size : Int)) = false := decide_eq_false (by omega)
    obtain ⟨ti, hi0, hz0, hz1, hz2⟩ := info_parts infoTok3
    clear h hbig hsz hbb hl
    go_enter Tryz.func24, Tryz.ntmps24
    go_wp2_with fail
    have B0 := new_drew' (w := w) (.cells (bytesRow s (grownCap w s.size 0 5)) 5 ((bytesRow s (grownCap w s.size 0 5)).size, (bytesRow s (grownCap w s.size 0 5)).size + 1))
    have HB0 := unhideR BC w ((bytesRow s (grownCap w s.size 0 5)).size, (bytesRow s (grownCap w s.size 0 5)).size + 1)
    clear BC kc
    generalize hW0 : (w.alloc (.cells (bytesRow s (grownCap w s.size 0 5)) 5 ((bytesRow s (grownCap w s.size 0 5)).size, (bytesRow s (grownCap w s.size 0 5)).size + 1))).drew = W0 at *
    clear hW0
    generalize grownCap w s.size 0 5 = gc at *
    refine (readers_l _).mono ?_
    rintro e W1 ⟨mb, rfl, hm, b1⟩
    have HB1 := hideR (Bs.later HB0 b1 (Nat.le_refl _))
    have HM1 := hideR hm
    have HW1 := hideR (bthen B0 b1)
    clear HB0 hm b1 B0
    go_wp2_with fail
    have CB0 : Hid (Calls Tryz.prog 41 #[.slice (some ⟨w.heap.size, 0, none⟩) s.size gc, .int .i64 0] W1 fun e w' => e = .returned (.int .i64 ((skipN l : Nat) : Int)) ∧ Below W1.heap.size W1 w') := by
      have := unhideR CBl W1 _ gc (unhideR HB1) 0 (Nat.zero_le _)
      rw [List.drop_zero, Nat.zero_add] at this
      exact this
    refine (unhideR CB0).mono ?_
    rintro e W2 ⟨rfl, b2⟩
    have HB2 := hideR (Bs.later (unhideR HB1) b2 (Nat.le_refl _))
    have HM2 := hideR (Mp.later (unhideR HM1) b2)
    have HW2 := hideR (bthen (unhideR HW1) b2)
    have hs0 : skipN l ≤ s.size := by rw [unhideR HL]; exact skip_len l
    have A0 : Hid (allL l = joinS [] (allA (skipN l) 600 (l.drop (skipN l)))) := by
      show _ = _
      rw [join_nil, unhideR AL, all_skip l 0 600 (unhideR HBB), Nat.zero_add]
    have S0 : Hid (skipN l < s.size → isBl (l.getD (skipN l) 0) = false) := by
      intro hh
      have := skip_stop l (drop_ne (by rw [← unhideR HL]; exact hh))
      rw [drop_getD, Nat.add_zero] at this
      exact this
    clear CB0 HB1 HM1 HW1 b2 AL
    generalize skipN l = k0 at *
    go_wp2_with fail
    go_loopw [7, 8] (fun v j wr => ∃ (k : Nat) (acc : List (Tk × Nat)) (cs : List Value), k ≤ s.size ∧ acc.length ≤ 600 ∧ j = .int .i64 (k : Int) ∧ Hid (allL l = joinS acc (allA k (600 - acc.length) (l.drop k))) ∧ Hid (k < s.size → isBl (l.getD k 0) = false) ∧ Hid (TkC wr acc cs) ∧ wr.ownsRow W2.heap.size 102 4 v acc.length cs ∧ Below W2.heap.size W2 wr) (fun _ j _ => s.size - (intOf j).toNat)
    case atStart => exact ⟨k0, [], [], hs0, by simp, rfl, A0, S0, rfl, World.ownsRow_nil _ _ _ _, Below.refl _ _⟩
    case round =>
      obtain ⟨k, acc, cs, hk, hacc, rfl, hA, hS, hC, hown, hb⟩ := hrel
      have HBr := hideR (Bs.later (unhideR HB2) hb (Nat.le_refl _))
      have HMr := hideR (Mp.later (unhideR HM2) hb)
      have HO := hideR hown
      have hws := hb.size
      have HBW : Hid (Below w.heap.size w wr) := bthen (unhideR HW2) hb
      clear A0 S0 HM2 hs0
      by_cases hlt : k < s.size
      · have hne : l.drop k ≠ [] := drop_ne (by rw [← unhideR HL]; exact hlt)
        have hbl : isBl ((l.drop k).getD 0 0) = false := by rw [drop_getD, Nat.add_zero]; exact unhideR hS hlt
        have sl := tail_run8 (some ⟨w.heap.size, 0, none⟩) s.size gc k k rfl (by omega)
        have C1 := hideR (unhideR CT wr _ gc (unhideR HBr) k hlt mb (unhideR HMr))
        have hbd := U.isBytes_drop (unhideR HBB) k
        cases et : tokL (l.drop k) with
        | none =>
          have EQ : Hid (allL l = .inl (k, 2)) := by
            show _ = _
            rw [hA.out, all_bad hne hbl et]
            rfl
          rw [et] at C1
          clear et hA hS CT CBl HL HBB hne hbl hbd HMr HBr hC hown HO
          go_wp2_with fail
          refine (unhideR C1).mono ?_
          rintro e w1 ⟨v, n, rfl, to, b1⟩
          have tn : v = zeroTok ∧ n = 0 := by
            rcases to with ⟨_, h2, h3⟩ | ⟨t, h2, _⟩
            · exact ⟨h2, h3⟩
            · cases h2
          obtain ⟨rfl, rfl⟩ := tn
          unfold zeroTok
          clear C1 to
          go_wp2_with fail
          (try simp only [Exit.inBlock, Exit.then])
          refine bodyPost_ret (v := .tuple #[.slice none 0 0, .int .i64 (k : Int), .int .i64 2]) ?_ rfl ⟨.inl ⟨k, 2, unhideR EQ, rfl⟩, ?_⟩
          · simp [results, Tryz.results24]
          · exact bthen (bthen (unhideR HBW) b1) (Below.new1 _)
        | some tp =>
          obtain ⟨t, n⟩ := tp
          have gd := (tok_ok hbd et).2
          rw [List.length_drop, ← unhideR HL] at gd
          rw [et] at C1
          have t0 : ((n : Int) == 0) = false := beq_eq_false_iff_ne.2 (by omega)
          by_cases c6 : acc.length = 600
          · have EQ : Hid (allL l = .inl (k, 7)) := by
              show _ = _
              rw [hA.out, c6, all_many hne hbl et]
              rfl
            obtain ⟨p7, c7, e7⟩ := own_form (unhideR HO)
            have t6 : ((acc.length : Int) == 600) = true := by rw [c6]; rfl
            clear et hA hS CT CBl HL HBB hne hbl hbd HMr HBr hC hown HO c6
            subst e7
            go_wp2_with fail
            refine (unhideR C1).mono ?_
            rintro e w1 ⟨v, m, rfl, to, b1⟩
            obtain ⟨x0, x1, x2, x3, x4, x5, rfl⟩ := to.form
            have tn : m = n := by
              rcases to with ⟨h2, _⟩ | ⟨t', h2, _⟩
              · cases h2
              · injection h2 with h2; injection h2 with _ h2; exact h2.symm
            subst tn
            clear C1 to
            go_wp2_with fail
            (try simp only [Exit.inBlock, Exit.then])
            refine bodyPost_ret (v := .tuple #[.slice none 0 0, .int .i64 (k : Int), .int .i64 7]) ?_ rfl ⟨.inl ⟨k, 7, unhideR EQ, rfl⟩, ?_⟩
            · simp [results, Tryz.results24]
            · exact bthen (bthen (unhideR HBW) b1) (Below.new1 _)
          · have t6 : ((acc.length : Int) == 600) = false := beq_eq_false_iff_ne.2 (by omega)
            have hcap := (unhideR HBr).hcap
            have hs2 := skip_len (l.drop (k + n))
            rw [List.length_drop, ← unhideR HL] at hs2
            have AQ : Hid (allL l = joinS (acc ++ [(t, k)]) (allA (k + n + skipN (l.drop (k + n))) (600 - (acc ++ [(t, k)]).length) (l.drop (k + n + skipN (l.drop (k + n)))))) := by
              show _ = _
              rw [hA.out, show 600 - acc.length = (599 - acc.length) + 1 by omega, all_tok hbd hne hbl et, List.drop_drop, all_skip (l.drop (k + n)) (k + n) _ (U.isBytes_drop (unhideR HBB) (k + n)), List.drop_drop, List.length_append, List.length_singleton, show 600 - (acc.length + 1) = 599 - acc.length by omega]
              cases allA (k + n + skipN (l.drop (k + n))) (599 - acc.length) (l.drop (k + n + skipN (l.drop (k + n)))) with
              | inl e => rfl
              | inr e => simp [joinS, consS]
            have SQ : Hid (k + n + skipN (l.drop (k + n)) < s.size → isBl (l.getD (k + n + skipN (l.drop (k + n))) 0) = false) := by
              intro hh
              have := skip_stop (l.drop (k + n)) (by rw [List.drop_drop]; exact drop_ne (by rw [← unhideR HL]; exact hh))
              rw [List.drop_drop, drop_getD, Nat.add_zero] at this
              exact this
            have t2 := wrapI ((k : Int) + n) (by omega)
            obtain ⟨p7, c7, e7⟩ := own_form (unhideR HO)
            clear et hA hS CT HBB hne hbl hbd HMr hown
            subst e7
            go_wp2_with fail
            refine (unhideR C1).mono ?_
            rintro e w1 ⟨v, m, rfl, to, b1⟩
            have tn : m = n ∧ TokV w1 v t 0 := by
              rcases to with ⟨h2, _⟩ | ⟨t', h2, h3⟩
              · cases h2
              · injection h2 with h2; injection h2 with h2a h2b; subst h2a; exact ⟨h2b.symm, h3⟩
            obtain ⟨rfl, pa, pc, rfl, hr, hty⟩ := tn
            have HV : ∀ W, Below w1.heap.size w1 W → TokV W (.agg #[.int .i64 t.1, .string (strOfNums t.2.1), .slice pa t.2.2.length pc, .int .i64 (k : Int)]) t (k : Int) := fun W bw => ⟨pa, pc, rfl, hr.later bw (Nat.le_refl _), hty.later bw⟩
            have HVH := hideR HV
            have ho1 := ownL b1 (unhideR HO)
            have hC1 := hideR (TkC.later (unhideR hC) b1)
            have hb1 := hb.trans (b1.mono hws)
            have hs1 := hb1.size
            have HB1 := hideR (Bs.later (unhideR HBr) b1 (Nat.le_refl _))
            clear C1 to hr hty HV HO hC HBr
            generalize strOfNums t.2.1 = S at *
            generalize t.1 = K at *
            generalize t.2.2.length = rl at *
            go_wp2_with (at_builtin; refine wpList_append_lies _ rfl _ _ 64 rfl W2.heap.size 102 ti _ 4 56 Tryz.underlying64 hi0 hz0 hz1 hz2 rfl (by omega) _ _ _ rfl ((ho1.alloc _).alloc _) ⟨w1.heap.size + 1, 0, none⟩ 1 1 [.int .i64 K, .string S, .slice pa rl pc, .int .i64 (k : Int)] rfl rfl (new_tok _ _ _ _ _ _ (by simp)) (by simp [Value.oneCell']) (by omega) (by unfold maxLen; omega) (by omega) (by simp; omega) (w1.heap.size + 2) (by simp) ?_; intro gg cap1 w2 hown1 hgrow hat hlt1)
            have hb2 : Below W2.heap.size W2 w2 := hb1.trans (below_app2 ho1 hs1 hgrow)
            have TV := TokV.grown ((ho1.alloc _).alloc _) hgrow
            have b12 : Below w1.heap.size w1 ((w1.alloc (.cells #[.int .i64 K, .string S, .slice pa rl pc, .int .i64 (k : Int)] 102)).alloc (.cells #[.int .i64 K, .string S, .slice pa rl pc, .int .i64 (k : Int)] 102)) := (Below.new1 _).alloc (by simp) _
            have HC2 := hideR (TkC.snoc (TV _ _ _ (unhideR HVH _ b12)) acc cs (TkC.mono TV acc cs (TkC.later (unhideR hC1) b12)))
            have C2 := unhideR CBl w2 _ gc (Bs.later (unhideR HB2) hb2 (Nat.le_refl _)) (k + m) (by omega)
            rw [show ((k + m : Nat) : Int) = (k : Int) + (m : Int) by omega] at C2
            have C2H := hideR C2
            have HO2 := hideR hown1
            clear C2 TV b12 HVH hC1 hown1 hgrow hat hlt1 ho1 CBl HB1 HB2
            generalize skipN (l.drop (k + m)) = sk at *
            refine (unhideR C2H).mono ?_
            rintro e w3 ⟨rfl, b3⟩
            have HO3 := hideR (ownL b3 (unhideR HO2))
            have HC3 := hideR (TkC.later (unhideR HC2) b3)
            have hb3 := hb2.trans (b3.mono hb2.size)
            clear C2H HO2 HC2
            go_wp2_with fail
            go_roundw
            case rel => exact ⟨k + m + sk, acc ++ [(t, k)], _, by omega, by simp; omega, rfl, AQ, SQ, HC3, by rw [List.length_append]; exact unhideR HO3, hb3⟩
            case measure => simp [intOf]; omega
      · obtain rfl : k = s.size := by omega
        have EQ : Hid (allL l = .inr acc) := by
          show _ = _
          rw [hA.out, List.drop_of_length_le (by rw [← unhideR HL]; omega), all_nil]
          simp [joinS]
        have t9 : ¬ ((s.size : Int) < (s.size : Int)) := by omega
        clear hA hS CT CBl HBB HMr HBr hown
        go_wp2_with fail
        (try simp only [Exit.inBlock, Exit.then])
        refine bodyPost_ret (v := .tuple #[u7, .int .i64 (l.length : Nat), .int .i64 0]) ?_ rfl ⟨.inr ⟨acc, u7, unhideR EQ, rfl, cs, own_mono (unhideR HO) (by have := (unhideR HW2).size; omega), unhideR hC⟩, unhideR HBW⟩
        rw [← unhideR HL]
        simp [results, Tryz.results24]
end Go.Proofs.YtfcfcgeodghmpaaGreatDoor.T

namespace Go.Proofs.YtfcfcgeodghmpaaGreatDoor.T
open Go.RowKit
set_option linter.unusedVariables false
set_option linter.unusedSimpArgs false

/-! ### A builder that the call has made, holding these bytes -/
def Bd (w : World) (B b : Nat) (l : List Int) : Prop := Lib.IsBuilderF 79 5 B b (Lib.byteCells (Lib.bytesOf l)) w
theorem Bd.new (w : World) : Bd (w.alloc (.cells #[.pointer none, .slice none 0 0] 79)) w.heap.size w.heap.size [] := Lib.IsBuilderF.of (Lib.fresh_isBuilder _ _ w)
theorem atf_later {T e : TypeId} {B b : Nat} {p : Value} {bs : List Value} {w w' : World} (h : Lib.BuilderAtF T e B b p bs w) (hb : Below w.heap.size w w') : Lib.BuilderAtF T e B b p bs w' := by
  have hlt := h.lt
  obtain ⟨hB, v, h1, hown, hne⟩ := h
  exact ⟨hB, v, (hb.block b hlt).trans h1, hown.kept (show w.grownBy w' none from ⟨hb.os, hb.tape, hb.output, hb.size, fun k hk _ => hb.block k hk⟩) (by cases hv : v.ownBlock <;> simp), hne⟩
theorem Bd.later {w w' : World} {B b : Nat} {l : List Int} (h : Bd w B b l) (hb : Below w.heap.size w w') : Bd w' B b l := h.elim (fun x => .inl (atf_later x hb)) (fun x => .inr (atf_later x hb))
theorem bytes_cells (l : List Int) (h : U.isBytes l) : Lib.byteCells (Lib.bytesOf l) = l.map (Value.int .u8) := by
  unfold Lib.byteCells Lib.bytesOf
  rw [List.map_map]
  refine List.map_congr_left fun z hz => ?_
  have := h z hz
  simp [UInt8.toNat_ofNat']
  omega
theorem str_cells {s : ByteArray} {p : List Int} (h : St s p) : Lib.strCells s = Lib.byteCells (Lib.bytesOf p) := by
  unfold Lib.strCells Lib.byteCells
  rw [h.1, strOfNums_data]
  rfl
theorem bytesOf_app (a b : List Int) : Lib.bytesOf (a ++ b) = Lib.bytesOf a ++ Lib.bytesOf b := by simp [Lib.bytesOf]
theorem wbyte_l (B b : Nat) (l : List Int) (c : Int) (h0 : 0 ≤ c) (h1 : c ≤ 255) (w : World) (h : Bd w B b l) (hl : l.length ≤ 10000000) (hB : B ≤ w.heap.size) :
    Calls Tryz.prog 182 #[.pointer (some ⟨b, 0, none⟩), .int .u8 c] w fun e w' => e = .returned .nilIface ∧ Bd w' B b (l ++ [c]) ∧ Below B w w' ∧ Lib.OthersKept 5 (some b) w w' := by
  have := Any.Builder_WriteByte_k bWByte_lays bWByte_extra B b (Lib.byteCells (Lib.bytesOf l)) c w h (by rw [Lib.byteCells_length]; simp [Lib.bytesOf]; omega) hB
  refine Calls.mono this fun e w' hh => ⟨hh.1, ?_, hh.2.2.1, hh.2.2.2⟩
  refine .inr ?_
  have e1 : Lib.byteCells (Lib.bytesOf (l ++ [c])) = Lib.byteCells (Lib.bytesOf l) ++ [.int .u8 c] := by
    rw [bytesOf_app, Lib.byteCells_append]
    congr 1
    exact bytes_cells [c] (fun z hz => by simp at hz; omega)
  rw [e1]
  exact hh.2.1
theorem wstr_l (B b : Nat) (l : List Int) (s : ByteArray) (p : List Int) (hs : St s p) (w : World) (h : Bd w B b l) (hl : l.length + p.length ≤ 10000000) (hB : B ≤ w.heap.size) :
    Calls Tryz.prog 115 #[.pointer (some ⟨b, 0, none⟩), .string s] w fun e w' => e = .returned (.tuple #[.int .i64 s.size, .nilIface]) ∧ Bd w' B b (l ++ p) ∧ Below B w w' ∧ Lib.OthersKept 5 (some b) w w' := by
  have hsz := hs.size
  have := Any.Builder_WriteString_k bWStr_lays bWStr_extra B b (Lib.byteCells (Lib.bytesOf l)) s w h (by rw [Lib.byteCells_length]; simp [Lib.bytesOf]; omega) hB
  refine Calls.mono this fun e w' hh => ⟨hh.1, ?_, hh.2.2.1, hh.2.2.2⟩
  refine .inr ?_
  have e1 : Lib.byteCells (Lib.bytesOf (l ++ p)) = Lib.byteCells (Lib.bytesOf l) ++ Lib.strCells s := by
    rw [bytesOf_app, Lib.byteCells_append, str_cells hs]
  rw [e1]
  exact hh.2.1
theorem bstr_l (B b : Nat) (l : List Int) (w : World) (h : Bd w B b l) (hB : B ≤ w.heap.size) :
    Calls Tryz.prog 51 #[.pointer (some ⟨b, 0, none⟩)] w fun e w' => e = .returned (.string (strOfNums l)) ∧ Below B w w' := by
  have := Any.Builder_String_any_k bStr_lays bStr_extra B b (Lib.bytesOf l) w h hB
  exact Calls.mono this fun e w' hh => ⟨hh.1, hh.2.2.1⟩
theorem St.app {a b : ByteArray} {x y : List Int} (h : St a x) (k : St b y) : St (a ++ b) (x ++ y) := by
  refine ⟨?_, fun z hz => ?_⟩
  · have ha := h.1
    have hb := k.1
    subst ha hb
    apply ByteArray.ext
    apply Array.ext'
    rw [show (strOfNums x ++ strOfNums y).data = (strOfNums x).data ++ (strOfNums y).data from ByteArray.data_append]
    rw [Array.toList_append, strOfNums_data, strOfNums_data, strOfNums_data, List.map_append]
  · rcases List.mem_append.1 hz with h' | h'
    · exact h.2 z h'
    · exact k.2 z h'

/-! ### A scalar that stands for itself -/
end Go.Proofs.YtfcfcgeodghmpaaGreatDoor.T

/- Contracts of package token: ranges as items, each end of them written by a function. -/
namespace Go.Proofs.YtfcfcgeodghmpaaGreatDoor.T
open Go.RowKit
set_option linter.unusedVariables false
set_option linter.unusedSimpArgs false

def showR (sh : Int → List Int) (r : Int × Int) : List Int := if r.1 < r.2 then sh r.1 ++ 45 :: sh r.2 else sh r.1
theorem cells2 {W : World} {g : Nat} {x0 x1 : Value} {t : TypeId} (h : W.heap[g]? = some (.cells #[x0, x1] t)) : W.cell? ⟨g, 0, none⟩ = some x0 ∧ W.cell? ⟨g, 1, none⟩ = some x1 := by
  constructor <;> simp [World.cell?, h]
theorem showR_bytes {sh : Int → List Int} {r : Int × Int} (h1 : U.isBytes (sh r.1)) (h2 : U.isBytes (sh r.2)) : U.isBytes (showR sh r) := by
  unfold showR
  split
  · exact bytes_app h1 (bytes_cons (by omega) (by omega) h2)
  · exact h1
set_option maxRecDepth 20000 in
set_option maxHeartbeats 8000000 in
theorem itemsT_S (sh : Int → List Int) (ok : Int → Prop) (hsh : ∀ n, ok n → U.isBytes (sh n) ∧ (sh n).length ≤ 100) (w : World)
    (CE0 : ∀ n, ok n → ∀ W, Below w.heap.size w W → Calls Tryz.prog 163 #[.int .i64 n] W fun e w' => e = .returned (.string (strOfNums (sh n))) ∧ Below W.heap.size W w')
    (a : Option Addr) (len cap : Nat) (l : List (Int × Int)) (h : Rs w a len cap l) (hl : len ≤ 3000) (hok : ∀ r ∈ l, ok r.1 ∧ ok r.2) :
    Calls Tryz.prog 162 #[.slice a len cap, .func (.func 163) #[] #[]] w fun e w' => e = .returned (.string (strOfNums (l.flatMap (showR sh)))) ∧ Below w.heap.size w w' := by
  have hlen := h.hlen
  have hmax := h.hmax
  have hcap := h.hcap
  have HR := hideR h
  have CE := hideR CE0
  have HOK := hideR hok
  have HSH := hideR hsh
  unfold maxLen at hmax
  clear h CE0 hok hsh
  go_enter Tryz.func162, Tryz.ntmps162
  go_wp2_with fail
  go_loopw [10] (fun j wr => ∃ (k : Nat) (acc : List Int), k ≤ len ∧ j = .int .i64 (k : Int) ∧ Hid (acc = (l.take k).flatMap (showR sh)) ∧ Hid (U.isBytes acc) ∧ acc.length ≤ 201 * k ∧ Hid (Bd wr w.heap.size w.heap.size acc) ∧ Hid (w.heap.size < wr.heap.size) ∧ Below w.heap.size w wr) (fun j _ => len - (intOf j).toNat)
  case atStart => exact ⟨0, [], Nat.zero_le _, rfl, (by show [] = _; simp), (fun z hz => by cases hz), by simp, Bd.new w, (by show _ < _; simp), Below.new1 _⟩
  case round =>
    obtain ⟨k, acc, hk, rfl, ha, hab, hal, hB, NE, hb⟩ := hrel
    by_cases hlt : k < len
    · obtain ⟨bb, off, rfl, hr⟩ := (Rs.later (unhideR HR) hb (Nat.le_refl _)).open (by omega)
      obtain ⟨lo, hi, hmem, hd, f1, f2, c0, c1⟩ := hr.at k hlt
      unfold fits at f1 f2
      have hin : (lo, hi) ∈ l := List.mem_of_mem_drop (by rw [hmem]; exact List.mem_cons_self ..)
      have hoo := unhideR HOK (lo, hi) hin
      have OK1 : Hid (ok lo ∧ U.isBytes (sh lo) ∧ (sh lo).length ≤ 100) := ⟨hoo.1, unhideR HSH lo hoo.1⟩
      have OK2 : Hid (ok hi ∧ U.isBytes (sh hi) ∧ (sh hi).length ≤ 100) := ⟨hoo.2, unhideR HSH hi hoo.2⟩
      have HA : Hid (acc ++ showR sh (lo, hi) = (l.take (k + 1)).flatMap (showR sh)) := by
        show _ = _
        rw [hd, List.flatMap_append, ← ha.out]
        simp
      have HAB : Hid (U.isBytes (acc ++ showR sh (lo, hi))) := bytes_app (unhideR hab) (showR_bytes (unhideR OK1).2.1 (unhideR OK2).2.1)
      clear hr hd hmem hin hoo ha hab HR HOK HSH
      by_cases c : lo < hi
      · have es : showR sh (lo, hi) = sh lo ++ 45 :: sh hi := by unfold showR; rw [if_pos c]
        rw [es] at HA HAB
        clear es
        go_wp2_with fail
        refine (unhideR CE lo (unhideR OK1).1 _ (hb.alloc hb.size _)).mono ?_
        rintro e w1 ⟨rfl, b1⟩
        have BD1 := Bd.later (Bd.later (unhideR hB) (Below.new1 (.cells #[.int .i64 lo, .int .i64 hi] 58))) b1
        have HR1 := kept_new b1
        have hs1 : w.heap.size ≤ w1.heap.size := by have := hb.size; have := b1.size; simp at this; omega
        have C1 := hideR (wstr_l w.heap.size w.heap.size acc _ (sh lo) (St.of (unhideR OK1).2.1) w1 BD1 (by have := (unhideR OK1).2.2; omega) hs1)
        clear BD1
        go_wp2_with fail
        refine (unhideR C1).mono ?_
        rintro e w2 ⟨rfl, BD2, b2, k2⟩
        clear C1
        have HR2 : w2.heap[wr.heap.size]? = some (.cells #[.int .i64 lo, .int .i64 hi] 58) := k2 _ _ HR1 (by intro c; injection c with c; have := hb.size; have hh := (unhideR NE); omega) (by intro c fz hh; injection hh with _ hh; exact absurd hh (by decide))
        obtain ⟨q0, q1⟩ := cells2 HR2
        have hs2 : w.heap.size ≤ w2.heap.size := by have := b2.size; omega
        have B2 : Below w.heap.size w w2 := ((hb.alloc hb.size _).trans (b1.mono (by simp; have := hb.size; omega))).trans b2
        clear k2 HR1

        go_wp2_with fail
        refine (unhideR CE hi (unhideR OK2).1 _ B2).mono ?_
        rintro e w3 ⟨rfl, b3⟩
        have BD3 := Bd.later BD2 b3
        have hs3 : w.heap.size ≤ w3.heap.size := by have := b3.size; omega
        have SD := hideR (St.app st_dash (St.of (unhideR OK2).2.1))
        have z2 : (strOfNums (sh hi)).size ≤ 100 := by rw [strOfNums_size]; exact (unhideR OK2).2.2
        clear BD2 q0 q1 HR2
        go_wp2_with fail
        refine (wstr_l w.heap.size w.heap.size (acc ++ sh lo) _ _ (unhideR SD) w3 BD3 (by rw [List.length_append, List.length_append]; have := (unhideR OK1).2.2; have := (unhideR OK2).2.2; simp; omega) hs3).mono ?_
        rintro e w4 ⟨rfl, BD4, b4, -⟩
        go_wp2_with fail
        go_roundw
        case rel => exact ⟨k + 1, acc ++ (sh lo ++ 45 :: sh hi), by omega, by go_num, HA, HAB, by rw [List.length_append, List.length_append, List.length_cons]; have := (unhideR OK1).2.2; have := (unhideR OK2).2.2; omega, (by show Bd _ _ _ _; rw [← List.append_assoc]; exact BD4), (by show _ < _; have := b4.size; have := b3.size; have := b2.size; have := b1.size; simp at this; have := unhideR NE; omega), (B2.trans (b3.mono hs2)).trans b4⟩
        case measure => simp [intOf]; omega
      · have es : showR sh (lo, hi) = sh lo := by unfold showR; rw [if_neg c]
        have c' : hi ≤ lo := by omega
        rw [es] at HA HAB
        clear es
        go_wp2_with fail
        refine (unhideR CE lo (unhideR OK1).1 _ (hb.alloc hb.size _)).mono ?_
        rintro e w1 ⟨rfl, b1⟩
        have BD1 := Bd.later (Bd.later (unhideR hB) (Below.new1 (.cells #[.int .i64 lo, .int .i64 hi] 58))) b1
        have HR1 := kept_new b1
        have hs1 : w.heap.size ≤ w1.heap.size := by have := hb.size; have := b1.size; simp at this; omega
        have C1 := hideR (wstr_l w.heap.size w.heap.size acc _ (sh lo) (St.of (unhideR OK1).2.1) w1 BD1 (by have := (unhideR OK1).2.2; omega) hs1)
        clear BD1
        go_wp2_with fail
        refine (unhideR C1).mono ?_
        rintro e w2 ⟨rfl, BD2, b2, k2⟩
        clear C1
        have HR2 : w2.heap[wr.heap.size]? = some (.cells #[.int .i64 lo, .int .i64 hi] 58) := k2 _ _ HR1 (by intro c; injection c with c; have := hb.size; have hh := (unhideR NE); omega) (by intro c fz hh; injection hh with _ hh; exact absurd hh (by decide))
        obtain ⟨q0, q1⟩ := cells2 HR2
        have hs2 : w.heap.size ≤ w2.heap.size := by have := b2.size; omega
        have B2 : Below w.heap.size w w2 := ((hb.alloc hb.size _).trans (b1.mono (by simp; have := hb.size; omega))).trans b2
        clear k2 HR1

        clear HR2
        go_wp2_with fail
        go_roundw
        case rel => exact ⟨k + 1, acc ++ sh lo, by omega, by go_num, HA, HAB, by rw [List.length_append]; have := (unhideR OK1).2.2; omega, BD2, (by show _ < _; have := b2.size; have := b1.size; simp at this; have := unhideR NE; omega), B2⟩
        case measure => simp [intOf]; omega
    · obtain rfl : k = len := by omega
      have ha' := ha.out
      rw [List.take_of_length_le (by omega)] at ha'
      have C := hideR (bstr_l w.heap.size w.heap.size acc wr (unhideR hB) hb.size)
      rw [ha'] at C
      clear ha ha' hB CE HR HOK HSH
      go_wp2_with fail
      refine (unhideR C).mono ?_
      rintro e w1 ⟨rfl, b1⟩
      clear C
      go_wp2_with fail
      go_ret
      exact ⟨rfl, hb.trans b1⟩
set_option maxRecDepth 20000 in
set_option maxHeartbeats 8000000 in
theorem itemsT_H (sh : Int → List Int) (ok : Int → Prop) (hsh : ∀ n, ok n → U.isBytes (sh n) ∧ (sh n).length ≤ 100) (w : World)
    (CE0 : ∀ n, ok n → ∀ W, Below w.heap.size w W → Calls Tryz.prog 164 #[.int .i64 n] W fun e w' => e = .returned (.string (strOfNums (sh n))) ∧ Below W.heap.size W w')
    (a : Option Addr) (len cap : Nat) (l : List (Int × Int)) (h : Rs w a len cap l) (hl : len ≤ 3000) (hok : ∀ r ∈ l, ok r.1 ∧ ok r.2) :
    Calls Tryz.prog 162 #[.slice a len cap, .func (.func 164) #[] #[]] w fun e w' => e = .returned (.string (strOfNums (l.flatMap (showR sh)))) ∧ Below w.heap.size w w' := by
  have hlen := h.hlen
  have hmax := h.hmax
  have hcap := h.hcap
  have HR := hideR h
  have CE := hideR CE0
  have HOK := hideR hok
  have HSH := hideR hsh
  unfold maxLen at hmax
  clear h CE0 hok hsh
  go_enter Tryz.func162, Tryz.ntmps162
  go_wp2_with fail
  go_loopw [10] (fun j wr => ∃ (k : Nat) (acc : List Int), k ≤ len ∧ j = .int .i64 (k : Int) ∧ Hid (acc = (l.take k).flatMap (showR sh)) ∧ Hid (U.isBytes acc) ∧ acc.length ≤ 201 * k ∧ Hid (Bd wr w.heap.size w.heap.size acc) ∧ Hid (w.heap.size < wr.heap.size) ∧ Below w.heap.size w wr) (fun j _ => len - (intOf j).toNat)
  case atStart => exact ⟨0, [], Nat.zero_le _, rfl, (by show [] = _; simp), (fun z hz => by cases hz), by simp, Bd.new w, (by show _ < _; simp), Below.new1 _⟩
  case round =>
    obtain ⟨k, acc, hk, rfl, ha, hab, hal, hB, NE, hb⟩ := hrel
    by_cases hlt : k < len
    · obtain ⟨bb, off, rfl, hr⟩ := (Rs.later (unhideR HR) hb (Nat.le_refl _)).open (by omega)
      obtain ⟨lo, hi, hmem, hd, f1, f2, c0, c1⟩ := hr.at k hlt
      unfold fits at f1 f2
      have hin : (lo, hi) ∈ l := List.mem_of_mem_drop (by rw [hmem]; exact List.mem_cons_self ..)
      have hoo := unhideR HOK (lo, hi) hin
      have OK1 : Hid (ok lo ∧ U.isBytes (sh lo) ∧ (sh lo).length ≤ 100) := ⟨hoo.1, unhideR HSH lo hoo.1⟩
      have OK2 : Hid (ok hi ∧ U.isBytes (sh hi) ∧ (sh hi).length ≤ 100) := ⟨hoo.2, unhideR HSH hi hoo.2⟩
      have HA : Hid (acc ++ showR sh (lo, hi) = (l.take (k + 1)).flatMap (showR sh)) := by
        show _ = _
        rw [hd, List.flatMap_append, ← ha.out]
        simp
      have HAB : Hid (U.isBytes (acc ++ showR sh (lo, hi))) := bytes_app (unhideR hab) (showR_bytes (unhideR OK1).2.1 (unhideR OK2).2.1)
      clear hr hd hmem hin hoo ha hab HR HOK HSH
      by_cases c : lo < hi
      · have es : showR sh (lo, hi) = sh lo ++ 45 :: sh hi := by unfold showR; rw [if_pos c]
        rw [es] at HA HAB
        clear es
        go_wp2_with fail
        refine (unhideR CE lo (unhideR OK1).1 _ (hb.alloc hb.size _)).mono ?_
        rintro e w1 ⟨rfl, b1⟩
        have BD1 := Bd.later (Bd.later (unhideR hB) (Below.new1 (.cells #[.int .i64 lo, .int .i64 hi] 58))) b1
        have HR1 := kept_new b1
        have hs1 : w.heap.size ≤ w1.heap.size := by have := hb.size; have := b1.size; simp at this; omega
        have C1 := hideR (wstr_l w.heap.size w.heap.size acc _ (sh lo) (St.of (unhideR OK1).2.1) w1 BD1 (by have := (unhideR OK1).2.2; omega) hs1)
        clear BD1
        go_wp2_with fail
        refine (unhideR C1).mono ?_
        rintro e w2 ⟨rfl, BD2, b2, k2⟩
        clear C1
        have HR2 : w2.heap[wr.heap.size]? = some (.cells #[.int .i64 lo, .int .i64 hi] 58) := k2 _ _ HR1 (by intro c; injection c with c; have := hb.size; have hh := (unhideR NE); omega) (by intro c fz hh; injection hh with _ hh; exact absurd hh (by decide))
        obtain ⟨q0, q1⟩ := cells2 HR2
        have hs2 : w.heap.size ≤ w2.heap.size := by have := b2.size; omega
        have B2 : Below w.heap.size w w2 := ((hb.alloc hb.size _).trans (b1.mono (by simp; have := hb.size; omega))).trans b2
        clear k2 HR1

        go_wp2_with fail
        refine (unhideR CE hi (unhideR OK2).1 _ B2).mono ?_
        rintro e w3 ⟨rfl, b3⟩
        have BD3 := Bd.later BD2 b3
        have hs3 : w.heap.size ≤ w3.heap.size := by have := b3.size; omega
        have SD := hideR (St.app st_dash (St.of (unhideR OK2).2.1))
        have z2 : (strOfNums (sh hi)).size ≤ 100 := by rw [strOfNums_size]; exact (unhideR OK2).2.2
        clear BD2 q0 q1 HR2
        go_wp2_with fail
        refine (wstr_l w.heap.size w.heap.size (acc ++ sh lo) _ _ (unhideR SD) w3 BD3 (by rw [List.length_append, List.length_append]; have := (unhideR OK1).2.2; have := (unhideR OK2).2.2; simp; omega) hs3).mono ?_
        rintro e w4 ⟨rfl, BD4, b4, -⟩
        go_wp2_with fail
        go_roundw
        case rel => exact ⟨k + 1, acc ++ (sh lo ++ 45 :: sh hi), by omega, by go_num, HA, HAB, by rw [List.length_append, List.length_append, List.length_cons]; have := (unhideR OK1).2.2; have := (unhideR OK2).2.2; omega, (by show Bd _ _ _ _; rw [← List.append_assoc]; exact BD4), (by show _ < _; have := b4.size; have := b3.size; have := b2.size; have := b1.size; simp at this; have := unhideR NE; omega), (B2.trans (b3.mono hs2)).trans b4⟩
        case measure => simp [intOf]; omega
      · have es : showR sh (lo, hi) = sh lo := by unfold showR; rw [if_neg c]
        have c' : hi ≤ lo := by omega
        rw [es] at HA HAB
        clear es
        go_wp2_with fail
        refine (unhideR CE lo (unhideR OK1).1 _ (hb.alloc hb.size _)).mono ?_
        rintro e w1 ⟨rfl, b1⟩
        have BD1 := Bd.later (Bd.later (unhideR hB) (Below.new1 (.cells #[.int .i64 lo, .int .i64 hi] 58))) b1
        have HR1 := kept_new b1
        have hs1 : w.heap.size ≤ w1.heap.size := by have := hb.size; have := b1.size; simp at this; omega
        have C1 := hideR (wstr_l w.heap.size w.heap.size acc _ (sh lo) (St.of (unhideR OK1).2.1) w1 BD1 (by have := (unhideR OK1).2.2; omega) hs1)
        clear BD1
        go_wp2_with fail
        refine (unhideR C1).mono ?_
        rintro e w2 ⟨rfl, BD2, b2, k2⟩
        clear C1
        have HR2 : w2.heap[wr.heap.size]? = some (.cells #[.int .i64 lo, .int .i64 hi] 58) := k2 _ _ HR1 (by intro c; injection c with c; have := hb.size; have hh := (unhideR NE); omega) (by intro c fz hh; injection hh with _ hh; exact absurd hh (by decide))
        obtain ⟨q0, q1⟩ := cells2 HR2
        have hs2 : w.heap.size ≤ w2.heap.size := by have := b2.size; omega
        have B2 : Below w.heap.size w w2 := ((hb.alloc hb.size _).trans (b1.mono (by simp; have := hb.size; omega))).trans b2
        clear k2 HR1

        clear HR2
        go_wp2_with fail
        go_roundw
        case rel => exact ⟨k + 1, acc ++ sh lo, by omega, by go_num, HA, HAB, by rw [List.length_append]; have := (unhideR OK1).2.2; omega, BD2, (by show _ < _; have := b2.size; have := b1.size; simp at this; have := unhideR NE; omega), B2⟩
        case measure => simp [intOf]; omega
    · obtain rfl : k = len := by omega
      have ha' := ha.out
      rw [List.take_of_length_le (by omega)] at ha'
      have C := hideR (bstr_l w.heap.size w.heap.size acc wr (unhideR hB) hb.size)
      rw [ha'] at C
      clear ha ha' hB CE HR HOK HSH
      go_wp2_with fail
      refine (unhideR C).mono ?_
      rintro e w1 ⟨rfl, b1⟩
      clear C
      go_wp2_with fail
      go_ret
      exact ⟨rfl, hb.trans b1⟩
end Go.Proofs.YtfcfcgeodghmpaaGreatDoor.T

namespace Go.Proofs.YtfcfcgeodghmpaaGreatDoor.T
open Go.RowKit
set_option linter.unusedVariables false
set_option linter.unusedSimpArgs false

theorem and15 (n : Int) : bits .and .i64 n 15 = n % 16 := by
  have h15 : (BitVec.ofInt 64 15).toNat = 2 ^ 4 - 1 := by decide
  have key : (BitVec.ofInt 64 n &&& BitVec.ofInt 64 15).toNat = (n % ((2 ^ 64 : Nat) : Int)).toNat % 2 ^ 4 := by
    rw [BitVec.toNat_and, BitVec.toNat_ofInt, h15, Nat.and_two_pow_sub_one_eq_mod]
  show IntKind.i64.wrap ((BitVec.ofInt 64 n &&& BitVec.ofInt 64 15).toNat : Nat) = n % 16
  rw [key, IntKind.wrap_i64]
  omega
theorem st_digits : St ⟨#[48, 49, 50, 51, 52, 53, 54, 55, 56, 57, 97, 98, 99, 100, 101, 102]⟩ [48, 49, 50, 51, 52, 53, 54, 55, 56, 57, 97, 98, 99, 100, 101, 102] := ⟨rfl, by intro z hz; simp at hz; omega⟩
theorem dig_hex : ∀ k : Fin 16, ([48, 49, 50, 51, 52, 53, 54, 55, 56, 57, 97, 98, 99, 100, 101, 102] : List Int).getD k.val 0 = hexD (k.val : Int) := by decide
theorem ix_digit (z : Int) (h0 : 0 ≤ z) (h1 : z < 16) : ∀ W, (Instr.index 9 (.string ⟨#[48, 49, 50, 51, 52, 53, 54, 55, 56, 57, 97, 98, 99, 100, 101, 102]⟩) (.int .i64 z)).run Tryz.prog W = .ok (.int .u8 (hexD z)) W := by
  intro W
  obtain ⟨k, rfl⟩ := Int.eq_ofNat_of_zero_le h0
  have := st_digits.ix (k := k) (by simp; omega) W
  rw [dig_hex ⟨k, by omega⟩] at this
  exact this
theorem hexD_byte {z : Int} (h0 : 0 ≤ z) (h1 : z < 16) : 0 ≤ hexD z ∧ hexD z ≤ 255 := by
  unfold hexD
  split <;> omega
theorem conv2 (w : World) (x y : Int) (hx : 0 ≤ x ∧ x ≤ 255) (hy : 0 ≤ y ∧ y ≤ 255) : (convert 54 9 (.slice (some ⟨w.heap.size, 0, none⟩) 2 2)).run Tryz.prog (w.alloc (.cells #[.int .u8 x, .int .u8 y] 5)) = .ok (.string (strOfNums [x, y])) (w.alloc (.cells #[.int .u8 x, .int .u8 y] 5)) := by
  have hb : Bs (w.alloc (.cells #[.int .u8 x, .int .u8 y] 5)) (some ⟨w.heap.size, 0, none⟩) 2 2 [x, y] := by
    refine ⟨rfl, Nat.le_refl _, by decide, fun z hz => by simp at hz; rcases hz with rfl | rfl <;> omega, fun i hi => ⟨_, _, rfl, ?_⟩⟩
    have e := heap_alloc_new w (.cells #[.int .u8 x, .int .u8 y] 5)
    obtain ⟨q0, q1⟩ := cells2 e
    have : i = 0 ∨ i = 1 := by omega
    rcases this with rfl | rfl
    · exact q0
    · exact q1
  exact hb.str
def hexT (n : Int) : List Int := [hexD (n / 16 % 16), hexD (n % 16)]
theorem hexT_is {n : Int} (h0 : 0 ≤ n) (h1 : n ≤ 255) : hexT n = hex2 n := by
  unfold hexT hex2
  rw [show n / 16 % 16 = n / 16 by omega]
set_option maxRecDepth 20000 in
set_option maxHeartbeats 4000000 in
theorem hexText_l (n : Int) (h0 : -9223372036854775808 ≤ n) (h1 : n ≤ 9223372036854775807) (w : World) :
    Calls Tryz.prog 164 #[.int .i64 n] w fun e w' => e = .returned (.string (strOfNums (hexT n))) ∧ Below w.heap.size w w' := by
  have e1 := and15 n
  have e2 := and15 (n / 16)
  have i1 := ix_digit (n % 16) (by omega) (by omega)
  have i2 := ix_digit (n / 16 % 16) (by omega) (by omega)
  have b1 := hexD_byte (z := n % 16) (by omega) (by omega)
  have b2 := hexD_byte (z := n / 16 % 16) (by omega) (by omega)
  have cv : (convert 54 9 (.slice (some ⟨w.heap.size, 0, none⟩) 2 2)).run Tryz.prog (w.alloc (.cells #[.int .u8 (hexD (n / 16 % 16)), .int .u8 (hexD (n % 16))] 5)).drew = .ok (.string (strOfNums [hexD (n / 16 % 16), hexD (n % 16)])) (w.alloc (.cells #[.int .u8 (hexD (n / 16 % 16)), .int .u8 (hexD (n % 16))] 5)).drew := conv2 w.drew _ _ b2 b1
  unfold hexT
  generalize n % 16 = z1 at *
  generalize n / 16 % 16 = z2 at *
  generalize hexD z1 = y1 at *
  generalize hexD z2 = y2 at *
  generalize strOfNums [y2, y1] = S at *
  go_enter Tryz.func164, Tryz.ntmps164
  go_wp2_with fail
  go_region
  go_wp2_with fail
  go_ret
  exact ⟨rfl, new_drew' _⟩

/-! ### Literals -/
set_option maxRecDepth 20000 in
set_option maxHeartbeats 4000000 in
theorem litText_l (s : ByteArray) (l : List Int) (h : St s l) (hl : l.length ≤ 3000) (w : World) :
    Calls Tryz.prog 161 #[.string s] w fun e w' => e = .returned (.string (strOfNums (l.flatMap showP))) ∧ Below w.heap.size w w' := by
  have hsz := h.size
  have HS := hideR h
  have CS := hideR standsInLit_l
  have CH := hideR (fun z (h0 : 0 ≤ z) (h1 : z ≤ 255) W => hexText_l z (by omega) (by omega) W)
  have hsl : s.size ≤ 3000 := by omega
  have HZ := hideR hsz
  clear h hsz hl
  go_enter Tryz.func161, Tryz.ntmps161
  go_wp2_with fail
  go_loopw [8] (fun j wr => ∃ (k : Nat) (acc : List Int), k ≤ s.size ∧ j = .int .i64 (k : Int) ∧ Hid (acc = (l.take k).flatMap showP) ∧ Hid (U.isBytes acc) ∧ acc.length ≤ 4 * k ∧ Hid (Bd wr w.heap.size w.heap.size acc) ∧ Below w.heap.size w wr) (fun j _ => s.size - (intOf j).toNat)
  case atStart => exact ⟨0, [], Nat.zero_le _, rfl, (by show [] = _; simp), (fun z hz => by cases hz), by simp, Bd.new w, Below.new1 _⟩
  case round =>
    obtain ⟨k, acc, hk, rfl, ha, hab, hal, hB, hb⟩ := hrel
    by_cases hlt : k < s.size
    · have hkl : k < l.length := by rw [← unhideR HZ]; exact hlt
      have x0 := (unhideR HS).ix hkl
      obtain ⟨z0, z1⟩ := (unhideR HS).byte k
      have HA : Hid (acc ++ showP (l.getD k 0) = (l.take (k + 1)).flatMap showP) := by
        show _ = _
        rw [List.take_succ_eq_append_getElem hkl, List.flatMap_append, ← ha.out]
        simp [List.getD, hkl]
      have CS1 := hideR (unhideR CS (l.getD k 0) z0 z1)
      have CH1 := hideR (unhideR CH (l.getD k 0) z0 z1)
      generalize l.getD k 0 = z at *
      have hbs := hb.size
      cases hr : rawB z with
      | true =>
        have es : showP z = [z] := by unfold showP; rw [hr]; rfl
        rw [es] at HA
        rw [hr] at CS1
        have HAB : Hid (U.isBytes (acc ++ [z])) := bytes_app (unhideR hab) (bytes_cons z0 z1 (fun y hy => by cases hy))
        have CW := hideR (wbyte_l w.heap.size w.heap.size acc z z0 z1 wr (unhideR hB) (by omega) hbs)
        clear es hr CH1 ha hab hB CH CS HS
        go_wp2_with fail
        refine (unhideR CS1 _).mono ?_
        rintro e w1 ⟨rfl, hw1⟩
        obtain rfl : wr = w1 := hw1.symm
        clear hw1 CS1
        go_wp2_with fail
        refine (unhideR CW).mono ?_
        rintro e w2 ⟨rfl, BD, b2, -⟩
        clear CW
        go_wp2_with fail
        go_roundw
        case rel => exact ⟨k + 1, acc ++ [z], by omega, by go_num, HA, HAB, by simp; omega, BD, hb.trans b2⟩
        case measure => simp [intOf]; omega
      | false =>
        have es : showP z = [92, 120] ++ hexT z := by unfold showP; rw [hr, hexT_is z0 z1]; rfl
        rw [es] at HA
        rw [hr] at CS1
        have hhb : U.isBytes (hexT z) := by
          unfold hexT
          have q1 := hexD_byte (z := z % 16) (by omega) (by omega)
          have q2 := hexD_byte (z := z / 16 % 16) (by omega) (by omega)
          exact bytes_cons q2.1 q2.2 (bytes_cons q1.1 q1.2 (fun y hy => by cases hy))
        have SX := hideR (St.app st_bx (St.of hhb))
        have HAB : Hid (U.isBytes (acc ++ ([92, 120] ++ hexT z))) := bytes_app (unhideR hab) (unhideR SX).2
        have hhl : (hexT z).length = 2 := rfl
        have z2 : (strOfNums (hexT z)).size ≤ 100 := by rw [strOfNums_size]; omega
        have CW := hideR (fun W hB hBW => wstr_l w.heap.size w.heap.size acc _ _ (unhideR SX) W hB (by simp; omega) hBW)
        clear es hr ha hab CH CS HS hhb SX
        generalize hexT z = X at *
        go_wp2_with fail
        refine (unhideR CS1 _).mono ?_
        rintro e w1 ⟨rfl, hw1⟩
        obtain rfl : wr = w1 := hw1.symm
        clear hw1 CS1
        go_wp2_with fail
        refine (unhideR CH1 _).mono ?_
        rintro e w1 ⟨rfl, b1⟩
        clear CH1
        go_wp2_with fail
        refine (unhideR CW _ (Bd.later (unhideR hB) b1) (by have := b1.size; omega)).mono ?_
        rintro e w2 ⟨rfl, BD, b2, -⟩
        clear CW hB
        go_wp2_with fail
        go_roundw
        case rel => exact ⟨k + 1, acc ++ ([92, 120] ++ X), by omega, by go_num, HA, HAB, by simp; omega, BD, (hb.trans (b1.mono hbs)).trans b2⟩
        case measure => simp [intOf]; omega
    · obtain rfl : k = s.size := by omega
      have ha' := ha.out
      rw [List.take_of_length_le (by rw [← unhideR HZ]; omega)] at ha'
      have C := hideR (bstr_l w.heap.size w.heap.size acc wr (unhideR hB) hb.size)
      rw [ha'] at C
      clear ha ha' hB CH CS HS
      go_wp2_with fail
      refine (unhideR C).mono ?_
      rintro e w1 ⟨rfl, b1⟩
      clear C
      go_wp2_with fail
      go_ret
      exact ⟨rfl, hb.trans b1⟩
end Go.Proofs.YtfcfcgeodghmpaaGreatDoor.T

/- Contracts of package token: written, and Same. -/
namespace Go.Proofs.YtfcfcgeodghmpaaGreatDoor.T
open Go.RowKit
set_option linter.unusedVariables false
set_option linter.unusedSimpArgs false

def wrL (sh : Int → List Int) (t : Tk) : List Int :=
  if t.1 = 0 ∨ t.1 = 4 then t.2.1 else if t.1 = 5 then [64] ++ t.2.1 else if t.1 = 1 then [34] ++ t.2.1.flatMap showP ++ [34]
  else if t.1 = 2 then [91] ++ t.2.2.flatMap (showR sh) ++ [93] else if t.1 = 3 then [60] ++ t.2.2.flatMap (showR hexT) ++ [62] else []
theorem st1 (c : Int) (h0 : 0 ≤ c) (h1 : c ≤ 255) : St (strOfNums [c]) [c] := St.of (bytes_cons h0 h1 (fun z hz => by cases hz))
theorem showP_bytes {z : Int} (h : 0 ≤ z ∧ z ≤ 255) : U.isBytes (showP z) ∧ (showP z).length ≤ 4 := by
  unfold showP hex2
  split
  · exact ⟨bytes_cons h.1 h.2 (fun y hy => by cases hy), by simp⟩
  · have q1 := hexD_byte (z := z % 16) (by omega) (by omega)
    have q2 := hexD_byte (z := z / 16) (by omega) (by omega)
    exact ⟨bytes_cons (by omega) (by omega) (bytes_cons (by omega) (by omega) (bytes_cons q2.1 q2.2 (bytes_cons q1.1 q1.2 (fun y hy => by cases hy)))), by simp⟩
theorem flat_bytes {α : Type} (f : α → List Int) (N : Nat) : ∀ (l : List α), (∀ x ∈ l, U.isBytes (f x) ∧ (f x).length ≤ N) → U.isBytes (l.flatMap f) ∧ (l.flatMap f).length ≤ N * l.length := by
  intro l
  induction l with
  | nil => intro _; exact ⟨(fun z hz => by cases hz), Nat.zero_le _⟩
  | cons x l ih =>
    intro h
    obtain ⟨h1, h2⟩ := h x (List.mem_cons_self ..)
    obtain ⟨h3, h4⟩ := ih fun y hy => h y (List.mem_cons_of_mem _ hy)
    rw [List.flatMap_cons]
    refine ⟨bytes_app h1 h3, ?_⟩
    rw [List.length_append, List.length_cons, Nat.mul_succ]
    omega
theorem hexT_bytes (n : Int) : U.isBytes (hexT n) ∧ (hexT n).length ≤ 100 := by
  unfold hexT
  have q1 := hexD_byte (z := n % 16) (by omega) (by omega)
  have q2 := hexD_byte (z := n / 16 % 16) (by omega) (by omega)
  exact ⟨bytes_cons q2.1 q2.2 (bytes_cons q1.1 q1.2 (fun y hy => by cases hy)), by simp⟩
theorem showR_len {sh : Int → List Int} {r : Int × Int} (h1 : (sh r.1).length ≤ 100) (h2 : (sh r.2).length ≤ 100) : (showR sh r).length ≤ 201 := by
  unfold showR
  split
  · rw [List.length_append, List.length_cons]; omega
  · omega
structure TokA (w : World) (t : Tk) (a : Option Addr) (c : Nat) : Prop where
  hk : fits t.1
  hx : U.isBytes t.2.1
  hxl : t.2.1.length ≤ 3000
  hr : Rs w a t.2.2.length c t.2.2
  hrl : t.2.2.length ≤ 3000
def Enders (w : World) (sh : Int → List Int) (R : List (Int × Int)) : Prop := ∃ ok : Int → Prop, (∀ n, ok n → U.isBytes (sh n) ∧ (sh n).length ≤ 100) ∧ (∀ r ∈ R, ok r.1 ∧ ok r.2) ∧
  ∀ n, ok n → ∀ W, Below w.heap.size w W → Calls Tryz.prog 163 #[.int .i64 n] W fun e w' => e = .returned (.string (strOfNums (sh n))) ∧ Below W.heap.size W w'
theorem Enders.later {w w' : World} {sh : Int → List Int} {R : List (Int × Int)} (h : Enders w sh R) (b : Below w.heap.size w w') : Enders w' sh R := by
  obtain ⟨ok, h1, h2, h3⟩ := h
  exact ⟨ok, h1, h2, fun n hn W hW => h3 n hn W (b.trans (hW.mono b.size))⟩
theorem wr_bytes {w : World} {sh : Int → List Int} {t : Tk} (hx : U.isBytes t.2.1) (hxl : t.2.1.length ≤ 3000) (hrl : t.2.2.length ≤ 3000) (he : Enders w sh t.2.2) : U.isBytes (wrL sh t) ∧ (wrL sh t).length ≤ 1000000 := by
  obtain ⟨ok, h1, h2, -⟩ := he
  have one : ∀ c : Int, 0 ≤ c → c ≤ 255 → U.isBytes [c] := fun c a b => bytes_cons a b (fun z hz => by cases hz)
  have p1 := flat_bytes showP 4 t.2.1 (fun z hz => showP_bytes (hx z hz))
  have p2 := flat_bytes (showR sh) 201 t.2.2 (fun r hr => ⟨showR_bytes (h1 _ (h2 r hr).1).1 (h1 _ (h2 r hr).2).1, showR_len (h1 _ (h2 r hr).1).2 (h1 _ (h2 r hr).2).2⟩)
  have p3 := flat_bytes (showR hexT) 201 t.2.2 (fun r hr => ⟨showR_bytes (hexT_bytes _).1 (hexT_bytes _).1, showR_len (hexT_bytes _).2 (hexT_bytes _).2⟩)
  unfold wrL
  split
  · exact ⟨hx, by omega⟩
  · split
    · exact ⟨bytes_app (one 64 (by omega) (by omega)) hx, by simp; omega⟩
    · split
      · exact ⟨bytes_app (bytes_app (one 34 (by omega) (by omega)) p1.1) (one 34 (by omega) (by omega)), by rw [List.length_append, List.length_append]; simp only [List.length_cons, List.length_nil]; omega⟩
      · split
        · exact ⟨bytes_app (bytes_app (one 91 (by omega) (by omega)) p2.1) (one 93 (by omega) (by omega)), by rw [List.length_append, List.length_append]; simp only [List.length_cons, List.length_nil]; omega⟩
        · split
          · exact ⟨bytes_app (bytes_app (one 60 (by omega) (by omega)) p3.1) (one 62 (by omega) (by omega)), by rw [List.length_append, List.length_append]; simp only [List.length_cons, List.length_nil]; omega⟩
          · exact ⟨(fun z hz => by cases hz), by simp⟩
def tokAgg (t : Tk) (a : Option Addr) (c : Nat) (p : Int) : Array Value := #[.int .i64 t.1, .string (strOfNums t.2.1), .slice a t.2.2.length c, .int .i64 p]
set_option maxRecDepth 20000 in
set_option maxHeartbeats 8000000 in
theorem written_l (sh : Int → List Int) (t : Tk) (a : Option Addr) (c : Nat) (p : Int) (w : World) (h : TokA w t a c) (he : Enders w sh t.2.2) :
    Calls Tryz.prog 135 #[.agg (tokAgg t a c p)] w fun e w' => e = .returned (.string (strOfNums (wrL sh t))) ∧ Below w.heap.size w w' := by
  obtain ⟨k, x, R⟩ := t
  unfold tokAgg wrL
  have hk := h.hk
  have hx := h.hx
  have hxl := h.hxl
  have hr := h.hr
  have hrl := h.hrl
  simp only at hk hx hxl hr hrl he ⊢
  clear h
  unfold fits at hk
  have sx : St (strOfNums x) x := St.of hx
  have zx : (strOfNums x).size ≤ 3000 := by rw [strOfNums_size]; exact hxl
  obtain ⟨ok, h1, h2, h3⟩ := he
  have one : ∀ d : Int, 0 ≤ d → d ≤ 255 → St (strOfNums [d]) [d] := st1
  by_cases c0 : k = 0
  · subst c0
    rw [if_pos (.inl rfl)]
    generalize strOfNums x = S at *
    clear h3 hr sx
    go_enter Tryz.func135, Tryz.ntmps135
    go_wp2_with fail
    go_ret
    exact ⟨rfl, Below.new1 _⟩
  have d0 : (k == 0) = false := beq_eq_false_iff_ne.2 c0
  by_cases c4 : k = 4
  · subst c4
    rw [if_pos (.inr rfl)]
    generalize strOfNums x = S at *
    clear h3 hr sx
    go_enter Tryz.func135, Tryz.ntmps135
    go_wp2_with fail
    go_ret
    exact ⟨rfl, Below.new1 _⟩
  have d4 : (k == 4) = false := beq_eq_false_iff_ne.2 c4
  rw [if_neg (by omega)]
  by_cases c5 : k = 5
  · subst c5
    rw [if_pos rfl, ← (St.app (st1 64 (by omega) (by omega)) sx).1]
    have e64 : strOfNums [64] = ⟨#[64]⟩ := rfl
    rw [e64]
    generalize strOfNums x = S at *
    clear h3 hr sx e64
    go_enter Tryz.func135, Tryz.ntmps135
    go_wp2_with fail
    go_ret
    exact ⟨rfl, Below.new1 _⟩
  have d5 : (k == 5) = false := beq_eq_false_iff_ne.2 c5
  rw [if_neg c5]
  by_cases c1 : k = 1
  · subst c1
    have p1 := flat_bytes showP 4 x (fun z hz => showP_bytes (hx z hz))
    have C := hideR (fun W => litText_l _ x sx hxl W)
    have zl : (strOfNums (x.flatMap showP)).size ≤ 12000 := by rw [strOfNums_size]; omega
    rw [if_pos rfl, ← (St.app (St.app (st1 34 (by omega) (by omega)) (St.of p1.1)) (st1 34 (by omega) (by omega))).1]
    have e34 : strOfNums [34] = ⟨#[34]⟩ := rfl
    rw [e34]
    clear h3 hr sx e34 p1
    generalize strOfNums (x.flatMap showP) = L at *
    generalize strOfNums x = S at *
    go_enter Tryz.func135, Tryz.ntmps135
    go_wp2_with fail
    refine (unhideR C _).mono ?_
    rintro e w1 ⟨rfl, b1⟩
    clear C
    go_wp2_with fail
    go_ret
    exact ⟨rfl, bthen (Below.new1 _) b1⟩
  have d1 : (k == 1) = false := beq_eq_false_iff_ne.2 c1
  rw [if_neg c1]
  by_cases c2 : k = 2
  · subst c2
    have p2 := flat_bytes (showR sh) 201 R (fun r hr => ⟨showR_bytes (h1 _ (h2 r hr).1).1 (h1 _ (h2 r hr).2).1, showR_len (h1 _ (h2 r hr).1).2 (h1 _ (h2 r hr).2).2⟩)
    have C := hideR (fun (o : Obj) => itemsT_S sh ok h1 (w.alloc o) (fun n hn W hW => h3 n hn W ((Below.new1 o).trans (hW.mono (by simp)))) a R.length c R (Rs.later hr (Below.new1 o) (Nat.le_refl _)) hrl h2)
    have zl : (strOfNums (R.flatMap (showR sh))).size ≤ 603000 := by rw [strOfNums_size]; omega
    rw [if_pos rfl, ← (St.app (St.app (st1 91 (by omega) (by omega)) (St.of p2.1)) (st1 93 (by omega) (by omega))).1]
    have e34 : strOfNums [91] = ⟨#[91]⟩ := rfl
    have e35 : strOfNums [93] = ⟨#[93]⟩ := rfl
    rw [e34, e35]
    clear h3 hr sx e34 e35 p2
    generalize strOfNums (R.flatMap (showR sh)) = L at *
    generalize strOfNums x = S at *
    go_enter Tryz.func135, Tryz.ntmps135
    go_wp2_with fail
    refine (unhideR C _).mono ?_
    rintro e w1 ⟨rfl, b1⟩
    clear C
    go_wp2_with fail
    go_ret
    exact ⟨rfl, bthen (Below.new1 _) b1⟩
  have d2 : (k == 2) = false := beq_eq_false_iff_ne.2 c2
  rw [if_neg c2]
  by_cases c3 : k = 3
  · subst c3
    have p2 := flat_bytes (showR hexT) 201 R (fun r hr => ⟨showR_bytes (hexT_bytes _).1 (hexT_bytes _).1, showR_len (hexT_bytes _).2 (hexT_bytes _).2⟩)
    have hf := hr.hfit
    have C := hideR (fun (o : Obj) => itemsT_H hexT fits (fun n _ => hexT_bytes n) (w.alloc o) (fun n hn W hW => hexText_l n hn.1 hn.2 W) a R.length c R (Rs.later hr (Below.new1 o) (Nat.le_refl _)) hrl hf)
    have zl : (strOfNums (R.flatMap (showR hexT))).size ≤ 603000 := by rw [strOfNums_size]; omega
    rw [if_pos rfl, ← (St.app (St.app (st1 60 (by omega) (by omega)) (St.of p2.1)) (st1 62 (by omega) (by omega))).1]
    have e34 : strOfNums [60] = ⟨#[60]⟩ := rfl
    have e35 : strOfNums [62] = ⟨#[62]⟩ := rfl
    rw [e34, e35]
    clear h3 hr sx e34 e35 p2 hf
    generalize strOfNums (R.flatMap (showR hexT)) = L at *
    generalize strOfNums x = S at *
    go_enter Tryz.func135, Tryz.ntmps135
    go_wp2_with fail
    refine (unhideR C _).mono ?_
    rintro e w1 ⟨rfl, b1⟩
    clear C
    go_wp2_with fail
    go_ret
    exact ⟨rfl, bthen (Below.new1 _) b1⟩
  have d3 : (k == 3) = false := beq_eq_false_iff_ne.2 c3
  rw [if_neg c3]
  generalize strOfNums x = S at *
  clear h3 hr sx
  go_enter Tryz.func135, Tryz.ntmps135
  go_wp2_with fail
  go_ret
  exact ⟨rfl, Below.new1 _⟩

/-! ### Same -/
theorem str_eq_list {s u : ByteArray} {x y : List Int} (h : St s x) (k : St u y) : (s.toList == u.toList) = decide (x = y) := by
  have key : s.toList = u.toList ↔ x = y := by
    have h2 := st_list h y k.2
    have h3 := (st_list k y k.2).2 rfl
    rw [h3]
    exact h2
  by_cases e : x = y
  · rw [decide_eq_true e, beq_iff_eq]; exact key.2 e
  · rw [decide_eq_false e, beq_eq_false_iff_ne]; exact fun c => e (key.1 c)
set_option maxRecDepth 20000 in
set_option maxHeartbeats 8000000 in
theorem same_l (t u : Tk) (a b : Option Addr) (c d : Nat) (p q : Int) (w : World) (hk : fits t.1) (hx : U.isBytes t.2.1) (hr : Rs w a t.2.2.length c t.2.2) (hk2 : fits u.1) (hx2 : U.isBytes u.2.1) (hr2 : Rs w b u.2.2.length d u.2.2) :
    Calls Tryz.prog 160 #[.agg (tokAgg t a c p), .agg (tokAgg u b d q)] w fun e w' => e = .returned (.bool (decide (t = u))) ∧ Below w.heap.size w w' := by
  obtain ⟨k, x, R⟩ := t
  obtain ⟨k2, x2, R2⟩ := u
  unfold tokAgg
  simp only at *
  have se := str_eq_list (St.of hx) (St.of hx2)
  have B2 : ∀ o1 o2, Below w.heap.size w ((w.alloc o1).alloc o2) := fun o1 o2 => (Below.new1 o1).alloc (by simp) o2
  have C := hideR (fun o1 o2 => rgSame_any a R.length c R b R2.length d R2 ((w.alloc o1).alloc o2) (Rs.later hr (B2 o1 o2) (Nat.le_refl _)) (Rs.later hr2 (B2 o1 o2) (Nat.le_refl _)))
  have hs : sameB R R2 = decide (R = R2) := rfl
  rw [hs] at C
  clear hr hr2 hx hx2 hs
  by_cases e1 : k = k2
  · have t1 : (k == k2) = true := by rw [e1]; simp
    by_cases e2 : x = x2
    · rw [decide_eq_true e2] at se
      have fin : decide ((k, x, R) = (k2, x2, R2)) = decide (R = R2) := by simp [e1, e2]
      rw [fin]
      generalize decide (R = R2) = r at *
      generalize strOfNums x = S at *
      generalize strOfNums x2 = S2 at *
      clear fin e2
      go_enter Tryz.func160, Tryz.ntmps160
      go_wp2_with fail
      refine (unhideR C _ _).mono ?_
      rintro e w1 ⟨rfl, b1⟩
      clear C
      go_wp2_with fail
      go_ret
      exact ⟨rfl, (B2 _ _).trans (b1.mono (by simp; omega))⟩
    · rw [decide_eq_false e2] at se
      have fin : decide ((k, x, R) = (k2, x2, R2)) = false := by simp [e2]
      rw [fin]
      generalize strOfNums x = S at *
      generalize strOfNums x2 = S2 at *
      have se2 : ¬ S.toList = S2.toList := beq_eq_false_iff_ne.1 se
      clear fin e2
      go_enter Tryz.func160, Tryz.ntmps160
      go_wp2_with fail
      go_ret
      exact ⟨retB (by first | rfl | exact se | simp [se2] | simp [se]), B2 _ _⟩
  · have t1 : (k == k2) = false := beq_eq_false_iff_ne.2 e1
    have fin : decide ((k, x, R) = (k2, x2, R2)) = false := by simp [e1]
    rw [fin]
    generalize strOfNums x = S at *
    generalize strOfNums x2 = S2 at *
    clear fin e1 se
    go_enter Tryz.func160, Tryz.ntmps160
    go_wp2_with fail
    go_ret
    exact ⟨retB (by first | rfl | exact t1 | simp [t1]), B2 _ _⟩
end Go.Proofs.YtfcfcgeodghmpaaGreatDoor.T

namespace Go.Proofs.YtfcfcgeodghmpaaGreatDoor.T
open Go.RowKit
set_option linter.unusedVariables false
set_option linter.unusedSimpArgs false

theorem tkc_at {w : World} : ∀ (ts : List (Tk × Nat)) (cs : List Value) (i : Nat) (t : Tk) (p : Nat), TkC w ts cs → ts[i]? = some (t, p) → ∃ c0 c1 c2 c3, cs[4 * i]? = some c0 ∧ cs[4 * i + 1]? = some c1 ∧ cs[4 * i + 2]? = some c2 ∧ cs[4 * i + 3]? = some c3 ∧ TokV w (.agg #[c0, c1, c2, c3]) t p := by
  intro ts
  induction ts with
  | nil => intro cs i t p _ h; simp at h
  | cons x ts ih =>
    obtain ⟨t', p'⟩ := x
    intro cs i t p hc h
    obtain ⟨c0, c1, c2, c3, cs', rfl, hv, hr⟩ := hc
    cases i with
    | zero =>
      simp only [List.getElem?_cons_zero, Option.some.injEq, Prod.mk.injEq] at h
      obtain ⟨rfl, rfl⟩ := h
      exact ⟨c0, c1, c2, c3, rfl, rfl, rfl, rfl, hv⟩
    | succ i =>
      rw [List.getElem?_cons_succ] at h
      obtain ⟨d0, d1, d2, d3, e0, e1, e2, e3, hv'⟩ := ih cs' i t p hr h
      refine ⟨d0, d1, d2, d3, ?_, ?_, ?_, ?_, hv'⟩
      · rw [show 4 * (i + 1) = 4 * i + 4 by omega]; exact e0
      · rw [show 4 * (i + 1) + 1 = (4 * i + 1) + 4 by omega]; exact e1
      · rw [show 4 * (i + 1) + 2 = (4 * i + 2) + 4 by omega]; exact e2
      · rw [show 4 * (i + 1) + 3 = (4 * i + 3) + 4 by omega]; exact e3
theorem tks_at {w : World} {base : Nat} {v : Value} {ts : List (Tk × Nat)} (h : Tks w base v ts) {i : Nat} {t : Tk} {p : Nat} (hi : ts[i]? = some (t, p)) :
    ∃ g cap a c, v = .slice (some ⟨g, 0, none⟩) ts.length cap ∧ ts.length ≤ cap ∧ cap ≤ maxLen ∧ base ≤ g ∧ w.cell? ⟨g, 4 * i, none⟩ = some (.int .i64 t.1) ∧ w.cell? ⟨g, 4 * i + 1, none⟩ = some (.string (strOfNums t.2.1)) ∧ w.cell? ⟨g, 4 * i + 2, none⟩ = some (.slice a t.2.2.length c) ∧ w.cell? ⟨g, 4 * i + 3, none⟩ = some (.int .i64 (p : Int)) ∧ Rs w a t.2.2.length c t.2.2 := by
  obtain ⟨cs, ho, hc⟩ := h
  have hlt : i < ts.length := (List.getElem?_eq_some_iff.1 hi).1
  rcases ho.2 with ⟨_, h0⟩ | ⟨g, cap, cur, rfl, hb, hg, hn, hm, hs, ht⟩
  · omega
  · obtain ⟨c0, c1, c2, c3, e0, e1, e2, e3, a, c, ev, hr, -⟩ := tkc_at ts cs i t p hc hi
    injection ev with ev
    have key : ∀ (j : Nat) (u : Value), cs[j]? = some u → w.cell? ⟨g, j, none⟩ = some u := by
      intro j u hj
      have := World.ownsRow.cells ho (g := g) rfl j u hj
      rw [Addr.add_lit, Nat.zero_add] at this
      exact this
    have ev2 := congrArg Array.toList ev
    simp only [List.cons.injEq, and_true] at ev2
    obtain ⟨rfl, rfl, rfl, rfl⟩ := ev2
    exact ⟨g, cap, a, c, rfl, hn, hm, hb, key _ _ e0, key _ _ e1, key _ _ e2, key _ _ e3, hr⟩
theorem ok_parts {t : Tk} (h : okT t) : fits t.1 ∧ U.isBytes t.2.1 := by
  have hb := (text_facts h).2.2
  obtain ⟨k, x, R⟩ := t
  unfold okT at h
  unfold textL at hb
  simp only at *
  rcases h with ⟨rfl, _⟩ | ⟨rfl, _⟩ | ⟨rfl, _⟩ | ⟨rfl, _, h, _⟩ | ⟨rfl, rfl, _⟩ | ⟨rfl, rfl, _⟩
  · exact ⟨by unfold fits; omega, hb⟩
  · exact ⟨by unfold fits; omega, U.isBytes_tail hb⟩
  · exact ⟨by unfold fits; omega, hb⟩
  · exact ⟨by unfold fits; omega, h⟩
  · exact ⟨by unfold fits; omega, fun z hz => by cases hz⟩
  · exact ⟨by unfold fits; omega, fun z hz => by cases hz⟩
theorem allL_ok {s : List Int} (hb : U.isBytes s) {ts : List (Tk × Nat)} (h : allL s = .inr ts) : ∀ p ∈ ts, okT p.1 := by
  by_cases c : s.length ≤ 3000
  · rw [allL_is c] at h
    exact all_ok _ _ _ _ _ hb (Nat.le_refl _) h
  · unfold allL at h
    rw [if_pos (by omega)] at h
    cases h
def oneB (t : Tk) : Sum (Nat × Int) (List (Tk × Nat)) → Bool
  | .inr [(u, _)] => decide (u = t)
  | _ => false
def mayW (sh : Int → List Int) (t : Tk) : Bool := oneB t (allL (wrL sh t))
theorem mayW_of {sh : Int → List Int} {t : Tk} {x : Sum (Nat × Int) (List (Tk × Nat))} (h : allL (wrL sh t) = x) : mayW sh t = oneB t x := by
  unfold mayW
  rw [h]
set_option maxRecDepth 20000 in
set_option maxHeartbeats 8000000 in
theorem may_l (sh : Int → List Int) (t : Tk) (a : Option Addr) (c : Nat) (p : Int) (w : World) (h : TokA w t a c) (he : Enders w sh t.2.2) :
    Calls Tryz.prog 134 #[.agg (tokAgg t a c p)] w fun e w' => e = .returned (.bool (mayW sh t)) ∧ Below w.heap.size w w' := by
  have hxl := h.hxl
  have hrl := h.hrl
  have hcap := h.hr.hcap
  have zx : (strOfNums t.2.1).size ≤ 3000 := by rw [strOfNums_size]; exact hxl
  have wb := wr_bytes h.hx h.hxl h.hrl he
  have B1 : ∀ o, Below w.heap.size w (w.alloc o) := fun o => Below.new1 o
  have CW := hideR (fun o => written_l sh t a c p (w.alloc o) ⟨h.hk, h.hx, h.hxl, Rs.later h.hr (B1 o) (Nat.le_refl _), h.hrl⟩ (he.later (B1 o)))
  have CA := hideR (fun W => all_l _ _ (St.of wb.1) wb.2 W)
  have HA := hideR h
  have CS := hideR (fun (u : Tk) (b : Option Addr) (d : Nat) (q : Int) W (f1 : fits u.1) (f2 : U.isBytes u.2.1) (r1 : Rs W b u.2.2.length d u.2.2) (r2 : Rs W a t.2.2.length c t.2.2) => same_l u t b a d c q p W f1 f2 r1 (unhideR HA).hk (unhideR HA).hx r2)
  have HM := hideR (fun x (hx : allL (wrL sh t) = x) => mayW_of hx)
  generalize mayW sh t = M at *
  have HWB := hideR wb.1
  clear h he wb
  unfold tokAgg at *
  generalize hx : strOfNums t.2.1 = S at *
  generalize hWL : wrL sh t = WL at *
  go_enter Tryz.func134, Tryz.ntmps134
  go_wp2_with fail
  refine (unhideR CW _).mono ?_
  rintro e w1 ⟨rfl, b1⟩
  clear CW
  have HG := kept_new b1
  obtain ⟨q0, q1, q2, q3⟩ := (cells4 HG).1
  go_wp2_with fail
  refine (unhideR CA _).mono ?_
  rintro e w2 ⟨ar, b2⟩
  clear CA q0 q1 q2 q3 HG
  have B2 := bthen b1 b2
  have HG := kept_new B2
  obtain ⟨q0, q1, q2, q3⟩ := (cells4 HG).1
  rcases ar with ⟨pa, er, ea, rfl⟩ | ⟨ts, v, ea, rfl, tk⟩
  · have em := unhideR HM _ ea
    simp only [oneB] at em
    clear HM CS HA ea
    subst em
    go_wp2_with fail
    go_region
    go_wp2_with fail
    go_ret
    refine ⟨rfl, ?_⟩
    exact ((B1 _).trans (B2.mono (by simp))).trans draws_b
  · by_cases h1 : ts.length = 1
    · obtain ⟨⟨u, k⟩, rfl⟩ : ∃ x, ts = [x] := List.length_eq_one_iff.1 h1
      have em := unhideR HM _ ea
      simp only [oneB] at em
      obtain ⟨g, cap, b, d, rfl, g1, g2, g3, y0, y1, y2, y3, hr⟩ := tks_at tk (i := 0) rfl
      simp only [Nat.mul_zero, Nat.zero_add, List.length_singleton] at g1 y0 y1 y2 y3
      have fu : fits u.1 ∧ U.isBytes u.2.1 := ok_parts (allL_ok (unhideR HWB) ea (u, k) (List.mem_singleton.2 rfl))
      have rt : Rs w2 a t.2.2.length c t.2.2 := Rs.later (unhideR HA).hr ((B1 _).trans (B2.mono (by simp))) (Nat.le_refl _)
      have C1 := hideR (fun W (bW : Below w2.heap.size w2 W) => unhideR CS u b d (k : Int) W fu.1 fu.2 (Rs.later hr bW (Nat.le_refl _)) (Rs.later rt bW (Nat.le_refl _)))
      rw [← em] at C1
      clear HM CS HA ea em hr rt fu tk HWB
      generalize strOfNums u.2.1 = S2 at *
      go_wp2_with fail
      go_region_with (go_at_call 160; refine (unhideR C1 _ draws_b).mono ?_; rintro e w3 ⟨rfl, b3⟩)
      all_goals (go_wp2_with fail)
      all_goals go_ret
      all_goals exact ⟨rfl, (((B1 _).trans (B2.mono (by simp))).trans draws_b).trans (b3.mono (by have := B2.size; simp at this; show _ ≤ w2.heap.size; omega))⟩
    · have em := unhideR HM _ ea
      have em2 : M = false := by
        rw [em]
        match ts, h1 with
        | [], _ => rfl
        | [x], h => exact absurd rfl h
        | _ :: _ :: _, _ => rfl
      obtain ⟨cs, ho, -⟩ := tk
      obtain ⟨p7, c7, e7⟩ := own_form ho
      have t1 : ((ts.length : Int) == 1) = false := beq_eq_false_iff_ne.2 (by omega)
      clear HM CS HA ea em ho
      subst em2
      subst e7
      go_wp2_with fail
      go_region
      go_wp2_with fail
      go_ret
      refine ⟨rfl, ?_⟩
      exact ((B1 _).trans (B2.mono (by simp))).trans draws_b
end Go.Proofs.YtfcfcgeodghmpaaGreatDoor.T

/- Contracts of package token: Text; the chapter's example. -/
namespace Go.Proofs.YtfcfcgeodghmpaaGreatDoor.T
open Go.RowKit
set_option linter.unusedVariables false
set_option linter.unusedSimpArgs false

def txtW (sh : Int → List Int) (t : Tk) : List Int := if mayW sh t then wrL sh t else []
set_option maxRecDepth 20000 in
set_option maxHeartbeats 8000000 in
theorem text_l (sh : Int → List Int) (t : Tk) (a : Option Addr) (c : Nat) (p : Int) (w : World) (h : TokA w t a c) (he : Enders w sh t.2.2) :
    Calls Tryz.prog 96 #[.agg (tokAgg t a c p)] w fun e w' => e = .returned (.string (strOfNums (txtW sh t))) ∧ Below w.heap.size w w' := by
  have B1 : ∀ o, Below w.heap.size w (w.alloc o) := fun o => Below.new1 o
  have CM := hideR (fun o => may_l sh t a c p (w.alloc o) ⟨h.hk, h.hx, h.hxl, Rs.later h.hr (B1 o) (Nat.le_refl _), h.hrl⟩ (he.later (B1 o)))
  have CW := hideR (fun W (bW : Below w.heap.size w W) => written_l sh t a c p W ⟨h.hk, h.hx, h.hxl, Rs.later h.hr bW (Nat.le_refl _), h.hrl⟩ (he.later bW))
  unfold txtW tokAgg at *
  clear h he
  generalize strOfNums t.2.1 = S at *
  cases em : mayW sh t with
  | false =>
    rw [em] at CM
    rw [if_neg (by simp)]
    have e0 : strOfNums [] = ⟨#[]⟩ := rfl
    rw [e0]
    clear e0 em CW
    go_enter Tryz.func96, Tryz.ntmps96
    go_wp2_with fail
    refine (unhideR CM _).mono ?_
    rintro e w1 ⟨rfl, b1⟩
    clear CM
    go_wp2_with fail
    go_ret
    exact ⟨rfl, bthen (B1 _) b1⟩
  | true =>
    rw [em] at CM
    rw [if_pos rfl]
    generalize strOfNums (wrL sh t) = X at *
    clear em
    go_enter Tryz.func96, Tryz.ntmps96
    go_wp2_with fail
    refine (unhideR CM _).mono ?_
    rintro e w1 ⟨rfl, b1⟩
    clear CM
    obtain ⟨q0, q1, q2, q3⟩ := (cells4 (kept_new b1)).1
    go_wp2_with fail
    refine (unhideR CW _ (bthen (B1 _) b1)).mono ?_
    rintro e w2 ⟨rfl, b2⟩
    clear CW
    go_wp2_with fail
    go_ret
    exact ⟨rfl, bthen (bthen (B1 _) b1) b2⟩

/-! ### The example -/
end Go.Proofs.YtfcfcgeodghmpaaGreatDoor.T

