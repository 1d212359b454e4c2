/- Contracts of package token: sets of bytes. -/
import Derived.Test.YtdaadeohamkoiaaGreatDoorTkI
import Derived.Test.YtdaadeohamkoiaaGreatDoorRgSets
namespace Go.Proofs.YtdaadeohamkoiaaGreatDoor.T
open Go.RowKit
set_option linter.unusedVariables false
set_option linter.unusedSimpArgs false

theorem sign_scalar {r : List Int} (hb : U.isBytes r) {x : Int} {k : Nat} (h : signL r = some (x, k)) : U.mayB x = true := by
  unfold signL at h
  split at h
  · cases h
  · next h0 =>
    split at h
    · split at h
      · cases h
      · next c =>
        simp only [Option.some.injEq] at h
        rcases U.next_cases hb with ⟨e, _⟩ | ⟨_, e⟩ | ⟨r', hm, e, _⟩
        · exact absurd e h0
        · rw [e] at c; exact absurd (show (-1 : Int) < 32 by omega) (fun z => c (.inl z))
        · rw [e] at h
          simp only [Prod.mk.injEq] at h
          rw [← h.1]; exact hm
    · split at h
      · cases h
      · split at h
        · cases h
        · next c =>
          simp only [Option.some.injEq, Prod.mk.injEq] at h
          rw [← h.1]
          cases e : U.mayB (digF 6 0 (List.drop 2 r)).1 with
          | true => rfl
          | false => exact absurd (Or.inr (Or.inl e)) c
theorem one_range {b : Bool} {r : List Int} (hb : U.isBytes r) {x : Int} {k : Nat} (h : oneL b r = some (x, k)) : 0 ≤ x ∧ x ≤ 1114111 := by
  cases b with
  | true => have := one_hex h; omega
  | false =>
    have := (U.may_iff x).1 (sign_scalar hb h)
    omega
theorem item_range {b : Bool} {r : List Int} (hb : U.isBytes r) {x : Int × Int} {n : Nat} (h : itemL b r = some (x, n)) : 0 ≤ x.1 ∧ x.1 ≤ x.2 ∧ x.2 ≤ 1114111 := by
  unfold itemL at h
  cases e : oneL b r with
  | none => rw [e] at h; cases h
  | some p =>
    obtain ⟨lo, k⟩ := p
    have r1 := one_range hb e
    rw [e] at h
    simp only at h
    split at h
    · cases e2 : oneL b (r.drop (k + 1)) with
      | none => rw [e2] at h; cases h
      | some q =>
        obtain ⟨to, m⟩ := q
        have r2 := one_range (U.isBytes_drop hb (k + 1)) e2
        rw [e2] at h
        simp only at h
        split at h
        · cases h
        · simp only [Option.some.injEq, Prod.mk.injEq] at h
          obtain ⟨rfl, rfl⟩ := h
          simp only
          omega
    · simp only [Option.some.injEq, Prod.mk.injEq] at h
      obtain ⟨rfl, rfl⟩ := h
      simp only
      omega
theorem items_fits (b : Bool) : ∀ (f : Nat) (r : List Int), U.isBytes r → r.length ≤ f → ∀ x ∈ (itemsG b r).1, fits x.1 ∧ fits x.2 := by
  intro f
  induction f with
  | zero =>
    intro r hb h
    have : r = [] := List.eq_nil_of_length_eq_zero (by omega)
    subst this
    rw [items_no (item_nil b)]
    intro x hx; cases hx
  | succ f ih =>
    intro r hb h
    cases e : itemL b r with
    | none => rw [items_no e]; intro x hx; cases hx
    | some p =>
      obtain ⟨x, n⟩ := p
      have hn := item_good b r x n hb e
      have hr := item_range hb e
      have := ih (r.drop n) (U.isBytes_drop hb n) (by rw [List.length_drop]; omega)
      rw [items_yes hb e]
      intro y hy
      rcases List.mem_cons.1 hy with rfl | hy
      · unfold fits; omega
      · exact this y hy
theorem stop_hex (r : List Int) (h : r.getD 0 0 = 62) : itemL true r = none := by
  have : hexI r = -1 := by
    unfold hexI
    rw [h, if_pos (.inl (by decide))]
  unfold itemL oneL
  simp [this]
theorem stop_cls (r : List Int) (h : r.getD 0 0 = 93) : itemL false r = none := by
  have h0 : r ≠ [] := by intro c; rw [c] at h; exact absurd h (by decide)
  have : signL r = none := by
    unfold signL
    rw [if_neg h0, if_pos (by rw [h]; omega)]
    have e : U.nextL r = (93, 1) := by
      unfold U.nextL
      rw [if_neg h0, h]
      have hl : 1 ≤ r.length := by cases r <;> simp_all
      have m1 : U.manyN 93 = 1 := by decide
      rw [m1, if_neg (by omega)]
      have e2 : U.readN 1 r = 93 := by
        show r.getD 0 0 = 93
        exact h
      rw [e2]
      rfl
    rw [e]
    rfl
  unfold itemL oneL
  simp [this]
theorem tok_octs {l : List Int} (hb : U.isBytes l) (h : l.getD 0 0 = 60) : tokL l = if (l.drop (1 + (itemsG true (l.drop 1)).2)).getD 0 0 = 62 then some ((3, [], normL (itemsG true (l.drop 1)).1), (itemsG true (l.drop 1)).2 + 2) else none := by
  unfold tokL
  rw [h, if_neg (by decide), if_neg (by omega), if_neg (by decide), if_neg (by omega), if_pos rfl, items_gather (by omega) stop_hex _ _ (U.isBytes_drop hb 1) (Nat.le_refl _), List.drop_drop]
  by_cases c : (List.drop (1 + (itemsG true (l.drop 1)).2) l).getD 0 0 = 62
  · rw [if_pos c, if_pos c]
  · rw [if_neg c, if_neg c]
theorem infoTok : (Tryz.prog.info? 24).map (·.size) = some 4 := by kernel_rfl
theorem cells4 {W : World} {g : Nat} {x0 x1 x2 x3 : Value} {t : TypeId} (h : W.heap[g]? = some (.cells #[x0, x1, x2, x3] t)) :
    (W.cell? ⟨g, 0, none⟩ = some x0 ∧ W.cell? ⟨g, 1, none⟩ = some x1 ∧ W.cell? ⟨g, 2, none⟩ = some x2 ∧ W.cell? ⟨g, 3, none⟩ = some x3) ∧
    (W.frozen? ⟨g, 0, none⟩ = false ∧ W.frozen? ⟨g, 1, none⟩ = false ∧ W.frozen? ⟨g, 2, none⟩ = false ∧ W.frozen? ⟨g, 3, none⟩ = false) := by
  refine ⟨⟨?_, ?_, ?_, ?_⟩, ?_, ?_, ?_, ?_⟩ <;> simp [World.cell?, World.frozen?, h]
theorem set4 {B : Nat} {a w : World} (h : Below B a w) {g : Nat} (hg : B ≤ g) (x0 x1 x2 x3 : Value) : Below B a ((((w.setCell ⟨g, 0, none⟩ x0).setCell ⟨g, 1, none⟩ x1).setCell ⟨g, 2, none⟩ x2).setCell ⟨g, 3, none⟩ x3) :=
  Below.setCell (Below.setCell (Below.setCell (Below.setCell h (show B ≤ (⟨g, 0, none⟩ : Addr).block from hg) _) (show B ≤ (⟨g, 1, none⟩ : Addr).block from hg) _) (show B ≤ (⟨g, 2, none⟩ : Addr).block from hg) _) (show B ≤ (⟨g, 3, none⟩ : Addr).block from hg) _
/-- ranges do not lie in a token's own cells, and so stay -/
theorem Rs.set4 {w : World} {a : Option Addr} {len cap : Nat} {l : List (Int × Int)} (h : Rs w a len cap l ∧ Ty w a) {g : Nat} {cs : Array Value} (hg : w.heap[g]? = some (.cells cs 24)) (x0 x1 x2 x3 : Value) :
    Rs ((((w.setCell ⟨g, 0, none⟩ x0).setCell ⟨g, 1, none⟩ x1).setCell ⟨g, 2, none⟩ x2).setCell ⟨g, 3, none⟩ x3) a len cap l ∧ Ty ((((w.setCell ⟨g, 0, none⟩ x0).setCell ⟨g, 1, none⟩ x1).setCell ⟨g, 2, none⟩ x2).setCell ⟨g, 3, none⟩ x3) a := by
  have hbg : ∀ b off, a = some ⟨b, off, none⟩ → b ≠ g := by
    intro b off e c
    subst c
    obtain ⟨cs', fr, hk⟩ := h.2 b off e
    rw [hg] at hk
    injection hk with hk
    injection hk with _ hk
    exact absurd hk (by decide)
  constructor
  · refine ⟨h.1.hlen, h.1.hcap, h.1.hmax, h.1.hfit, fun i hi => ?_⟩
    obtain ⟨b, off, ha, hc, hd⟩ := h.1.hcell i hi
    have ne : ∀ (k m : Nat), (⟨g, k, none⟩ : Addr) ≠ ⟨b, m, none⟩ := fun k m e => hbg b off ha (by injection e with e1; exact e1.symm)
    refine ⟨b, off, ha, ?_, ?_⟩
    · rw [World.cell?_setCell_other (h := ne _ _), World.cell?_setCell_other (h := ne _ _), World.cell?_setCell_other (h := ne _ _), World.cell?_setCell_other (h := ne _ _)]; exact hc
    · rw [World.cell?_setCell_other (h := ne _ _), World.cell?_setCell_other (h := ne _ _), World.cell?_setCell_other (h := ne _ _), World.cell?_setCell_other (h := ne _ _)]; exact hd
  · intro b off e
    obtain ⟨cs', fr, hk⟩ := h.2 b off e
    have hb := hbg b off e
    refine ⟨cs', fr, ?_⟩
    rw [Below.heap_setCell _ _ _ _ hb, Below.heap_setCell _ _ _ _ hb, Below.heap_setCell _ _ _ _ hb, Below.heap_setCell _ _ _ _ hb]
    exact hk
theorem own_ty {w : World} {base : Nat} {a : Option Addr} {n m cap : Nat} {xs : List Value} (h : w.ownsRow base 54 2 (.slice a n cap) m xs) : Ty w a := by
  intro b off e
  rcases h.2 with ⟨e0, _⟩ | ⟨g, cap', cur, e0, _, hg, _⟩
  · injection e0 with e1; rw [e] at e1; cases e1
  · injection e0 with e1
    rw [e] at e1
    injection e1 with e1
    injection e1 with e1
    subst e1
    exact ⟨_, _, hg⟩
/-- the answer, where it is known which numbers it has -/
theorem ano_is {w w' : World} {p : Int → Bool} {R : List (Int × Int)} (hR : G.Is R p) {e : Ending} (h : AnO w p e w') : ∃ a cap, e = .returned (.slice a R.length cap) ∧ (Rs w' a R.length cap R ∧ Ty w' a) ∧ Below w.heap.size w w' := by
  obtain ⟨v, out, he, ho, hi, hb⟩ := h
  have e1 : out = R := hi.unique hR (fun n => rfl)
  subst e1
  obtain ⟨a, cap, rfl, hr⟩ := Ow.rs ho (may_fits hi.1)
  exact ⟨a, cap, he, ⟨hr, own_ty ho⟩, hb⟩
theorem norm_o (a : Option Addr) (len cap : Nat) (l : List (Int × Int)) (w : World) (h : Rs w a len cap l) (hs : len ≤ 1000000) :
    Calls Tryz.prog 80 #[.slice a len cap] w (AnO w (inN l)) := (norm_any a len cap l w h hs).mono fun _ _ ⟨v, out, he, ho, hi, hb⟩ => ⟨v, out, he, ho, hi, hb⟩
theorem st_gt : St ⟨#[62]⟩ [62] := ⟨rfl, by intro z hz; simp at hz; omega⟩
def zTok : Obj := .cells #[.int .i64 0, .string ⟨#[]⟩, .slice none 0 0, .int .i64 0] 24
set_option maxRecDepth 20000 in
set_option maxHeartbeats 4000000 in
theorem octets_l (a : Option Addr) (len cap : Nat) (l : List Int) (w : World) (h : Bs w a len cap l) (hl : len ≤ 100000) (hp : 1 ≤ len) (h0 : l.getD 0 0 = 60) :
    Calls Tryz.prog 47 #[.slice a len cap] w fun e w' => ∃ v n, e = .returned (.tuple #[v, .int .i64 (n : Nat)]) ∧ TokO w' v n (tokL l) ∧ Below w.heap.size w w' := by
  rw [tok_octs h.hbytes h0]
  have hlen := h.hlen
  have hcap := h.hcap
  have il := items_len true _ _ (U.isBytes_drop h.hbytes 1) (Nat.le_refl _)
  have ft := hideR (items_fits true _ _ (U.isBytes_drop h.hbytes 1) (Nat.le_refl _))
  rw [List.length_drop] at il
  have sl := tail_run a len cap 1 1 rfl hp
  have HB := hideR (Bs.later h (Below.new1 zTok) (Nat.le_refl _))
  have CI := hideR (fun W (hB : Bs W a len cap l) => itemsH _ _ _ _ W (Bs.dropA hB 1 hp) (by omega))
  clear h h0
  generalize itemsG true (l.drop 1) = G at *
  obtain ⟨xs, n⟩ := G
  simp only at il ft CI ⊢
  have t1 := wrapI (1 + (n : Int)) (by omega)
  have t2 := wrapI (1 + (n : Int) + 1) (by omega)
  have sl2 := tail_run a len cap (1 + n) (1 + (n : Int)) (by omega) (by omega)
  have CB := hideR (fun W (hB : Bs W a len cap l) => begins_l _ _ _ _ W (Bs.dropA hB (1 + n) (by omega)) ⟨#[62]⟩ [62] st_gt (by simp))
  rw [pre1_eq (by omega)] at CB
  have CR := hideR (fun W x c (hR : Rs W x xs.length c xs) => norm_o x xs.length c xs W hR (by omega))
  unfold zTok at HB
  by_cases c : (l.drop (1 + n)).getD 0 0 = 62
  · rw [if_pos c]
    rw [decide_eq_true c] at CB
    clear c
    go_enter Tryz.func47, Tryz.ntmps47
    go_wp2_with fail
    refine (unhideR CI _ (unhideR HB)).mono ?_
    rintro e w1 ⟨v, rfl, o1, b1⟩
    obtain ⟨x, cx, rfl, hR⟩ := Ow.rs o1 (unhideR ft)
    have HB1 := hideR (Bs.later (unhideR HB) b1 (Nat.le_refl _))
    have HR := hideR hR
    clear CI HB hR o1 ft
    go_wp2_with fail
    refine (unhideR CB _ (unhideR HB1)).mono ?_
    rintro e w2 ⟨rfl, b2⟩
    have HR2 := hideR (Rs.later (unhideR HR) b2 (Nat.le_refl _))
    clear CB HR HB1
    go_wp2_with fail
    refine (unhideR CR _ _ _ (unhideR HR2)).mono ?_
    intro e w3 an
    obtain ⟨y, cy, rfl, hN, b3⟩ := ano_is (norm_is xs) an
    have HN := hideR hN
    clear CR HR2 an hN
    have B3 := bthen (bthen b1 b2) b3
    have HG := kept_new B3
    obtain ⟨⟨q0, q1, q2, q3⟩, f0, f1, f2, f3⟩ := cells4 HG
    go_wp2_with fail
    (try simp only [Exit.inBlock, Exit.then])
    refine bodyPost_ret (v := .tuple #[.agg #[.int .i64 3, .string ⟨#[]⟩, .slice y (normL xs).length cy, .int .i64 0], .int .i64 ((n + 2 : Nat) : Int)]) ?_ rfl ⟨_, _, rfl, .inr ⟨_, rfl, y, cy, rfl, Rs.set4 (unhideR HN) HG _ _ _ _⟩, ?_⟩
    · rw [results_cell_tmp rfl]
      go_simp
      omega
    · exact set4 ((Below.new1 _).trans (B3.mono (by simp))) (Nat.le_refl _) _ _ _ _
  · rw [if_neg c]
    rw [decide_eq_false c] at CB
    clear c
    go_enter Tryz.func47, Tryz.ntmps47
    go_wp2_with fail
    refine (unhideR CI _ (unhideR HB)).mono ?_
    rintro e w1 ⟨v, rfl, o1, b1⟩
    have HB1 := hideR (Bs.later (unhideR HB) b1 (Nat.le_refl _))
    clear CI HB o1 ft
    go_wp2_with fail
    refine (unhideR CB _ (unhideR HB1)).mono ?_
    rintro e w2 ⟨rfl, b2⟩
    clear CB HB1 CR
    have B3 := bthen b1 b2
    have HG := kept_new B3
    obtain ⟨⟨q0, q1, q2, q3⟩, f0, f1, f2, f3⟩ := cells4 HG
    go_wp2_with fail
    (try simp only [Exit.inBlock, Exit.then])
    refine bodyPost_ret (v := .tuple #[zeroTok, .int .i64 (0 : Nat)]) ?_ rfl ⟨_, _, rfl, .inl ⟨rfl, rfl, rfl⟩, ?_⟩
    · rw [results_cell_tmp rfl]
      go_simp
      try rfl
    · exact set4 ((Below.new1 _).trans (B3.mono (by simp))) (Nat.le_refl _) _ _ _ _
end Go.Proofs.YtdaadeohamkoiaaGreatDoor.T
