/- The contract of the document's way to tell ranges in order: border by border. -/
import Derived.Test.YtejipaapbfjooaaDoorRgRef
import Derived.Deep.AppendLies
namespace Go.Proofs.YtejipaapbfjooaaDoor
open Go.RowKit
set_option linter.unusedVariables false

/-- what is told of the numbers below n -/
structure OI (p : Int → Bool) (n : Int) (out : List (Int × Int)) : Prop where
  may : G.mayB out = true
  has : ∀ m, G.hasB out m = (decide (0 ≤ m) && decide (m < n) && p m)
  last : ∀ o x y, out = o ++ [(x, y)] → y ≤ n - 1

theorem OI.skip {p : Int → Bool} {n next : Int} {out : List (Int × Int)} (h : OI p n out) (hn : n < next) (hf : ∀ m, n ≤ m → m < next → p m = p n) (hp : p n = false) : OI p next out := by
  refine ⟨h.may, fun m => ?_, fun o x y e => by have := h.last o x y e; omega⟩
  rw [h.has]
  by_cases c1 : m < n
  · simp [c1, show m < next by omega]
  · by_cases c2 : m < next
    · rw [hf m (by omega) c2, hp]; simp
    · simp [c1, c2]

theorem OI.wide {p : Int → Bool} {n next z : Int} {o : List (Int × Int)} {x y : Int} (hz : z = next - 1) (h : OI p n (o ++ [(x, y)])) (hy : y = n - 1) (h0 : 0 ≤ n) (hn : n < next) (h1 : next ≤ 1114112) (hf : ∀ m, n ≤ m → m < next → p m = p n) (hp : p n = true) : OI p next (o ++ [(x, z)]) := by
  subst hy
  subst hz
  have hm := h.may
  rw [G.may_snoc] at hm
  simp only at hm
  refine ⟨by rw [G.may_snoc]; simp only; exact ⟨hm.1, hm.2.1, by omega, by omega⟩, fun m => ?_, fun o' x' y' e => ?_⟩
  · have k := h.has m
    rw [G.hasB_append, G.hasB_one] at k
    rw [G.hasB_append, G.hasB_one]
    by_cases c1 : m < n
    · have : decide (m ≤ next - 1) = decide (m ≤ n - 1) := by rw [decide_eq_true (show m ≤ next - 1 by omega), decide_eq_true (show m ≤ n - 1 by omega)]
      rw [this, k, decide_eq_true c1, decide_eq_true (show m < next by omega)]
    · have ko : G.hasB o m = false := by
        rw [decide_eq_false c1] at k
        simp at k
        exact k.1
      rw [ko, Bool.false_or]
      by_cases c2 : m < next
      · rw [hf m (by omega) c2, hp, decide_eq_true (show x ≤ m by omega), decide_eq_true (show m ≤ next - 1 by omega), decide_eq_true (show 0 ≤ m by omega), decide_eq_true c2]; rfl
      · rw [decide_eq_false (show ¬ m ≤ next - 1 by omega), decide_eq_false c2]; simp
  · have e' := List.append_inj_right' e (by simp)
    simp at e'; omega

theorem OI.app {p : Int → Bool} {n next z : Int} {out : List (Int × Int)} (hz : z = next - 1) (h : OI p n out) (hl : ∀ o x y, out = o ++ [(x, y)] → y ≠ n - 1) (h0 : 0 ≤ n) (hn : n < next) (h1 : next ≤ 1114112) (hf : ∀ m, n ≤ m → m < next → p m = p n) (hp : p n = true) : OI p next (out ++ [(n, z)]) := by
  subst hz
  have he : G.endOf 0 out ≤ n := by
    rcases List.eq_nil_or_concat out with e | ⟨o, ⟨x, y⟩, e⟩
    · rw [e]; exact h0
    · rw [List.concat_eq_append] at e
      have a := hl o x y e
      have b := h.last o x y e
      rw [e, G.endOf_append]; simp only; omega
  refine ⟨by rw [G.may_snoc]; exact ⟨h.may, he, by simp only; omega, by simp only; omega⟩, fun m => ?_, fun o' x' y' e => ?_⟩
  · rw [G.hasB_append, G.hasB_one, h.has]
    by_cases c1 : m < n
    · rw [decide_eq_true c1, decide_eq_false (show ¬ n ≤ m by omega), decide_eq_true (show m < next by omega)]; simp
    · rw [decide_eq_false c1]
      by_cases c2 : m < next
      · rw [hf m (by omega) c2, hp, decide_eq_true (show n ≤ m by omega), decide_eq_true (show m ≤ next - 1 by omega), decide_eq_true (show 0 ≤ m by omega), decide_eq_true c2]; rfl
      · rw [decide_eq_false (show ¬ m ≤ next - 1 by omega), decide_eq_false c2]; simp
  · have e' := List.append_inj_right' e (by simp)
    simp at e'; omega

theorem OI.done {p : Int → Bool} {n : Int} {out : List (Int × Int)} (h : OI p n out) (hn : n = 1114112) : G.Is out (fun m => G.dom m && p m) := by
  subst hn
  refine ⟨h.may, fun m => ?_⟩
  rw [h.has]
  unfold G.dom
  congr 2
  rw [Bool.eq_iff_iff]; simp only [decide_eq_true_eq]; omega

/-- what is asked, of a number -/
def ofP (how high : Int) (A B : List (Int × Int)) (n : Int) : Bool := isP how high (G.hasB A n) (G.hasB B n) n

theorem ofP_flat {how high : Int} {A B : List (Int × Int)} {n next : Int} (ha : ∀ m, n ≤ m → m < next → G.hasB A m = G.hasB A n) (hb : ∀ m, n ≤ m → m < next → G.hasB B m = G.hasB B n) (hh : n ≤ high → next ≤ high + 1) : ∀ m, n ≤ m → m < next → ofP how high A B m = ofP how high A B n := by
  intro m h1 h2
  unfold ofP isP
  rw [ha m h1 h2, hb m h1 h2]
  have : decide (m ≤ high) = decide (n ≤ high) := by
    by_cases c : n ≤ high
    · rw [decide_eq_true c, decide_eq_true (show m ≤ high by have := hh c; omega)]
    · rw [decide_eq_false c, decide_eq_false (show ¬ m ≤ high by omega)]
  rw [this]

theorem below_append1' {B : Nat} {w w1 : World} {o1 : Obj} {e : TypeId} {sz n : Nat} {v : Value} {xs : List Value} (h : w.ownsRow B e sz v n xs) (hB : B ≤ w.heap.size) (hg : (w.alloc o1).grownBy w1 v.ownBlock) : Below B w w1 :=
  ((Below.refl B w).alloc hB _).grown hg (by simp; omega) (fun k hk => (h.lt k hk).1)

set_option maxRecDepth 20000 in
set_option maxHeartbeats 4000000 in
theorem refOf_any (a : Option Addr) (la ca : Nat) (A : List (Int × Int)) (b : Option Addr) (lb cb : Nat) (B : List (Int × Int)) (how high : Int) (w : World) (ha : Rs w a la ca A) (hb : Rs w b lb cb B) (hh : fits high) :
    Calls Tryd.prog 50 #[.slice a la ca, .slice b lb cb, .int .i64 how, .int .i64 high] w (An w fun n => G.dom n && ofP how high A B n) := by
  obtain ⟨i0, hi0, hz0, hz1, hz2⟩ := info_parts infoRg
  unfold fits at hh
  obtain ⟨hh0, hh1⟩ := hh
  obtain ⟨p, hpe⟩ : ∃ p, p = ofP how high A B := ⟨_, rfl⟩
  have hpe' := hideR hpe
  have goal : Hid (∀ e w', An w (fun n => G.dom n && p n) e w' → An w (fun n => G.dom n && ofP how high A B n) e w') := by intro e w' hx; rw [← hpe]; exact hx
  refine Calls.mono (R := An w fun n => G.dom n && p n) ?_ (unhideR goal)
  clear goal hpe
  go_enter Tryd.func50, Tryd.ntmps50
  go_wp2
  go_loopw [9, 10] (fun v i wr => ∃ (n : Int) (out : List (Int × Int)), 0 ≤ n ∧ n ≤ 1114112 ∧ i = .int .i64 n ∧ Hid (OI p n out) ∧ out.length ≤ 557057 ∧ wr.ownsRow w.heap.size 41 2 v out.length (cellsL out) ∧ Below w.heap.size w wr) (fun _ i _ => (1114112 - intOf i).toNat)
  case atStart => exact ⟨0, [], by omega, by omega, rfl, ⟨rfl, fun m => by by_cases c : 0 ≤ m <;> simp [G.hasB, c]; omega, fun o x y e => by simp at e⟩, by simp, World.ownsRow_nil _ _ _ _, Below.refl _ _⟩
  case round =>
    obtain ⟨n, out, n0, n1, rfl, hoi, hol, hown, hbl⟩ := hrel
    by_cases hlt : n ≤ 1114111
    · have RA := ha.later hbl (Nat.le_refl _)
      have RB := hb.later hbl (Nat.le_refl _)
      have C1 := hideR (refBorder_any a la ca A n 1114112 wr RA n0 (by omega) (by omega))
      have C2 := hideR (fun r (h1 : n < r) (h2 : r ≤ 1114112) => refBorder_any b lb cb B n r wr RB n0 h1 h2)
      have C3 := hideR (refIs_any a la ca A b lb cb B how high n wr RA RB)
      have e3 : isP how high (G.hasB A n) (G.hasB B n) n = p n := by rw [unhideR hpe']; rfl
      rw [e3] at C3
      clear RA RB e3
      go_wp2_with fail
      refine (unhideR C1).mono ?_
      rintro e w' ⟨⟨r1, rfl, r1a, r1b, r1c⟩, hw⟩
      obtain rfl : wr = w' := hw.symm
      have R1 := hideR r1c
      clear r1c C1
      go_wp2_with fail
      refine (unhideR C2 r1 r1a r1b).mono ?_
      rintro e w' ⟨⟨r2, rfl, r2a, r2b, r2c⟩, hw⟩
      obtain rfl : wr = w' := hw.symm
      have R2 := hideR r2c
      clear r2c C2
      have key : (n ≤ high ∧ high < r2 - 1) ∨ (n ≤ high ∧ r2 - 1 ≤ high) ∨ high < n := by omega
      rcases key with ⟨x1, x2⟩ | ⟨x1, x2⟩ | x1
      · have FL : Hid (∀ m, n ≤ m → m < (high + 1) → p m = p n) := by
          have := ofP_flat (how := how) (high := high) (next := (high + 1)) (fun m m1 m2 => unhideR R1 m m1 (by omega)) (fun m m1 m2 => unhideR R2 m m1 (by omega)) (by omega)
          rw [unhideR hpe']; exact this
        cases hpn : p n with
        | false =>
          rw [hpn] at C3
          have st := hideR ((unhideR hoi).skip (next := (high + 1)) (by omega) (unhideR FL) hpn)
          obtain ⟨va, vc, hv⟩ := own_form hown
          subst hv
          clear hpn FL hoi R1 R2
          go_wp2_with fail
          refine (unhideR C3).mono ?_
          rintro e w' ⟨rfl, hw⟩
          obtain rfl : wr = w' := hw.symm
          go_wp2_with fail
          go_roundw
          case rel => exact ⟨(high + 1), out, by omega, by omega, rfl, unhideR st, hol, hown, hbl⟩
          case measure => simp [intOf]; omega
        | true =>
          rw [hpn] at C3
          rcases List.eq_nil_or_concat out with ho | ⟨o, ⟨x, y⟩, ho⟩
          · subst ho
            have st := hideR (OI.app (next := (high + 1)) (z := high) (by omega) (unhideR hoi) (fun o x y e => by simp at e) n0 (by omega) (by omega) (unhideR FL) hpn)
            have ln := G.may_length (unhideR st).may
            rw [List.length_append] at ln
            obtain ⟨va, vc, hv⟩ := own_form hown
            subst hv
            simp only [List.length_nil] at hown
            clear hpn FL hoi R1 R2
            go_wp2_with fail
            refine (unhideR C3).mono ?_
            rintro e w' ⟨rfl, hw⟩
            obtain rfl : wr = w' := hw.symm
            go_wp2_with (at_builtin; refine wpList_append_lies _ rfl _ _ 22 rfl w.heap.size 41 i0 _ 2 16 Tryd.underlying22 hi0 hz0 hz1 hz2 rfl (by omega) _ _ _ rfl (hown.alloc _) ⟨wr.heap.size, 0, none⟩ 1 1 [.int .i64 n, .int .i64 high] rfl rfl (new_cells _ _ _ _ rfl) (by simp [Value.oneCell']) (by omega) (by unfold maxLen; omega) (by omega) (by have := hbl.size; simp; omega) (wr.heap.size + 1) (by simp) ?_; intro gg cap1 w3 hown3 hgrow hat hlt1)
            go_roundw
            case rel => exact ⟨(high + 1), [] ++ [(n, high)], by omega, by omega, rfl, unhideR st, by simp, hown3, hbl.trans (below_append1' hown hbl.size hgrow)⟩
            case measure => simp [intOf]; omega
          · rw [List.concat_eq_append] at ho
            subst ho
            obtain ⟨g, vc, hv⟩ := ownsRow_succ (k := o.length) (by simpa using hown)
            subst hv
            rw [List.length_append] at hown hol
            simp only [List.length_cons, List.length_nil, Nat.zero_add] at hown hol
            have ym := G.may_mem (unhideR hoi).may (r := (x, y)) (by simp)
            simp only at ym
            obtain ⟨ym0, ym1, ym2⟩ := ym
            have u1 := hown.cellAt (o.length * 2 + 1) (by omega)
            have u2 := hown.frozenAt (o.length * 2 + 1)
            rw [cellsL_append, List.getElem?_append_right (by rw [cellsL_length]; omega), cellsL_length, show o.length * 2 + 1 - o.length * 2 = 1 by omega, show (cellsL [(x, y)])[1]? = some (.int .i64 y) from rfl] at u1
            have gb := (hown.lt g rfl).1
            by_cases hy : y = n - 1
            · have st := hideR (OI.wide (next := (high + 1)) (z := high) (by omega) (unhideR hoi) hy n0 (by omega) (by omega) (unhideR FL) hpn)
              have q1 : (y == n - 1) = true := by rw [beq_iff_eq]; exact hy
              obtain ⟨o3, g3⟩ := hown.stored (o.length * 2 + 1) (.int .i64 high)
              rw [cellsL_set2] at o3
              have O3 := hideR o3
              clear hpn FL hoi R1 R2 hy o3 g3
              go_wp2_with fail
              refine (unhideR C3).mono ?_
              rintro e w' ⟨rfl, hw⟩
              obtain rfl : wr = w' := hw.symm
              go_wp2_with fail
              go_roundw
              case rel => exact ⟨(high + 1), o ++ [(x, high)], by omega, by omega, rfl, unhideR st, by simpa using hol, by rw [List.length_append]; exact unhideR O3, hbl.setCell (by simp; omega) _⟩
              case measure => simp [intOf]; omega
            · have st := hideR (OI.app (next := (high + 1)) (z := high) (by omega) (unhideR hoi) (fun o' x' y' e => by have e' := List.append_inj_right' e (by simp); simp at e'; omega) n0 (by omega) (by omega) (unhideR FL) hpn)
              have ln := G.may_length (unhideR st).may
              rw [List.length_append, List.length_append] at ln
              simp only [List.length_cons, List.length_nil, Nat.zero_add] at ln
              have q1 : (y == n - 1) = false := by rw [beq_eq_false_iff_ne]; exact hy
              clear hpn FL hoi R1 R2 hy
              go_wp2_with fail
              refine (unhideR C3).mono ?_
              rintro e w' ⟨rfl, hw⟩
              obtain rfl : wr = w' := hw.symm
              go_wp2_with (at_builtin; refine wpList_append_lies _ rfl _ _ 22 rfl w.heap.size 41 i0 _ 2 16 Tryd.underlying22 hi0 hz0 hz1 hz2 rfl (by omega) _ _ _ rfl (hown.alloc _) ⟨wr.heap.size, 0, none⟩ 1 1 [.int .i64 n, .int .i64 high] rfl rfl (new_cells _ _ _ _ rfl) (by simp [Value.oneCell']) (by omega) (by unfold maxLen; omega) (by omega) (by have := hbl.size; simp; omega) (wr.heap.size + 1) (by simp) ?_; intro gg cap1 w3 hown3 hgrow hat hlt1)
              go_roundw
              case rel => exact ⟨(high + 1), o ++ [(x, y)] ++ [(n, high)], by omega, by omega, rfl, unhideR st, by simp; omega, by rw [cellsL_append (o ++ [(x, y)]), List.length_append, List.length_append]; exact hown3, hbl.trans (below_append1' hown hbl.size hgrow)⟩
              case measure => simp [intOf]; omega
      · have FL : Hid (∀ m, n ≤ m → m < r2 → p m = p n) := by
          have := ofP_flat (how := how) (high := high) (next := r2) (fun m m1 m2 => unhideR R1 m m1 (by omega)) (fun m m1 m2 => unhideR R2 m m1 (by omega)) (by omega)
          rw [unhideR hpe']; exact this
        cases hpn : p n with
        | false =>
          rw [hpn] at C3
          have st := hideR ((unhideR hoi).skip (next := r2) (by omega) (unhideR FL) hpn)
          obtain ⟨va, vc, hv⟩ := own_form hown
          subst hv
          clear hpn FL hoi R1 R2
          go_wp2_with fail
          refine (unhideR C3).mono ?_
          rintro e w' ⟨rfl, hw⟩
          obtain rfl : wr = w' := hw.symm
          go_wp2_with fail
          go_roundw
          case rel => exact ⟨r2, out, by omega, by omega, rfl, unhideR st, hol, hown, hbl⟩
          case measure => simp [intOf]; omega
        | true =>
          rw [hpn] at C3
          rcases List.eq_nil_or_concat out with ho | ⟨o, ⟨x, y⟩, ho⟩
          · subst ho
            have st := hideR (OI.app (next := r2) (z := (r2 - 1)) (by omega) (unhideR hoi) (fun o x y e => by simp at e) n0 (by omega) (by omega) (unhideR FL) hpn)
            have ln := G.may_length (unhideR st).may
            rw [List.length_append] at ln
            obtain ⟨va, vc, hv⟩ := own_form hown
            subst hv
            simp only [List.length_nil] at hown
            clear hpn FL hoi R1 R2
            go_wp2_with fail
            refine (unhideR C3).mono ?_
            rintro e w' ⟨rfl, hw⟩
            obtain rfl : wr = w' := hw.symm
            go_wp2_with (at_builtin; refine wpList_append_lies _ rfl _ _ 22 rfl w.heap.size 41 i0 _ 2 16 Tryd.underlying22 hi0 hz0 hz1 hz2 rfl (by omega) _ _ _ rfl (hown.alloc _) ⟨wr.heap.size, 0, none⟩ 1 1 [.int .i64 n, .int .i64 (r2 - 1)] rfl rfl (new_cells _ _ _ _ rfl) (by simp [Value.oneCell']) (by omega) (by unfold maxLen; omega) (by omega) (by have := hbl.size; simp; omega) (wr.heap.size + 1) (by simp) ?_; intro gg cap1 w3 hown3 hgrow hat hlt1)
            go_roundw
            case rel => exact ⟨r2, [] ++ [(n, (r2 - 1))], by omega, by omega, rfl, unhideR st, by simp, hown3, hbl.trans (below_append1' hown hbl.size hgrow)⟩
            case measure => simp [intOf]; omega
          · rw [List.concat_eq_append] at ho
            subst ho
            obtain ⟨g, vc, hv⟩ := ownsRow_succ (k := o.length) (by simpa using hown)
            subst hv
            rw [List.length_append] at hown hol
            simp only [List.length_cons, List.length_nil, Nat.zero_add] at hown hol
            have ym := G.may_mem (unhideR hoi).may (r := (x, y)) (by simp)
            simp only at ym
            obtain ⟨ym0, ym1, ym2⟩ := ym
            have u1 := hown.cellAt (o.length * 2 + 1) (by omega)
            have u2 := hown.frozenAt (o.length * 2 + 1)
            rw [cellsL_append, List.getElem?_append_right (by rw [cellsL_length]; omega), cellsL_length, show o.length * 2 + 1 - o.length * 2 = 1 by omega, show (cellsL [(x, y)])[1]? = some (.int .i64 y) from rfl] at u1
            have gb := (hown.lt g rfl).1
            by_cases hy : y = n - 1
            · have st := hideR (OI.wide (next := r2) (z := (r2 - 1)) (by omega) (unhideR hoi) hy n0 (by omega) (by omega) (unhideR FL) hpn)
              have q1 : (y == n - 1) = true := by rw [beq_iff_eq]; exact hy
              obtain ⟨o3, g3⟩ := hown.stored (o.length * 2 + 1) (.int .i64 (r2 - 1))
              rw [cellsL_set2] at o3
              have O3 := hideR o3
              clear hpn FL hoi R1 R2 hy o3 g3
              go_wp2_with fail
              refine (unhideR C3).mono ?_
              rintro e w' ⟨rfl, hw⟩
              obtain rfl : wr = w' := hw.symm
              go_wp2_with fail
              go_roundw
              case rel => exact ⟨r2, o ++ [(x, (r2 - 1))], by omega, by omega, rfl, unhideR st, by simpa using hol, by rw [List.length_append]; exact unhideR O3, hbl.setCell (by simp; omega) _⟩
              case measure => simp [intOf]; omega
            · have st := hideR (OI.app (next := r2) (z := (r2 - 1)) (by omega) (unhideR hoi) (fun o' x' y' e => by have e' := List.append_inj_right' e (by simp); simp at e'; omega) n0 (by omega) (by omega) (unhideR FL) hpn)
              have ln := G.may_length (unhideR st).may
              rw [List.length_append, List.length_append] at ln
              simp only [List.length_cons, List.length_nil, Nat.zero_add] at ln
              have q1 : (y == n - 1) = false := by rw [beq_eq_false_iff_ne]; exact hy
              clear hpn FL hoi R1 R2 hy
              go_wp2_with fail
              refine (unhideR C3).mono ?_
              rintro e w' ⟨rfl, hw⟩
              obtain rfl : wr = w' := hw.symm
              go_wp2_with (at_builtin; refine wpList_append_lies _ rfl _ _ 22 rfl w.heap.size 41 i0 _ 2 16 Tryd.underlying22 hi0 hz0 hz1 hz2 rfl (by omega) _ _ _ rfl (hown.alloc _) ⟨wr.heap.size, 0, none⟩ 1 1 [.int .i64 n, .int .i64 (r2 - 1)] rfl rfl (new_cells _ _ _ _ rfl) (by simp [Value.oneCell']) (by omega) (by unfold maxLen; omega) (by omega) (by have := hbl.size; simp; omega) (wr.heap.size + 1) (by simp) ?_; intro gg cap1 w3 hown3 hgrow hat hlt1)
              go_roundw
              case rel => exact ⟨r2, o ++ [(x, y)] ++ [(n, (r2 - 1))], by omega, by omega, rfl, unhideR st, by simp; omega, by rw [cellsL_append (o ++ [(x, y)]), List.length_append, List.length_append]; exact hown3, hbl.trans (below_append1' hown hbl.size hgrow)⟩
              case measure => simp [intOf]; omega
      · have FL : Hid (∀ m, n ≤ m → m < r2 → p m = p n) := by
          have := ofP_flat (how := how) (high := high) (next := r2) (fun m m1 m2 => unhideR R1 m m1 (by omega)) (fun m m1 m2 => unhideR R2 m m1 (by omega)) (by omega)
          rw [unhideR hpe']; exact this
        cases hpn : p n with
        | false =>
          rw [hpn] at C3
          have st := hideR ((unhideR hoi).skip (next := r2) (by omega) (unhideR FL) hpn)
          obtain ⟨va, vc, hv⟩ := own_form hown
          subst hv
          clear hpn FL hoi R1 R2
          go_wp2_with fail
          refine (unhideR C3).mono ?_
          rintro e w' ⟨rfl, hw⟩
          obtain rfl : wr = w' := hw.symm
          go_wp2_with fail
          go_roundw
          case rel => exact ⟨r2, out, by omega, by omega, rfl, unhideR st, hol, hown, hbl⟩
          case measure => simp [intOf]; omega
        | true =>
          rw [hpn] at C3
          rcases List.eq_nil_or_concat out with ho | ⟨o, ⟨x, y⟩, ho⟩
          · subst ho
            have st := hideR (OI.app (next := r2) (z := (r2 - 1)) (by omega) (unhideR hoi) (fun o x y e => by simp at e) n0 (by omega) (by omega) (unhideR FL) hpn)
            have ln := G.may_length (unhideR st).may
            rw [List.length_append] at ln
            obtain ⟨va, vc, hv⟩ := own_form hown
            subst hv
            simp only [List.length_nil] at hown
            clear hpn FL hoi R1 R2
            go_wp2_with fail
            refine (unhideR C3).mono ?_
            rintro e w' ⟨rfl, hw⟩
            obtain rfl : wr = w' := hw.symm
            go_wp2_with (at_builtin; refine wpList_append_lies _ rfl _ _ 22 rfl w.heap.size 41 i0 _ 2 16 Tryd.underlying22 hi0 hz0 hz1 hz2 rfl (by omega) _ _ _ rfl (hown.alloc _) ⟨wr.heap.size, 0, none⟩ 1 1 [.int .i64 n, .int .i64 (r2 - 1)] rfl rfl (new_cells _ _ _ _ rfl) (by simp [Value.oneCell']) (by omega) (by unfold maxLen; omega) (by omega) (by have := hbl.size; simp; omega) (wr.heap.size + 1) (by simp) ?_; intro gg cap1 w3 hown3 hgrow hat hlt1)
            go_roundw
            case rel => exact ⟨r2, [] ++ [(n, (r2 - 1))], by omega, by omega, rfl, unhideR st, by simp, hown3, hbl.trans (below_append1' hown hbl.size hgrow)⟩
            case measure => simp [intOf]; omega
          · rw [List.concat_eq_append] at ho
            subst ho
            obtain ⟨g, vc, hv⟩ := ownsRow_succ (k := o.length) (by simpa using hown)
            subst hv
            rw [List.length_append] at hown hol
            simp only [List.length_cons, List.length_nil, Nat.zero_add] at hown hol
            have ym := G.may_mem (unhideR hoi).may (r := (x, y)) (by simp)
            simp only at ym
            obtain ⟨ym0, ym1, ym2⟩ := ym
            have u1 := hown.cellAt (o.length * 2 + 1) (by omega)
            have u2 := hown.frozenAt (o.length * 2 + 1)
            rw [cellsL_append, List.getElem?_append_right (by rw [cellsL_length]; omega), cellsL_length, show o.length * 2 + 1 - o.length * 2 = 1 by omega, show (cellsL [(x, y)])[1]? = some (.int .i64 y) from rfl] at u1
            have gb := (hown.lt g rfl).1
            by_cases hy : y = n - 1
            · have st := hideR (OI.wide (next := r2) (z := (r2 - 1)) (by omega) (unhideR hoi) hy n0 (by omega) (by omega) (unhideR FL) hpn)
              have q1 : (y == n - 1) = true := by rw [beq_iff_eq]; exact hy
              obtain ⟨o3, g3⟩ := hown.stored (o.length * 2 + 1) (.int .i64 (r2 - 1))
              rw [cellsL_set2] at o3
              have O3 := hideR o3
              clear hpn FL hoi R1 R2 hy o3 g3
              go_wp2_with fail
              refine (unhideR C3).mono ?_
              rintro e w' ⟨rfl, hw⟩
              obtain rfl : wr = w' := hw.symm
              go_wp2_with fail
              go_roundw
              case rel => exact ⟨r2, o ++ [(x, (r2 - 1))], by omega, by omega, rfl, unhideR st, by simpa using hol, by rw [List.length_append]; exact unhideR O3, hbl.setCell (by simp; omega) _⟩
              case measure => simp [intOf]; omega
            · have st := hideR (OI.app (next := r2) (z := (r2 - 1)) (by omega) (unhideR hoi) (fun o' x' y' e => by have e' := List.append_inj_right' e (by simp); simp at e'; omega) n0 (by omega) (by omega) (unhideR FL) hpn)
              have ln := G.may_length (unhideR st).may
              rw [List.length_append, List.length_append] at ln
              simp only [List.length_cons, List.length_nil, Nat.zero_add] at ln
              have q1 : (y == n - 1) = false := by rw [beq_eq_false_iff_ne]; exact hy
              clear hpn FL hoi R1 R2 hy
              go_wp2_with fail
              refine (unhideR C3).mono ?_
              rintro e w' ⟨rfl, hw⟩
              obtain rfl : wr = w' := hw.symm
              go_wp2_with (at_builtin; refine wpList_append_lies _ rfl _ _ 22 rfl w.heap.size 41 i0 _ 2 16 Tryd.underlying22 hi0 hz0 hz1 hz2 rfl (by omega) _ _ _ rfl (hown.alloc _) ⟨wr.heap.size, 0, none⟩ 1 1 [.int .i64 n, .int .i64 (r2 - 1)] rfl rfl (new_cells _ _ _ _ rfl) (by simp [Value.oneCell']) (by omega) (by unfold maxLen; omega) (by omega) (by have := hbl.size; simp; omega) (wr.heap.size + 1) (by simp) ?_; intro gg cap1 w3 hown3 hgrow hat hlt1)
              go_roundw
              case rel => exact ⟨r2, o ++ [(x, y)] ++ [(n, (r2 - 1))], by omega, by omega, rfl, unhideR st, by simp; omega, by rw [cellsL_append (o ++ [(x, y)]), List.length_append, List.length_append]; exact hown3, hbl.trans (below_append1' hown hbl.size hgrow)⟩
              case measure => simp [intOf]; omega
    · have fin := hideR ((unhideR hoi).done (by omega))
      clear hoi
      go_wp2
      go_ret
      exact An.of hown (unhideR fin) hbl

end Go.Proofs.YtejipaapbfjooaaDoor
