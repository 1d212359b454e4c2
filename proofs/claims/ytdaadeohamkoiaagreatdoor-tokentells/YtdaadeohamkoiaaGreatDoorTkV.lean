/- Contracts of package token: May, and Text. -/
import Derived.Test.YtdaadeohamkoiaaGreatDoorTkT
namespace Go.Proofs.YtdaadeohamkoiaaGreatDoor.T
open Go.RowKit
set_option linter.unusedVariables false
set_option linter.unusedSimpArgs false

theorem tkc_at {w : World} : ∀ (ts : List (Tk × Nat)) (cs : List Value) (i : Nat) (t : Tk) (p : Nat), TkC w ts cs → ts[i]? = some (t, p) → ∃ c0 c1 c2 c3, cs[4 * i]? = some c0 ∧ cs[4 * i + 1]? = some c1 ∧ cs[4 * i + 2]? = some c2 ∧ cs[4 * i + 3]? = some c3 ∧ TokV w (.agg #[c0, c1, c2, c3]) t p := by
  intro ts
  induction ts with
  | nil => intro cs i t p _ h; simp at h
  | cons x ts ih =>
    obtain ⟨t', p'⟩ := x
    intro cs i t p hc h
    obtain ⟨c0, c1, c2, c3, cs', rfl, hv, hr⟩ := hc
    cases i with
    | zero =>
      simp only [List.getElem?_cons_zero, Option.some.injEq, Prod.mk.injEq] at h
      obtain ⟨rfl, rfl⟩ := h
      exact ⟨c0, c1, c2, c3, rfl, rfl, rfl, rfl, hv⟩
    | succ i =>
      rw [List.getElem?_cons_succ] at h
      obtain ⟨d0, d1, d2, d3, e0, e1, e2, e3, hv'⟩ := ih cs' i t p hr h
      refine ⟨d0, d1, d2, d3, ?_, ?_, ?_, ?_, hv'⟩
      · rw [show 4 * (i + 1) = 4 * i + 4 by omega]; exact e0
      · rw [show 4 * (i + 1) + 1 = (4 * i + 1) + 4 by omega]; exact e1
      · rw [show 4 * (i + 1) + 2 = (4 * i + 2) + 4 by omega]; exact e2
      · rw [show 4 * (i + 1) + 3 = (4 * i + 3) + 4 by omega]; exact e3
/-- one of the tokens, with its cells -/
theorem tks_at {w : World} {base : Nat} {v : Value} {ts : List (Tk × Nat)} (h : Tks w base v ts) {i : Nat} {t : Tk} {p : Nat} (hi : ts[i]? = some (t, p)) :
    ∃ g cap a c, v = .slice (some ⟨g, 0, none⟩) ts.length cap ∧ ts.length ≤ cap ∧ cap ≤ maxLen ∧ base ≤ g ∧ w.cell? ⟨g, 4 * i, none⟩ = some (.int .i64 t.1) ∧ w.cell? ⟨g, 4 * i + 1, none⟩ = some (.string (strOfNums t.2.1)) ∧ w.cell? ⟨g, 4 * i + 2, none⟩ = some (.slice a t.2.2.length c) ∧ w.cell? ⟨g, 4 * i + 3, none⟩ = some (.int .i64 (p : Int)) ∧ Rs w a t.2.2.length c t.2.2 := by
  obtain ⟨cs, ho, hc⟩ := h
  have hlt : i < ts.length := (List.getElem?_eq_some_iff.1 hi).1
  rcases ho.2 with ⟨_, h0⟩ | ⟨g, cap, cur, rfl, hb, hg, hn, hm, hs, ht⟩
  · omega
  · obtain ⟨c0, c1, c2, c3, e0, e1, e2, e3, a, c, ev, hr, -⟩ := tkc_at ts cs i t p hc hi
    injection ev with ev
    have key : ∀ (j : Nat) (u : Value), cs[j]? = some u → w.cell? ⟨g, j, none⟩ = some u := by
      intro j u hj
      have := World.ownsRow.cells ho (g := g) rfl j u hj
      rw [Addr.add_lit, Nat.zero_add] at this
      exact this
    have ev2 := congrArg Array.toList ev
    simp only [List.cons.injEq, and_true] at ev2
    obtain ⟨rfl, rfl, rfl, rfl⟩ := ev2
    exact ⟨g, cap, a, c, rfl, hn, hm, hb, key _ _ e0, key _ _ e1, key _ _ e2, key _ _ e3, hr⟩
theorem ok_parts {t : Tk} (h : okT t) : fits t.1 ∧ U.isBytes t.2.1 := by
  have hb := (text_facts h).2.2
  obtain ⟨k, x, R⟩ := t
  unfold okT at h
  unfold textL at hb
  simp only at *
  rcases h with ⟨rfl, _⟩ | ⟨rfl, _⟩ | ⟨rfl, _⟩ | ⟨rfl, _, h, _⟩ | ⟨rfl, rfl, _⟩ | ⟨rfl, rfl, _⟩
  · exact ⟨by unfold fits; omega, hb⟩
  · exact ⟨by unfold fits; omega, U.isBytes_tail hb⟩
  · exact ⟨by unfold fits; omega, hb⟩
  · exact ⟨by unfold fits; omega, h⟩
  · exact ⟨by unfold fits; omega, fun z hz => by cases hz⟩
  · exact ⟨by unfold fits; omega, fun z hz => by cases hz⟩
theorem allL_ok {s : List Int} (hb : U.isBytes s) {ts : List (Tk × Nat)} (h : allL s = .inr ts) : ∀ p ∈ ts, okT p.1 := by
  by_cases c : s.length ≤ 3000
  · rw [allL_is c] at h
    exact all_ok _ _ _ _ _ hb (Nat.le_refl _) h
  · unfold allL at h
    rw [if_pos (by omega)] at h
    cases h
/-- is it just that token? -/
def oneB (t : Tk) : Sum (Nat × Int) (List (Tk × Nat)) → Bool
  | .inr [(u, _)] => decide (u = t)
  | _ => false
/-- what May tells: is just that token read from what is written? -/
def mayW (sh : Int → List Int) (t : Tk) : Bool := oneB t (allL (wrL sh t))
theorem mayW_of {sh : Int → List Int} {t : Tk} {x : Sum (Nat × Int) (List (Tk × Nat))} (h : allL (wrL sh t) = x) : mayW sh t = oneB t x := by
  unfold mayW
  rw [h]
set_option maxRecDepth 20000 in
set_option maxHeartbeats 8000000 in
theorem may_l (sh : Int → List Int) (t : Tk) (a : Option Addr) (c : Nat) (p : Int) (w : World) (h : TokA w t a c) (he : Enders w sh t.2.2) :
    Calls Tryz.prog 13 #[.agg (tokAgg t a c p)] w fun e w' => e = .returned (.bool (mayW sh t)) ∧ Below w.heap.size w w' := by
  have hxl := h.hxl
  have hrl := h.hrl
  have hcap := h.hr.hcap
  have zx : (strOfNums t.2.1).size ≤ 3000 := by rw [strOfNums_size]; exact hxl
  have wb := wr_bytes h.hx h.hxl h.hrl he
  have B1 : ∀ o, Below w.heap.size w (w.alloc o) := fun o => Below.new1 o
  have CW := hideR (fun o => written_l sh t a c p (w.alloc o) ⟨h.hk, h.hx, h.hxl, Rs.later h.hr (B1 o) (Nat.le_refl _), h.hrl⟩ (he.later (B1 o)))
  have CA := hideR (fun W => all_l _ _ (St.of wb.1) wb.2 W)
  have HA := hideR h
  have CS := hideR (fun (u : Tk) (b : Option Addr) (d : Nat) (q : Int) W (f1 : fits u.1) (f2 : U.isBytes u.2.1) (r1 : Rs W b u.2.2.length d u.2.2) (r2 : Rs W a t.2.2.length c t.2.2) => same_l u t b a d c q p W f1 f2 r1 (unhideR HA).hk (unhideR HA).hx r2)
  have HM := hideR (fun x (hx : allL (wrL sh t) = x) => mayW_of hx)
  generalize mayW sh t = M at *
  have HWB := hideR wb.1
  clear h he wb
  unfold tokAgg at *
  generalize hx : strOfNums t.2.1 = S at *
  generalize hWL : wrL sh t = WL at *
  go_enter Tryz.func13, Tryz.ntmps13
  go_wp2_with fail
  refine (unhideR CW _).mono ?_
  rintro e w1 ⟨rfl, b1⟩
  clear CW
  have HG := kept_new b1
  obtain ⟨q0, q1, q2, q3⟩ := (cells4 HG).1
  go_wp2_with fail
  refine (unhideR CA _).mono ?_
  rintro e w2 ⟨ar, b2⟩
  clear CA q0 q1 q2 q3 HG
  have B2 := bthen b1 b2
  have HG := kept_new B2
  obtain ⟨q0, q1, q2, q3⟩ := (cells4 HG).1
  rcases ar with ⟨pa, er, ea, rfl⟩ | ⟨ts, v, ea, rfl, tk⟩
  · have em := unhideR HM _ ea
    simp only [oneB] at em
    clear HM CS HA ea
    subst em
    go_wp2_with fail
    go_region
    go_wp2_with fail
    go_ret
    refine ⟨rfl, ?_⟩
    exact ((B1 _).trans (B2.mono (by simp))).trans draws_b
  · by_cases h1 : ts.length = 1
    · obtain ⟨⟨u, k⟩, rfl⟩ : ∃ x, ts = [x] := List.length_eq_one_iff.1 h1
      have em := unhideR HM _ ea
      simp only [oneB] at em
      obtain ⟨g, cap, b, d, rfl, g1, g2, g3, y0, y1, y2, y3, hr⟩ := tks_at tk (i := 0) rfl
      simp only [Nat.mul_zero, Nat.zero_add, List.length_singleton] at g1 y0 y1 y2 y3
      have fu : fits u.1 ∧ U.isBytes u.2.1 := ok_parts (allL_ok (unhideR HWB) ea (u, k) (List.mem_singleton.2 rfl))
      have rt : Rs w2 a t.2.2.length c t.2.2 := Rs.later (unhideR HA).hr ((B1 _).trans (B2.mono (by simp))) (Nat.le_refl _)
      have C1 := hideR (fun W (bW : Below w2.heap.size w2 W) => unhideR CS u b d (k : Int) W fu.1 fu.2 (Rs.later hr bW (Nat.le_refl _)) (Rs.later rt bW (Nat.le_refl _)))
      rw [← em] at C1
      clear HM CS HA ea em hr rt fu tk HWB
      generalize strOfNums u.2.1 = S2 at *
      go_wp2_with fail
      go_region_with (go_at_call 16; refine (unhideR C1 _ draws_b).mono ?_; rintro e w3 ⟨rfl, b3⟩)
      all_goals (go_wp2_with fail)
      all_goals go_ret
      all_goals exact ⟨rfl, (((B1 _).trans (B2.mono (by simp))).trans draws_b).trans (b3.mono (by have := B2.size; simp at this; show _ ≤ w2.heap.size; omega))⟩
    · have em := unhideR HM _ ea
      have em2 : M = false := by
        rw [em]
        match ts, h1 with
        | [], _ => rfl
        | [x], h => exact absurd rfl h
        | _ :: _ :: _, _ => rfl
      obtain ⟨cs, ho, -⟩ := tk
      obtain ⟨p7, c7, e7⟩ := own_form ho
      have t1 : ((ts.length : Int) == 1) = false := beq_eq_false_iff_ne.2 (by omega)
      clear HM CS HA ea em ho
      subst em2
      subst e7
      go_wp2_with fail
      go_region
      go_wp2_with fail
      go_ret
      refine ⟨rfl, ?_⟩
      exact ((B1 _).trans (B2.mono (by simp))).trans draws_b
end Go.Proofs.YtdaadeohamkoiaaGreatDoor.T

/- Contracts of package token: Text; the chapter's example. -/
namespace Go.Proofs.YtdaadeohamkoiaaGreatDoor.T
open Go.RowKit
set_option linter.unusedVariables false
set_option linter.unusedSimpArgs false

theorem ender_nil (w : World) (sh : Int → List Int) : Enders w sh [] := ⟨fun _ => False, (fun n h => h.elim), (fun r h => by cases h), (fun n h => h.elim)⟩
theorem ender_plain (w : World) (R : List (Int × Int)) (h : ∀ r ∈ R, plainB r.1 = true ∧ plainB r.2 = true) : Enders w (showO false) R := by
  have e : ∀ n, plainB n = true → showO false n = [n] := fun n hn => by unfold showO; simp [hn]
  refine ⟨fun n => plainB n = true, fun n hn => ?_, h, fun n hn W _ => ?_⟩
  · rw [e n hn]
    have : 32 ≤ n ∧ n ≤ 126 := by
      unfold plainB at hn
      simp at hn
      exact hn.1
    exact ⟨bytes_cons (by omega) (by omega) (fun z hz => by cases hz), by simp⟩
  · rw [e n hn]
    exact scalarT_plain n hn W
def txtW (sh : Int → List Int) (t : Tk) : List Int := if mayW sh t then wrL sh t else []
set_option maxRecDepth 20000 in
set_option maxHeartbeats 8000000 in
theorem text_l (sh : Int → List Int) (t : Tk) (a : Option Addr) (c : Nat) (p : Int) (w : World) (h : TokA w t a c) (he : Enders w sh t.2.2) :
    Calls Tryz.prog 14 #[.agg (tokAgg t a c p)] w fun e w' => e = .returned (.string (strOfNums (txtW sh t))) ∧ Below w.heap.size w w' := by
  have B1 : ∀ o, Below w.heap.size w (w.alloc o) := fun o => Below.new1 o
  have CM := hideR (fun o => may_l sh t a c p (w.alloc o) ⟨h.hk, h.hx, h.hxl, Rs.later h.hr (B1 o) (Nat.le_refl _), h.hrl⟩ (he.later (B1 o)))
  have CW := hideR (fun W (bW : Below w.heap.size w W) => written_l sh t a c p W ⟨h.hk, h.hx, h.hxl, Rs.later h.hr bW (Nat.le_refl _), h.hrl⟩ (he.later bW))
  unfold txtW tokAgg at *
  clear h he
  generalize strOfNums t.2.1 = S at *
  cases em : mayW sh t with
  | false =>
    rw [em] at CM
    rw [if_neg (by simp)]
    have e0 : strOfNums [] = ⟨#[]⟩ := rfl
    rw [e0]
    clear e0 em CW
    go_enter Tryz.func14, Tryz.ntmps14
    go_wp2_with fail
    refine (unhideR CM _).mono ?_
    rintro e w1 ⟨rfl, b1⟩
    clear CM
    go_wp2_with fail
    go_ret
    exact ⟨rfl, bthen (B1 _) b1⟩
  | true =>
    rw [em] at CM
    rw [if_pos rfl]
    generalize strOfNums (wrL sh t) = X at *
    clear em
    go_enter Tryz.func14, Tryz.ntmps14
    go_wp2_with fail
    refine (unhideR CM _).mono ?_
    rintro e w1 ⟨rfl, b1⟩
    clear CM
    obtain ⟨q0, q1, q2, q3⟩ := (cells4 (kept_new b1)).1
    go_wp2_with fail
    refine (unhideR CW _ (bthen (B1 _) b1)).mono ?_
    rintro e w2 ⟨rfl, b2⟩
    clear CW
    go_wp2_with fail
    go_ret
    exact ⟨rfl, bthen (bthen (B1 _) b1) b2⟩

/-! ### The example -/
def exL : List Int := [97, 32, 61, 32, 91, 97, 45, 99, 93, 59]
theorem st_ex : St ⟨#[97, 32, 61, 32, 91, 97, 45, 99, 93, 59]⟩ exL := ⟨rfl, by intro z hz; simp [exL] at hz; omega⟩
def exT : List (Tk × Nat) := [((0, [97], []), 0), ((4, [61], []), 2), ((2, [], [(97, 99)]), 4), ((4, [59], []), 9)]
theorem ex_all : allL exL = .inr exT := by kernel_rfl
theorem ex_may0 : mayW (showO false) (0, [97], []) = true := by decide +kernel
theorem ex_may2 : mayW (showO false) (2, [], [(97, 99)]) = true := by decide +kernel
theorem ex_txt : txtW (showO false) (2, [], [(97, 99)]) = [91, 97, 45, 99, 93] := by decide +kernel
set_option maxRecDepth 20000 in
set_option maxHeartbeats 8000000 in
theorem awake5_any (w : World) : Calls Tryz.prog 7 #[] w fun e w' => e = .returned (.bool true) ∧ Below w.heap.size w w' := by
  have CA := hideR (all_l _ exL st_ex (by decide) w)
  go_enter Tryz.func7, Tryz.ntmps7
  go_wp2_with fail
  refine (unhideR CA).mono ?_
  rintro e w2 ⟨ar, b2⟩
  clear CA
  rcases ar with ⟨pa, er, ea, rfl⟩ | ⟨ts, v, ea, rfl, tk⟩
  · rw [ex_all] at ea; cases ea
  · obtain rfl : ts = exT := by rw [ex_all] at ea; injection ea with ea; exact ea.symm
    obtain ⟨g, cap, a, c, rfl, g1, g2, g3, y0, y1, y2, y3, hr⟩ := tks_at tk (i := 2) (t := (2, [], [(97, 99)])) (p := 4) rfl
    obtain ⟨g', cap', a', c', eg, _, _, _, z0, z1, z2, z3, hr0⟩ := tks_at tk (i := 0) (t := (0, [97], [])) (p := 0) rfl
    injection eg with eg1 eg2 eg3
    injection eg1 with eg1
    injection eg1 with eg1
    subst eg1
    obtain ⟨rb, ro, rfl, hb⟩ := hr.open (by simp)
    obtain ⟨lo, hi, hd, -, -, -, x0, x1⟩ := hb.at 0 (by simp)
    simp only [List.drop_zero, List.cons.injEq, Prod.mk.injEq] at hd
    obtain ⟨⟨rfl, rfl⟩, -⟩ := hd
    have CT := hideR (text_l (showO false) (2, [], [(97, 99)]) (some ⟨rb, ro, none⟩) c 4 w2 ⟨by unfold fits; omega, (fun z hz => by cases hz), by simp, hr, by simp⟩ (ender_plain _ _ (fun r hr => by simp at hr; subst hr; decide)))
    have CM := hideR (fun W (bW : Below w2.heap.size w2 W) => may_l (showO false) (0, [97], []) a' c' 0 W ⟨by unfold fits; omega, (fun z hz => by simp at hz; omega), by simp, Rs.later hr0 bW (Nat.le_refl _), by simp⟩ (ender_nil _ _))
    rw [ex_txt] at CT
    rw [ex_may0] at CM
    unfold tokAgg at CT CM
    have e5 : strOfNums [91, 97, 45, 99, 93] = ⟨#[91, 97, 45, 99, 93]⟩ := rfl
    rw [e5] at CT
    have e6 : strOfNums [] = ⟨#[]⟩ := rfl
    have e7 : strOfNums [97] = ⟨#[97]⟩ := rfl
    simp only [exT, e6, e7, List.length_cons, List.length_nil, Nat.zero_add, Nat.reduceAdd, Nat.reduceMul, Nat.mul_zero, Nat.add_zero, Nat.zero_mul] at *
    have hgl := block_lt' y0
    clear tk hr hr0 hb ea e5 e6 e7
    go_wp2_with fail
    refine (unhideR CT).mono ?_
    rintro e w3 ⟨rfl, b3⟩
    clear CT y0 y1 y2 y3 x0 x1
    have v0 : w3.cell? ⟨g, 0, none⟩ = some (.int .i64 0) := by rw [b3.cell (p := ⟨g, 0, none⟩) hgl]; exact z0
    have v1 : w3.cell? ⟨g, 1, none⟩ = some (.string ⟨#[97]⟩) := by rw [b3.cell (p := ⟨g, 1, none⟩) hgl]; exact z1
    have v2 : w3.cell? ⟨g, 2, none⟩ = some (.slice a' 0 c') := by rw [b3.cell (p := ⟨g, 2, none⟩) hgl]; exact z2
    have v3 : w3.cell? ⟨g, 3, none⟩ = some (.int .i64 0) := by rw [b3.cell (p := ⟨g, 3, none⟩) hgl]; exact z3
    clear z0 z1 z2 z3
    go_wp2_with fail
    refine (unhideR CM _ b3).mono ?_
    rintro e w4 ⟨rfl, b4⟩
    clear CM
    go_wp2_with fail
    go_ret
    exact ⟨retB (by first | rfl | simp), bthen (bthen b2 b3) b4⟩
end Go.Proofs.YtdaadeohamkoiaaGreatDoor.T
