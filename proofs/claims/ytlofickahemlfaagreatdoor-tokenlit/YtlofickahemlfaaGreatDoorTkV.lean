/- Contracts of package token: Text; the chapter's example. -/
import Derived.Test.YtlofickahemlfaaGreatDoorTkU
namespace Go.Proofs.YtlofickahemlfaaGreatDoor.T
open Go.RowKit
set_option linter.unusedVariables false
set_option linter.unusedSimpArgs false

theorem ender_nil (w : World) (sh : Int → List Int) : Enders w sh [] := ⟨fun _ => False, (fun n h => h.elim), (fun r h => by cases h), (fun n h => h.elim)⟩
theorem ender_plain (w : World) (R : List (Int × Int)) (h : ∀ r ∈ R, plainB r.1 = true ∧ plainB r.2 = true) : Enders w (showO false) R := by
  have e : ∀ n, plainB n = true → showO false n = [n] := fun n hn => by unfold showO; simp [hn]
  refine ⟨fun n => plainB n = true, fun n hn => ?_, h, fun n hn W _ => ?_⟩
  · rw [e n hn]
    have : 32 ≤ n ∧ n ≤ 126 := by
      unfold plainB at hn
      simp at hn
      exact hn.1
    exact ⟨bytes_cons (by omega) (by omega) (fun z hz => by cases hz), by simp⟩
  · rw [e n hn]
    exact scalarT_plain n hn W
def txtW (sh : Int → List Int) (t : Tk) : List Int := if mayW sh t then wrL sh t else []
set_option maxRecDepth 20000 in
set_option maxHeartbeats 8000000 in
theorem text_l (sh : Int → List Int) (t : Tk) (a : Option Addr) (c : Nat) (p : Int) (w : World) (h : TokA w t a c) (he : Enders w sh t.2.2) :
    Calls Tryz.prog 16 #[.agg (tokAgg t a c p)] w fun e w' => e = .returned (.string (strOfNums (txtW sh t))) ∧ Below w.heap.size w w' := by
  have B1 : ∀ o, Below w.heap.size w (w.alloc o) := fun o => Below.new1 o
  have CM := hideR (fun o => may_l sh t a c p (w.alloc o) ⟨h.hk, h.hx, h.hxl, Rs.later h.hr (B1 o) (Nat.le_refl _), h.hrl⟩ (he.later (B1 o)))
  have CW := hideR (fun W (bW : Below w.heap.size w W) => written_l sh t a c p W ⟨h.hk, h.hx, h.hxl, Rs.later h.hr bW (Nat.le_refl _), h.hrl⟩ (he.later bW))
  unfold txtW tokAgg at *
  clear h he
  generalize strOfNums t.2.1 = S at *
  cases em : mayW sh t with
  | false =>
    rw [em] at CM
    rw [if_neg (by simp)]
    have e0 : strOfNums [] = ⟨#[]⟩ := rfl
    rw [e0]
    clear e0 em CW
    go_enter Tryz.func16, Tryz.ntmps16
    go_wp2_with fail
    refine (unhideR CM _).mono ?_
    rintro e w1 ⟨rfl, b1⟩
    clear CM
    go_wp2_with fail
    go_ret
    exact ⟨rfl, bthen (B1 _) b1⟩
  | true =>
    rw [em] at CM
    rw [if_pos rfl]
    generalize strOfNums (wrL sh t) = X at *
    clear em
    go_enter Tryz.func16, Tryz.ntmps16
    go_wp2_with fail
    refine (unhideR CM _).mono ?_
    rintro e w1 ⟨rfl, b1⟩
    clear CM
    obtain ⟨q0, q1, q2, q3⟩ := (cells4 (kept_new b1)).1
    go_wp2_with fail
    refine (unhideR CW _ (bthen (B1 _) b1)).mono ?_
    rintro e w2 ⟨rfl, b2⟩
    clear CW
    go_wp2_with fail
    go_ret
    exact ⟨rfl, bthen (bthen (B1 _) b1) b2⟩

/-! ### The example -/
def exL : List Int := [97, 32, 61, 32, 91, 97, 45, 99, 93, 59]
theorem st_ex : St ⟨#[97, 32, 61, 32, 91, 97, 45, 99, 93, 59]⟩ exL := ⟨rfl, by intro z hz; simp [exL] at hz; omega⟩
def exT : List (Tk × Nat) := [((0, [97], []), 0), ((4, [61], []), 2), ((2, [], [(97, 99)]), 4), ((4, [59], []), 9)]
theorem ex_all : allL exL = .inr exT := by kernel_rfl
theorem ex_may0 : mayW (showO false) (0, [97], []) = true := by decide +kernel
theorem ex_may2 : mayW (showO false) (2, [], [(97, 99)]) = true := by decide +kernel
theorem ex_txt : txtW (showO false) (2, [], [(97, 99)]) = [91, 97, 45, 99, 93] := by decide +kernel
set_option maxRecDepth 20000 in
set_option maxHeartbeats 8000000 in
theorem awake5_any (w : World) : Calls Tryz.prog 9 #[] w fun e w' => e = .returned (.bool true) ∧ Below w.heap.size w w' := by
  have CA := hideR (all_l _ exL st_ex (by decide) w)
  go_enter Tryz.func9, Tryz.ntmps9
  go_wp2_with fail
  refine (unhideR CA).mono ?_
  rintro e w2 ⟨ar, b2⟩
  clear CA
  rcases ar with ⟨pa, er, ea, rfl⟩ | ⟨ts, v, ea, rfl, tk⟩
  · rw [ex_all] at ea; cases ea
  · obtain rfl : ts = exT := by rw [ex_all] at ea; injection ea with ea; exact ea.symm
    obtain ⟨g, cap, a, c, rfl, g1, g2, g3, y0, y1, y2, y3, hr⟩ := tks_at tk (i := 2) (t := (2, [], [(97, 99)])) (p := 4) rfl
    obtain ⟨g', cap', a', c', eg, _, _, _, z0, z1, z2, z3, hr0⟩ := tks_at tk (i := 0) (t := (0, [97], [])) (p := 0) rfl
    injection eg with eg1 eg2 eg3
    injection eg1 with eg1
    injection eg1 with eg1
    subst eg1
    obtain ⟨rb, ro, rfl, hb⟩ := hr.open (by simp)
    obtain ⟨lo, hi, hd, -, -, -, x0, x1⟩ := hb.at 0 (by simp)
    simp only [List.drop_zero, List.cons.injEq, Prod.mk.injEq] at hd
    obtain ⟨⟨rfl, rfl⟩, -⟩ := hd
    have CT := hideR (text_l (showO false) (2, [], [(97, 99)]) (some ⟨rb, ro, none⟩) c 4 w2 ⟨by unfold fits; omega, (fun z hz => by cases hz), by simp, hr, by simp⟩ (ender_plain _ _ (fun r hr => by simp at hr; subst hr; decide)))
    have CM := hideR (fun W (bW : Below w2.heap.size w2 W) => may_l (showO false) (0, [97], []) a' c' 0 W ⟨by unfold fits; omega, (fun z hz => by simp at hz; omega), by simp, Rs.later hr0 bW (Nat.le_refl _), by simp⟩ (ender_nil _ _))
    rw [ex_txt] at CT
    rw [ex_may0] at CM
    unfold tokAgg at CT CM
    have e5 : strOfNums [91, 97, 45, 99, 93] = ⟨#[91, 97, 45, 99, 93]⟩ := rfl
    rw [e5] at CT
    have e6 : strOfNums [] = ⟨#[]⟩ := rfl
    have e7 : strOfNums [97] = ⟨#[97]⟩ := rfl
    simp only [exT, e6, e7, List.length_cons, List.length_nil, Nat.zero_add, Nat.reduceAdd, Nat.reduceMul, Nat.mul_zero, Nat.add_zero, Nat.zero_mul] at *
    have hgl := block_lt' y0
    clear tk hr hr0 hb ea e5 e6 e7
    go_wp2_with fail
    refine (unhideR CT).mono ?_
    rintro e w3 ⟨rfl, b3⟩
    clear CT y0 y1 y2 y3 x0 x1
    have v0 : w3.cell? ⟨g, 0, none⟩ = some (.int .i64 0) := by rw [b3.cell (p := ⟨g, 0, none⟩) hgl]; exact z0
    have v1 : w3.cell? ⟨g, 1, none⟩ = some (.string ⟨#[97]⟩) := by rw [b3.cell (p := ⟨g, 1, none⟩) hgl]; exact z1
    have v2 : w3.cell? ⟨g, 2, none⟩ = some (.slice a' 0 c') := by rw [b3.cell (p := ⟨g, 2, none⟩) hgl]; exact z2
    have v3 : w3.cell? ⟨g, 3, none⟩ = some (.int .i64 0) := by rw [b3.cell (p := ⟨g, 3, none⟩) hgl]; exact z3
    clear z0 z1 z2 z3
    go_wp2_with fail
    refine (unhideR CM _ b3).mono ?_
    rintro e w4 ⟨rfl, b4⟩
    clear CM
    go_wp2_with fail
    go_ret
    exact ⟨retB (by first | rfl | simp), bthen (bthen b2 b3) b4⟩
end Go.Proofs.YtlofickahemlfaaGreatDoor.T
