/- Parts of the proof of NullJoin that stand ahead of it (33: RdAtoms, RdNew, RdAll, RdDone, FlOf, FlMayG, FlAny, NlText9, FlAwake). -/
import Derived.Test.YtamefbpdnblbdaaGreatDoorNullJoinM32
import Derived.Defers
import Derived.Recover
import Derived.Test.YtamefbpdnblbdaaGreatDoorNullJoinM30
import Derived.Deep.QuietTactic
import Derived.BigQuiet
namespace Go.Proofs.YtamefbpdnblbdaaGreatDoor.R
open Go.RowKit Go.Proofs.YtamefbpdnblbdaaGreatDoor.T
set_option linter.unusedVariables false
set_option linter.unusedSimpArgs false

def fF (l2 l4 l6 l8 l10 : Bool) (k : Int) (x : List Int) : Option Nat :=
  if (k, x) = (0, []) then (if l2 then some 83 else none) else if (k, x) = (1, []) then (if l4 then some 84 else none) else if (k, x) = (2, []) then (if l6 then some 85 else none)
  else if (k, x) = (3, []) then (if l8 then some 86 else none) else if (k, x) = (4, [40]) then (if l10 then some 88 else none) else none
theorem fF_all : fF true true true true true = atomFn := by funext k x; rfl
theorem fF_none (k : Int) (x : List Int) : fF false false false false false k x = none := by
  unfold fF; repeat' split
  all_goals first | rfl | contradiction
theorem fF_call (l4 l6 l8 l10 : Bool) : fF false l4 l6 l8 l10 0 [] = none ∧ ∀ k2 x2, fF true l4 l6 l8 l10 k2 x2 = if (k2, x2) = (0, []) then some 83 else fF false l4 l6 l8 l10 k2 x2 := by
  constructor
  · unfold fF; simp
  · intro k2 x2
    unfold fF
    by_cases c : (k2, x2) = (0, [])
    · rw [if_pos c]
      have e1 : k2 = 0 := by injection c
      have e2 : x2 = [] := by injection c
      subst e1; subst e2
      simp
    · rw [if_neg c]
      by_cases h : k2 = 0 ∧ x2 = []
      · exact absurd (by rw [h.1, h.2]) c
      · simp [h]
theorem fF_text (l2 l6 l8 l10 : Bool) : fF l2 false l6 l8 l10 1 [] = none ∧ ∀ k2 x2, fF l2 true l6 l8 l10 k2 x2 = if (k2, x2) = (1, []) then some 84 else fF l2 false l6 l8 l10 k2 x2 := by
  constructor
  · unfold fF; simp
  · intro k2 x2
    unfold fF
    by_cases c : (k2, x2) = (1, [])
    · rw [if_pos c]
      have e1 : k2 = 1 := by injection c
      have e2 : x2 = [] := by injection c
      subst e1; subst e2
      simp
    · rw [if_neg c]
      by_cases h : k2 = 1 ∧ x2 = []
      · exact absurd (by rw [h.1, h.2]) c
      · simp [h]
theorem fF_set (l2 l4 l8 l10 : Bool) : fF l2 l4 false l8 l10 2 [] = none ∧ ∀ k2 x2, fF l2 l4 true l8 l10 k2 x2 = if (k2, x2) = (2, []) then some 85 else fF l2 l4 false l8 l10 k2 x2 := by
  constructor
  · unfold fF; simp
  · intro k2 x2
    unfold fF
    by_cases c : (k2, x2) = (2, [])
    · rw [if_pos c]
      have e1 : k2 = 2 := by injection c
      have e2 : x2 = [] := by injection c
      subst e1; subst e2
      simp
    · rw [if_neg c]
      by_cases h : k2 = 2 ∧ x2 = []
      · exact absurd (by rw [h.1, h.2]) c
      · simp [h]
theorem fF_octets (l2 l4 l6 l10 : Bool) : fF l2 l4 l6 false l10 3 [] = none ∧ ∀ k2 x2, fF l2 l4 l6 true l10 k2 x2 = if (k2, x2) = (3, []) then some 86 else fF l2 l4 l6 false l10 k2 x2 := by
  constructor
  · unfold fF; simp
  · intro k2 x2
    unfold fF
    by_cases c : (k2, x2) = (3, [])
    · rw [if_pos c]
      have e1 : k2 = 3 := by injection c
      have e2 : x2 = [] := by injection c
      subst e1; subst e2
      simp
    · rw [if_neg c]
      by_cases h : k2 = 3 ∧ x2 = []
      · exact absurd (by rw [h.1, h.2]) c
      · simp [h]
theorem fF_group (l2 l4 l6 l8 : Bool) : fF l2 l4 l6 l8 false 4 [40] = none ∧ ∀ k2 x2, fF l2 l4 l6 l8 true k2 x2 = if (k2, x2) = (4, [40]) then some 88 else fF l2 l4 l6 l8 false k2 x2 := by
  constructor
  · unfold fF; simp
  · intro k2 x2
    unfold fF
    by_cases c : (k2, x2) = (4, [40])
    · rw [if_pos c]
      have e1 : k2 = 4 := by injection c
      have e2 : x2 = [40] := by injection c
      subst e1; subst e2
      simp
    · rw [if_neg c]
      by_cases h : k2 = 4 ∧ x2 = [40]
      · exact absurd (by rw [h.1, h.2]) c
      · simp [h]
structure AtI (w0 : World) (t0 t1 t6 t7 : Value) (l0 l2 l4 l6 l8 l9 l10 l11 l12 : Bool) (w : World) : Prop where
  be : Below w0.heap.size w0 w
  mp : l0 = true → ∃ mm, t1 = .map (some mm) ∧ w0.heap.size ≤ mm ∧ Mf w mm (fF l2 l4 l6 l8 l10)
  no : l0 = false → l2 = false ∧ l4 = false ∧ l6 = false ∧ l8 = false ∧ l10 = false ∧ l11 = false
  sg : l9 = true → t6 = .agg #[.int .i64 4, .string ⟨#[40]⟩]
  mv : l11 = true → t7 = t1 ∧ l0 = true ∧ l2 = true ∧ l4 = true ∧ l6 = true ∧ l8 = true ∧ l10 = true
  fi : l12 = true → l11 = true ∧ t0 = t7
set_option maxRecDepth 20000 in
set_option maxHeartbeats 8000000 in
theorem atoms_l (w0 : World) :
    Calls Tryz.prog 47 #[] w0 fun e w' => ∃ m, e = .returned (.map (some m)) ∧ w0.heap.size ≤ m ∧ Mq w' m ∧ Below w0.heap.size w0 w' := by
  have hmm := @run_makeMap Tryz.prog
  go_enter Tryz.func47, Tryz.ntmps47
  go_wp2_with fail
  refine wp_region_any (by kernel_rfl) ?_
  refine wpAny_take (i := 1) (v := ?_) rfl (by kernel_rfl) (by kernel_rfl) (by kernel_rfl) (fun _ _ _ h => h) (Or.inl ⟨by kernel_rfl, ?_⟩) ?_
  rotate_left
  · intro w; go_simp; (try with_reducible rfl)
  try simp only [Act.put, List.getElem_toArray, List.getElem_cons_succ, List.getElem_cons_zero, List.setIfInBounds_toArray, List.set_cons_zero, List.set_cons_succ]
  refine wpAny_take (i := 3) (v := ?_) rfl (by kernel_rfl) (by kernel_rfl) (by kernel_rfl) (fun _ _ _ h => h) (Or.inl ⟨by kernel_rfl, ?_⟩) ?_
  rotate_left
  · intro w; go_simp; (try with_reducible rfl)
  try simp only [Act.put, List.getElem_toArray, List.getElem_cons_succ, List.getElem_cons_zero, List.setIfInBounds_toArray, List.set_cons_zero, List.set_cons_succ]
  refine wpAny_take (i := 5) (v := ?_) rfl (by kernel_rfl) (by kernel_rfl) (by kernel_rfl) (fun _ _ _ h => h) (Or.inl ⟨by kernel_rfl, ?_⟩) ?_
  rotate_left
  · intro w; go_simp; (try with_reducible rfl)
  try simp only [Act.put, List.getElem_toArray, List.getElem_cons_succ, List.getElem_cons_zero, List.setIfInBounds_toArray, List.set_cons_zero, List.set_cons_succ]
  refine wpAny_take (i := 7) (v := ?_) rfl (by kernel_rfl) (by kernel_rfl) (by kernel_rfl) (fun _ _ _ h => h) (Or.inl ⟨by kernel_rfl, ?_⟩) ?_
  rotate_left
  · intro w; go_simp; (try with_reducible rfl)
  try simp only [Act.put, List.getElem_toArray, List.getElem_cons_succ, List.getElem_cons_zero, List.setIfInBounds_toArray, List.set_cons_zero, List.set_cons_succ]
  refine wpAny_inv (fun listed a w => ∃ t0 t1 t6 t7 l0 l2 l4 l6 l8 l9 l10 l11 l12, listed = #[l0, true, l2, true, l4, true, l6, true, l8, l9, l10, l11, l12] ∧ a = { tmps := #[t0, t1, .agg #[.int .i64 0, .string ⟨#[]⟩], .agg #[.int .i64 1, .string ⟨#[]⟩], .agg #[.int .i64 2, .string ⟨#[]⟩], .agg #[.int .i64 3, .string ⟨#[]⟩], t6, t7], defers := [] } ∧ AtI w0 t0 t1 t6 t7 l0 l2 l4 l6 l8 l9 l10 l11 l12 w) ?_ ?_ _ _ _ _ (by decide) ⟨_, _, _, _, false, false, false, false, false, false, false, false, false, by kernel_rfl, rfl, ⟨draws_b (k := 1), (fun h => by cases h), (fun _ => ⟨rfl, rfl, rfl, rfl, rfl, rfl⟩), (fun h => by cases h), (fun h => by cases h), (fun h => by cases h)⟩⟩
  · rintro listed a w i ⟨t0, t1, t6, t7, l0, l2, l4, l6, l8, l9, l10, l11, l12, rfl, rfl, hI⟩ hi
    have hi2 := List.mem_filter.1 hi
    clear hi
    obtain ⟨hr, hc⟩ := hi2
    have h13 : i < 13 := by simpa using List.mem_range.1 hr
    clear hr
    have hcase : i = 0 ∨ i = 1 ∨ i = 2 ∨ i = 3 ∨ i = 4 ∨ i = 5 ∨ i = 6 ∨ i = 7 ∨ i = 8 ∨ i = 9 ∨ i = 10 ∨ i = 11 ∨ i = 12 := by omega
    rcases hcase with rfl | rfl | rfl | rfl | rfl | rfl | rfl | rfl | rfl | rfl | rfl | rfl | rfl
    all_goals simp [Region.binds] at hc
    · subst hc
      obtain ⟨rfl, rfl, rfl, rfl, rfl, rfl⟩ := hI.no rfl
      refine wpOp_step rfl (fun K hK => ?_)
      go_simp
      refine hK _ _ ⟨t0, .map (some w.heap.size), t6, t7, true, false, false, false, false, l9, false, false, l12, rfl, rfl, ?_⟩
      exact ⟨hI.be.alloc hI.be.size _, fun _ => ⟨w.heap.size, rfl, hI.be.size, #[], 0, [], heap_alloc_new w _, rfl, fun k x => by rw [fF_none]; rfl⟩, (fun h => by cases h), hI.sg, (fun h => by cases h), (fun h => by have := (hI.fi h).1; cases this)⟩
    · obtain ⟨rfl, rfl⟩ := hc
      obtain ⟨mm, rfl, hmb, hm⟩ := hI.mp rfl
      obtain ⟨w', rr, m', s', o', x1, x2, x3⟩ := hm.put 0 [] (fun z hz => by cases hz) 83 (fF_call l4 l6 l8 l10).1 (fF_call l4 l6 l8 l10).2
      rw [show strOfNums [] = ⟨#[]⟩ from rfl] at rr
      refine wpOp_step rfl (fun K hK => ?_)
      go_simp
      refine hK _ _ ⟨t0, .map (some mm), t6, t7, true, true, l4, l6, l8, l9, l10, l11, l12, rfl, rfl, ?_⟩
      exact ⟨put_below hI.be hmb s' o' x1 x2 x3, fun _ => ⟨mm, rfl, hmb, m'⟩, (fun h => by cases h), hI.sg, (fun h => by have := (hI.mv h).2.2.1; cases this), hI.fi⟩
    · obtain ⟨rfl, rfl⟩ := hc
      obtain ⟨mm, rfl, hmb, hm⟩ := hI.mp rfl
      obtain ⟨w', rr, m', s', o', x1, x2, x3⟩ := hm.put 1 [] (fun z hz => by cases hz) 84 (fF_text l2 l6 l8 l10).1 (fF_text l2 l6 l8 l10).2
      rw [show strOfNums [] = ⟨#[]⟩ from rfl] at rr
      refine wpOp_step rfl (fun K hK => ?_)
      go_simp
      refine hK _ _ ⟨t0, .map (some mm), t6, t7, true, l2, true, l6, l8, l9, l10, l11, l12, rfl, rfl, ?_⟩
      exact ⟨put_below hI.be hmb s' o' x1 x2 x3, fun _ => ⟨mm, rfl, hmb, m'⟩, (fun h => by cases h), hI.sg, (fun h => by have := (hI.mv h).2.2.2.1; cases this), hI.fi⟩
    · obtain ⟨rfl, rfl⟩ := hc
      obtain ⟨mm, rfl, hmb, hm⟩ := hI.mp rfl
      obtain ⟨w', rr, m', s', o', x1, x2, x3⟩ := hm.put 2 [] (fun z hz => by cases hz) 85 (fF_set l2 l4 l8 l10).1 (fF_set l2 l4 l8 l10).2
      rw [show strOfNums [] = ⟨#[]⟩ from rfl] at rr
      refine wpOp_step rfl (fun K hK => ?_)
      go_simp
      refine hK _ _ ⟨t0, .map (some mm), t6, t7, true, l2, l4, true, l8, l9, l10, l11, l12, rfl, rfl, ?_⟩
      exact ⟨put_below hI.be hmb s' o' x1 x2 x3, fun _ => ⟨mm, rfl, hmb, m'⟩, (fun h => by cases h), hI.sg, (fun h => by have := (hI.mv h).2.2.2.2.1; cases this), hI.fi⟩
    · obtain ⟨rfl, rfl⟩ := hc
      obtain ⟨mm, rfl, hmb, hm⟩ := hI.mp rfl
      obtain ⟨w', rr, m', s', o', x1, x2, x3⟩ := hm.put 3 [] (fun z hz => by cases hz) 86 (fF_octets l2 l4 l6 l10).1 (fF_octets l2 l4 l6 l10).2
      rw [show strOfNums [] = ⟨#[]⟩ from rfl] at rr
      refine wpOp_step rfl (fun K hK => ?_)
      go_simp
      refine hK _ _ ⟨t0, .map (some mm), t6, t7, true, l2, l4, l6, true, l9, l10, l11, l12, rfl, rfl, ?_⟩
      exact ⟨put_below hI.be hmb s' o' x1 x2 x3, fun _ => ⟨mm, rfl, hmb, m'⟩, (fun h => by cases h), hI.sg, (fun h => by have := (hI.mv h).2.2.2.2.2.1; cases this), hI.fi⟩
    · subst hc
      refine wpOp_step rfl (fun K hK => ?_)
      go_simp
      refine (sign_l ⟨#[40]⟩ _).mono ?_
      rintro e w' ⟨rfl, b'⟩
      refine hK _ _ ⟨t0, t1, .agg #[.int .i64 4, .string ⟨#[40]⟩], t7, l0, l2, l4, l6, l8, true, l10, l11, l12, rfl, rfl, ?_⟩
      refine ⟨bthen hI.be b', fun h => ?_, hI.no, fun _ => rfl, hI.mv, hI.fi⟩
      obtain ⟨mm, e, hmb, hm⟩ := hI.mp h
      exact ⟨mm, e, hmb, hm.later b'⟩
    · obtain ⟨rfl, rfl, rfl⟩ := hc
      obtain ⟨mm, rfl, hmb, hm⟩ := hI.mp rfl
      obtain rfl := hI.sg rfl
      obtain ⟨w', rr, m', s', o', x1, x2, x3⟩ := hm.put 4 [40] (bytes_cons (by omega) (by omega) (fun z hz => by cases hz)) 88 (fF_group l2 l4 l6 l8).1 (fF_group l2 l4 l6 l8).2
      rw [show strOfNums [40] = ⟨#[40]⟩ from rfl] at rr
      refine wpOp_step rfl (fun K hK => ?_)
      go_simp
      refine hK _ _ ⟨t0, .map (some mm), .agg #[.int .i64 4, .string ⟨#[40]⟩], t7, true, l2, l4, l6, l8, true, true, l11, l12, rfl, rfl, ?_⟩
      exact ⟨put_below hI.be hmb s' o' x1 x2 x3, fun _ => ⟨mm, rfl, hmb, m'⟩, (fun h => by cases h), hI.sg, (fun h => by have := (hI.mv h).2.2.2.2.2.2; cases this), hI.fi⟩
    · obtain ⟨rfl, rfl, rfl, rfl, rfl, rfl, rfl, rfl⟩ := hc
      refine wpOp_step rfl (fun K hK => ?_)
      go_simp
      refine hK _ _ ⟨t0, t1, t6, t1, true, true, true, true, true, true, true, true, l12, rfl, rfl, ?_⟩
      exact ⟨hI.be, hI.mp, (fun h => by cases h), hI.sg, fun _ => ⟨rfl, rfl, rfl, rfl, rfl, rfl, rfl⟩, (fun h => by have := (hI.fi h).1; cases this)⟩
    · obtain ⟨rfl, hc⟩ := hc
      have e11 : l11 = true := hc.1
      subst e11
      refine wpOp_step rfl (fun K hK => ?_)
      go_simp
      refine hK _ _ ⟨t7, t1, t6, t7, l0, l2, l4, l6, l8, l9, l10, true, true, rfl, rfl, ?_⟩
      exact ⟨hI.be, hI.mp, hI.no, hI.sg, hI.mv, fun _ => ⟨rfl, rfl⟩⟩
  · rintro listed a w ⟨t0, t1, t6, t7, l0, l2, l4, l6, l8, l9, l10, l11, l12, rfl, rfl, hI⟩ hr
    have hq := fun i (hi : i < 13) => List.filter_eq_nil_iff.1 hr i (List.mem_range.2 hi)
    clear hr
    have e0 : l0 = true := by
      cases l0 with
      | true => rfl
      | false => exact absurd (hq 0 (by decide)) (by simp [Region.binds])
    subst e0
    have e2 : l2 = true := by
      cases l2 with
      | true => rfl
      | false => exact absurd (hq 2 (by decide)) (by simp [Region.binds])
    subst e2
    have e4 : l4 = true := by
      cases l4 with
      | true => rfl
      | false => exact absurd (hq 4 (by decide)) (by simp [Region.binds])
    subst e4
    have e6 : l6 = true := by
      cases l6 with
      | true => rfl
      | false => exact absurd (hq 6 (by decide)) (by simp [Region.binds])
    subst e6
    have e8 : l8 = true := by
      cases l8 with
      | true => rfl
      | false => exact absurd (hq 8 (by decide)) (by simp [Region.binds])
    subst e8
    have e9 : l9 = true := by
      cases l9 with
      | true => rfl
      | false => exact absurd (hq 9 (by decide)) (by simp [Region.binds])
    subst e9
    have e10 : l10 = true := by
      cases l10 with
      | true => rfl
      | false => exact absurd (hq 10 (by decide)) (by simp [Region.binds])
    subst e10
    have e11 : l11 = true := by
      cases l11 with
      | true => rfl
      | false => exact absurd (hq 11 (by decide)) (by simp [Region.binds])
    subst e11
    have e12 : l12 = true := by
      cases l12 with
      | true => rfl
      | false => exact absurd (hq 12 (by decide)) (by simp [Region.binds])
    subst e12
    obtain ⟨mm, rfl, hmb, hm⟩ := hI.mp rfl
    obtain ⟨rfl, -⟩ := hI.mv rfl
    obtain ⟨-, rfl⟩ := hI.fi rfl
    have HB := hideR hI.be
    have HM : Hid (Mq w mm) := by
      rw [fF_all] at hm
      exact hm
    clear hq hI hm
    go_wp2_with fail
    go_ret
    exact ⟨mm, rfl, hmb, unhideR HM, unhideR HB⟩
end Go.Proofs.YtamefbpdnblbdaaGreatDoor.R

namespace Go.Proofs.YtamefbpdnblbdaaGreatDoor.R
open Go.RowKit Go.Proofs.YtamefbpdnblbdaaGreatDoor.T
set_option linter.unusedVariables false
set_option linter.unusedSimpArgs false

set_option maxRecDepth 20000 in
set_option maxHeartbeats 4000000 in
theorem newReader_l (w : World) (base : Nat) (a : Option Addr) (c : Nat) (ts : List TN) (n : Nat) (h : Tks w base (.slice a ts.length c) ts) (hb : base ≤ w.heap.size) (hl : ts.length ≤ 600) (hn : n ≤ 1000000) (ho : ∀ x ∈ ts, okT x.1 ∧ x.2 ≤ 1000000) :
    Calls Tryz.prog 26 #[.slice a ts.length c, .int .i64 (n : Int)] w fun e w' => ∃ b G m, e = .returned (.pointer (some ⟨b, 0, none⟩)) ∧ base ≤ b ∧ Rd w' b G (ts ++ [((-1, [], []), n)]) m (dp 12) ∧ Mq w' m ∧ Ends (ts ++ [((-1, [], []), n)]) ∧ Below base w w' := by
  obtain ⟨cs, own, tc⟩ := h
  have CA := hideR (fun W => atoms_l W)
  have EN : Hid (Ends (ts ++ [((-1, [], []), n)])) := ⟨ts, n, rfl, hn, ho⟩
  have HTC := hideR tc
  obtain ⟨ti, hi0, hz0, hz1, hz2⟩ := info_parts infoTok3
  clear tc ho
  go_enter Tryz.func26, Tryz.ntmps26
  go_wp2_with (at_builtin; refine wpList_append_lies _ rfl _ _ 60 rfl base 101 ti _ 4 56 Tryz.underlying60 hi0 hz0 hz1 hz2 rfl (by omega) _ _ _ rfl (own.alloc _) ⟨w.heap.size, 0, none⟩ 1 1 [.int .i64 (-1), .string ⟨#[]⟩, .slice none 0 0, .int .i64 (n : Int)] rfl rfl (new_tok _ _ _ _ _ _ rfl) (by simp [Value.oneCell']) (by omega) (by unfold maxLen; omega) (by omega) (by simp; omega) (w.heap.size + 1) (by simp) ?_; intro gg cap1 w2 hown1 hgrow hat hlt1)
  have s2 := hgrow.size
  have sA : (w.alloc (.cells #[.int .i64 (-1), .string ⟨#[]⟩, .slice none 0 0, .int .i64 (n : Int)] 101)).heap.size = w.heap.size + 1 := by simp
  have B2 : Below base w w2 := ((Below.refl base w).alloc hb _).grown hgrow (by simp; omega) (fun k hk => (own.lt k hk).1)
  have TV := TokV.grown (own.alloc (.cells #[.int .i64 (-1), .string ⟨#[]⟩, .slice none 0 0, .int .i64 (n : Int)] 101)) hgrow
  have TC2 := TkC.snoc (w := w2) (t := (-1, [], [])) (p := n) (TokV.plain w2 (-1) [] (n : Int)) ts cs (TkC.mono TV ts cs (TkC.later (unhideR HTC) (Below.new1 _)))
  have LF : Hid (Lf w2 gg (.slice (some ⟨gg, 0, none⟩) (ts.length + 1) cap1) (ts ++ [((-1, [], []), n)])) := by
    rcases hown1.2 with ⟨e, h0⟩ | ⟨g, cap, cur, e, hbb, hg, hnn, hm, hs, ht⟩
    · omega
    · injection e with e1 e2 e3
      injection e1 with e1
      injection e1 with e1
      subst e1; subst e3
      refine ⟨0, cap1, cur, _, _, by rw [List.length_append]; rfl, by rw [List.length_append]; exact hnn, hm, hg, fun j u hu => ?_, TC2⟩
      rw [Nat.zero_add]
      have hj : j < (cs ++ [Value.int .i64 (-1), .string ⟨#[]⟩, .slice none 0 0, .int .i64 (n : Int)]).length := (List.getElem?_eq_some_iff.1 hu).1
      have hx := hown1.1
      have hu : (cs ++ [Value.int .i64 (-1), .string ⟨#[]⟩, .slice none 0 0, .int .i64 (n : Int)])[j]? = some u := hu
      rw [← ht, List.getElem?_take_of_lt (by rw [hx] at hj; exact hj)] at hu
      simpa using hu
  have HB2 := hideR B2
  clear hgrow hat hown1 TV TC2 own HTC
  go_wp2_with fail
  refine (unhideR CA _).mono ?_
  rintro e w3 ⟨m, rfl, hm3, mq3, b3⟩
  clear CA
  have s3 := b3.size
  go_wp2_with fail
  go_ret
  refine ⟨w3.heap.size, gg, m, rfl, by omega, ⟨_, heap_alloc_new _ _, Lf.later (Below.new1 _) (Lf.later b3 (unhideR LF))⟩, mq3.later (Below.new1 _), unhideR EN, ((unhideR HB2).trans (b3.mono (by omega))).alloc (by omega) _⟩
end Go.Proofs.YtamefbpdnblbdaaGreatDoor.R

namespace Go.Proofs.YtamefbpdnblbdaaGreatDoor.R
open Go.RowKit Go.Proofs.YtamefbpdnblbdaaGreatDoor.T
set_option linter.unusedVariables false
set_option linter.unusedSimpArgs false

theorem ta_yes (xT : TypeId) (q y : Int) (W : World) : (Instr.typeAssert (.iface 64 (.agg #[.int .i64 q, .int .i64 y])) xT 64 true).run Tryz.prog W = .ok (.tuple #[.agg #[.int .i64 q, .int .i64 y], .bool true]) W := by kernel_rfl
theorem ta_no (xT : TypeId) (W : World) : (Instr.typeAssert .nilIface xT 64 true).run Tryz.prog W = .ok (.tuple #[.agg #[.int .i64 0, .int .i64 0], .bool false]) W := by kernel_rfl
set_option maxRecDepth 20000 in
set_option maxHeartbeats 2000000 in
theorem catch_idle (p2 p3 p4 : Option Addr) (w : World) :
    CallsD Tryz.prog 25 #[.pointer p2, .pointer p3, .pointer p4] .returning w fun e u' w' => e = .returned (.tuple #[]) ∧ u' = .returning ∧ Below w.heap.size w w' := by
  have tn := ta_no
  refine callsD_of_wpS Tryz.func25 rfl fun c₀ cs hu => ?_
  apply wpS_seq
  apply wpS_region
  simp [wpOpsS, go_sem, recoverD, hu, Tryz.ntmps25, Exit.thenS, tn]
  refine wpS_of_wp ?_
  go_wp2_with fail
  cases c₀
  simp_all [bodyPostS, results, Tryz.results25]
  exact Below.new1 _
theorem wp_act {P : Program} {c : Code} {Q : Exit → Act → World → Prop} {a a' : Act} {w : World} (e : a = a') (h : c.wp P Q a' w) : c.wp P Q a w := e ▸ h
theorem new_two (W : World) (n : Nat) (hn : n = W.heap.size) (x y : Value) (t : TypeId) : (W.alloc (.cells #[x, y] t)).drew.cell? ⟨n, 0, none⟩ = some x ∧ (W.alloc (.cells #[x, y] t)).drew.cell? ⟨n, 1, none⟩ = some y := by
  subst hn
  exact (cells2f (heap_alloc_new W (.cells #[x, y] t))).1
structure Out (g : Nat) (f0 f1 at_ er : Value) (w : World) : Prop where
  f : w.heap[g]? = some (.cells #[f0, f1] 26)
  a : w.heap[g + 1]? = some (.cells #[at_] 3)
  e : w.heap[g + 2]? = some (.cells #[er] 27)
set_option maxRecDepth 20000 in
set_option maxHeartbeats 1000000 in
theorem catch_wrong (g : Nat) (f0 f1 at_ er : Value) (q y : Int) (older : List PanicEntry) (w : World) (h : Out g f0 f1 at_ er w) :
    CallsD Tryz.prog 25 #[.pointer (some ⟨g, 0, none⟩), .pointer (some ⟨g + 1, 0, none⟩), .pointer (some ⟨g + 2, 0, none⟩)] (.panicking ({ v := .iface 64 (.agg #[.int .i64 q, .int .i64 y]), recovered := false } :: older)) w fun e u' w' =>
      e = .returned (.tuple #[]) ∧ u' = .panicking ({ v := .iface 64 (.agg #[.int .i64 q, .int .i64 y]), recovered := true } :: older) ∧ Out g (.slice none 0 0) (.slice none 0 0) (.int .i64 q) (.int .i64 y) w' ∧ Below g w w' := by
  have ty := ta_yes
  obtain ⟨⟨c0, c1⟩, z0, z1⟩ := cells2f h.f
  have c2 : w.cell? ⟨g + 1, 0, none⟩ = some at_ := by simp [World.cell?, h.a]
  have c3 : w.cell? ⟨g + 2, 0, none⟩ = some er := by simp [World.cell?, h.e]
  have z2 : w.frozen? ⟨g + 1, 0, none⟩ = false := by simp [World.frozen?, h.a]
  have z3 : w.frozen? ⟨g + 2, 0, none⟩ = false := by simp [World.frozen?, h.e]
  have l0 := block_lt' c0
  have l2 := block_lt' c2
  have l3 := block_lt' c3
  have HO := hideR h
  clear h
  obtain ⟨⟨n0, n1⟩, -⟩ := cells2f (heap_alloc_new w (.cells #[.int .i64 q, .int .i64 y] 64))
  refine callsD_of_wpS Tryz.func25 rfl fun c₀ cs hu => ?_
  apply wpS_seq
  apply wpS_region
  simp [wpOpsS, go_sem, recoverD, hu, Tryz.ntmps25, Exit.thenS, ty]
  refine wpS_of_wp ?_
  refine wp_act (a' := { tmps := #[.pointer (some ⟨g, 0, none⟩), .pointer (some ⟨g + 1, 0, none⟩), .pointer (some ⟨g + 2, 0, none⟩), .pointer (some ⟨w.heap.size, 0, none⟩), .bool true, .tuple #[.agg #[.int .i64 q, .int .i64 y], .bool true], .iface 64 (.agg #[.int .i64 q, .int .i64 y]), .tuple #[.agg #[.int .i64 q, .int .i64 y], .bool true], .agg #[.int .i64 q, .int .i64 y], .bool true, undef, undef, undef, undef, undef, undef], defers := [] }) (by kernel_rfl) ?_
  go_wp2_with fail
  refine wp_region_held_drew (S := (fun w' => w'.cell? ⟨w.heap.size, 0, none⟩ = some (.int .i64 q) ∧ w'.cell? ⟨w.heap.size, 1, none⟩ = some (.int .i64 y))) (by kernel_rfl) (⟨n0, n1⟩) (fun hHeld => ?_)
  refine wpAnyH_take (i := 0) (v := ?_) rfl (by kernel_rfl) (by kernel_rfl) (by kernel_rfl) (fun _ _ _ h => h) (Or.inl ⟨by kernel_rfl, ?_⟩) (by assumption) ?_
  rotate_left
  · intro w hSw; (try dsimp only at hSw); go_simp; (try with_reducible rfl)
  try simp only [Act.put, List.getElem_toArray, List.getElem_cons_succ, List.getElem_cons_zero, List.setIfInBounds_toArray, List.set_cons_zero, List.set_cons_succ]
  refine wpAnyH_take (i := 1) (v := ?_) rfl (by kernel_rfl) (by kernel_rfl) (by kernel_rfl) (fun _ _ _ h => h) (Or.inl ⟨by kernel_rfl, ?_⟩) (by assumption) ?_
  rotate_left
  · intro w hSw; (try dsimp only at hSw); go_simp; (try with_reducible rfl)
  try simp only [Act.put, List.getElem_toArray, List.getElem_cons_succ, List.getElem_cons_zero, List.setIfInBounds_toArray, List.set_cons_zero, List.set_cons_succ]
  refine wpAnyH_take (i := 2) (v := ?_) rfl (by kernel_rfl) (by kernel_rfl) (by kernel_rfl) (fun _ _ _ h => h) (Or.inl ⟨by kernel_rfl, ?_⟩) (by assumption) ?_
  rotate_left
  · intro w hSw; (try dsimp only at hSw); go_simp; (try with_reducible rfl)
  try simp only [Act.put, List.getElem_toArray, List.getElem_cons_succ, List.getElem_cons_zero, List.setIfInBounds_toArray, List.set_cons_zero, List.set_cons_succ]
  refine wpAnyH_take (i := 3) (v := ?_) rfl (by kernel_rfl) (by kernel_rfl) (by kernel_rfl) (fun _ _ _ h => h) (Or.inl ⟨by kernel_rfl, ?_⟩) (by assumption) ?_
  rotate_left
  · intro w hSw; (try dsimp only at hSw); go_simp; (try with_reducible rfl)
  try simp only [Act.put, List.getElem_toArray, List.getElem_cons_succ, List.getElem_cons_zero, List.setIfInBounds_toArray, List.set_cons_zero, List.set_cons_succ]
  refine wpAnyH_take (i := 4) (v := ?_) rfl (by kernel_rfl) (by kernel_rfl) (by kernel_rfl) (fun _ _ _ h => h) (Or.inl ⟨by kernel_rfl, ?_⟩) (by assumption) ?_
  rotate_left
  · intro w hSw; (try dsimp only at hSw); go_simp; (try with_reducible rfl)
  try simp only [Act.put, List.getElem_toArray, List.getElem_cons_succ, List.getElem_cons_zero, List.setIfInBounds_toArray, List.set_cons_zero, List.set_cons_succ]
  refine wpAnyH_ready (rs := [5]) (by kernel_rfl) (by simp) ?_
  refine AllReadyH.cons rfl (fun K hK => ?_) AllReadyH.nil
  go_simp
  refine hK.out _ _ (new_two _ _ (by simp) _ _ _) (fun hHeld => ?_)
  clear hK K
  try simp only [Act.put, List.getElem_toArray, List.getElem_cons_succ, List.getElem_cons_zero, List.setIfInBounds_toArray, List.set_cons_zero, List.set_cons_succ]
  refine wpAnyH_ready (rs := [6]) (by kernel_rfl) (by simp) ?_
  refine AllReadyH.cons rfl (fun K hK => ?_) AllReadyH.nil
  go_simp
  refine hK.out _ _ (new_two _ _ (by simp) _ _ _) (fun hHeld => ?_)
  clear hK K
  try simp only [Act.put, List.getElem_toArray, List.getElem_cons_succ, List.getElem_cons_zero, List.setIfInBounds_toArray, List.set_cons_zero, List.set_cons_succ]
  refine wpAnyH_ready (rs := [7]) (by kernel_rfl) (by simp) ?_
  refine AllReadyH.cons rfl (fun K hK => ?_) AllReadyH.nil
  go_simp
  refine hK.out _ _ (new_two _ _ (by simp) _ _ _) (fun hHeld => ?_)
  clear hK K
  try simp only [Act.put, List.getElem_toArray, List.getElem_cons_succ, List.getElem_cons_zero, List.setIfInBounds_toArray, List.set_cons_zero, List.set_cons_succ]
  refine wpAnyH_done (by kernel_rfl) ?_ _
  (try simp only [Exit.inBlock, Exit.then])
  have OX : Hid (Out g (.slice none 0 0) (.slice none 0 0) (.int .i64 q) (.int .i64 y) (((((w.setCell ⟨g, 0, none⟩ (.slice none 0 0)).setCell ⟨g, 1, none⟩ (.slice none 0 0)).setCell ⟨g + 1, 0, none⟩ (.int .i64 q)).setCell ⟨g + 2, 0, none⟩ (.int .i64 y)).alloc (.cells #[.int .i64 q, .int .i64 y] 64)).drew) := by
    have o := unhideR HO
    have f0 := heap_setCell_same w g 0 _ _ (.slice none 0 0) o.f
    have f1 := heap_setCell_same _ g 1 _ _ (.slice none 0 0) f0
    have a1 := heap_setCell_same _ (g + 1) 0 _ _ (.int .i64 q) (other_at (i := 1) (x := .slice none 0 0) (other_at (i := 0) (x := .slice none 0 0) o.a (show g + 1 ≠ g by omega)) (show g + 1 ≠ g by omega))
    have e1 := heap_setCell_same _ (g + 2) 0 _ _ (.int .i64 y) (other_at (i := 0) (x := .int .i64 q) (other_at (i := 1) (x := .slice none 0 0) (other_at (i := 0) (x := .slice none 0 0) o.e (show g + 2 ≠ g by omega)) (show g + 2 ≠ g by omega)) (show g + 2 ≠ g + 1 by omega))
    refine ⟨?_, ?_, ?_⟩
    · refine old_at (other_at (other_at ?_ (by omega) _) (by omega) _) _; simpa using f1
    · refine old_at (other_at ?_ (by omega) _) _; simpa using a1
    · refine old_at ?_ _; simpa using e1
  have BX : Hid (Below g w (((((w.setCell ⟨g, 0, none⟩ (.slice none 0 0)).setCell ⟨g, 1, none⟩ (.slice none 0 0)).setCell ⟨g + 1, 0, none⟩ (.int .i64 q)).setCell ⟨g + 2, 0, none⟩ (.int .i64 y)).alloc (.cells #[.int .i64 q, .int .i64 y] 64)).drew) := ((((((Below.refl g w).setCell (p := ⟨g, 0, none⟩) (Nat.le_refl _) _).setCell (p := ⟨g, 1, none⟩) (Nat.le_refl _) _).setCell (p := ⟨g + 1, 0, none⟩) (Nat.le_succ _) _).setCell (p := ⟨g + 2, 0, none⟩) (show g ≤ g + 2 by omega) _).alloc (by simp; omega) _).trans (draws_b (k := 1))
  go_wp2_with fail
  generalize (((((w.setCell ⟨g, 0, none⟩ (.slice none 0 0)).setCell ⟨g, 1, none⟩ (.slice none 0 0)).setCell ⟨g + 1, 0, none⟩ (.int .i64 q)).setCell ⟨g + 2, 0, none⟩ (.int .i64 y)).alloc (.cells #[.int .i64 q, .int .i64 y] 64)).drew = X at *
  cases c₀
  simp_all [bodyPostS, results, Tryz.results25]
  exact ⟨unhideR OX, unhideR BX⟩
end Go.Proofs.YtamefbpdnblbdaaGreatDoor.R

namespace Go.Proofs.YtamefbpdnblbdaaGreatDoor.R
open Go.RowKit Go.Proofs.YtamefbpdnblbdaaGreatDoor.T
set_option linter.unusedVariables false
set_option linter.unusedSimpArgs false

def FileR (w : World) (l : List Int) (e : Ending) (w' : World) : Prop :=
  (∃ q why, fileL l = .inl (q, why) ∧ e = .returned (.tuple #[.agg #[.slice none 0 0, .slice none 0 0], .int .i64 (q : Nat), .int .i64 why])) ∨
  (∃ v f, fileL l = .inr f ∧ e = .returned (.tuple #[v, .int .i64 (l.length : Nat), .int .i64 0]) ∧ FileV (New w w') w' v f)
theorem res_out {tmps : Array Value} {g : Nat} (h2 : tmps.getD 2 undef = .pointer (some ⟨g, 0, none⟩)) (h3 : tmps.getD 3 undef = .pointer (some ⟨g + 1, 0, none⟩)) (h4 : tmps.getD 4 undef = .pointer (some ⟨g + 2, 0, none⟩)) {X : World} {f0 f1 x y : Value} (o : Out g f0 f1 x y X) :
    (results Tryz.f10 tmps).run Tryz.prog X = .ok (.tuple #[.agg #[f0, f1], x, y]) X := by
  obtain ⟨⟨c0, c1⟩, -⟩ := cells2f o.f
  have c2 : X.cell? ⟨g + 1, 0, none⟩ = some x := by simp [World.cell?, o.a]
  have c3 : X.cell? ⟨g + 2, 0, none⟩ = some y := by simp [World.cell?, o.e]
  have p2 : tmps[2]?.getD undef = .pointer (some ⟨g, 0, none⟩) := by rw [← h2]; simp [Array.getD_eq_getD_getElem?]
  have p3 : tmps[3]?.getD undef = .pointer (some ⟨g + 1, 0, none⟩) := by rw [← h3]; simp [Array.getD_eq_getD_getElem?]
  have p4 : tmps[4]?.getD undef = .pointer (some ⟨g + 2, 0, none⟩) := by rw [← h4]; simp [Array.getD_eq_getD_getElem?]
  simp [results, Tryz.results10, go_sem, p2, p3, p4, c0, c1, c2, c3]
theorem Out.set {W : World} {g : Nat} {f0 f1 x y : Value} (o : Out g f0 f1 x y W) (f0' f1' x' y' : Value) : Out g f0' f1' x' y' ((((W.setCell ⟨g, 0, none⟩ f0').setCell ⟨g, 1, none⟩ f1').setCell ⟨g + 1, 0, none⟩ x').setCell ⟨g + 1 + 1, 0, none⟩ y') := by
  have h0 := heap_setCell_same W g 0 _ _ f0' o.f
  have h1 := heap_setCell_same _ g 1 _ _ f1' h0
  have a1 := heap_setCell_same _ (g + 1) 0 _ _ x' (other_at (i := 1) (x := f1') (other_at (i := 0) (x := f0') o.a (show g + 1 ≠ g by omega)) (show g + 1 ≠ g by omega))
  have e1 := heap_setCell_same _ (g + 2) 0 _ _ y' (other_at (i := 0) (x := x') (other_at (i := 1) (x := f1') (other_at (i := 0) (x := f0') o.e (show g + 2 ≠ g by omega)) (show g + 2 ≠ g by omega)) (show g + 2 ≠ g + 1 by omega))
  refine ⟨?_, ?_, ?_⟩
  · refine other_at (other_at ?_ (by omega) _) (by omega) _; simpa using h1
  · refine other_at ?_ (by omega) _; simpa using a1
  · simpa using e1
theorem set_out {W w : World} {g : Nat} (h : Below g w W) (f0' f1' x' y' : Value) : Below g w ((((W.setCell ⟨g, 0, none⟩ f0').setCell ⟨g, 1, none⟩ f1').setCell ⟨g + 1, 0, none⟩ x').setCell ⟨g + 1 + 1, 0, none⟩ y') :=
  (((h.setCell (p := ⟨g, 0, none⟩) (Nat.le_refl _) _).setCell (p := ⟨g, 1, none⟩) (Nat.le_refl _) _).setCell (p := ⟨g + 1, 0, none⟩) (Nat.le_succ _) _).setCell (p := ⟨g + 1 + 1, 0, none⟩) (show g ≤ g + 1 + 1 by omega) _
theorem FileV.kept {D D' : Nat → Prop} {w X : World} {v : Value} {f : List (List Int) × List RU} (h : FileV D w v f) (k : ∀ g, D g → D' g ∧ X.heap[g]? = w.heap[g]?) (kr : KR w X) : FileV D' X v f := by
  obtain ⟨aK, cK, aR, cR, e, h1, cs, h2, h3, h4⟩ := h
  exact ⟨aK, cK, aR, cR, e, h1.kept k, cs, h2, h3.kept k, RuC.mono (fun u q hq => hq.kept k kr) _ _ h4⟩
theorem Tks.kr {w X : World} {B : Nat} {v : Value} {ts : List TN} (h : Tks w B v ts) (kr : KR w X) (ow : ∀ k, v.ownBlock = some k → X.heap[k]? = w.heap[k]?) : Tks X B v ts := by
  obtain ⟨cs, own, tc⟩ := h
  refine ⟨cs, ⟨own.1, ?_⟩, TkC.mono (fun u t p hv => ?_) _ _ tc⟩
  · rcases own.2 with hn | ⟨g, cap, cur, e, hb, hg, rest⟩
    · exact .inl hn
    · exact .inr ⟨g, cap, cur, e, hb, (ow g (by rw [e]; rfl)).trans hg, rest⟩
  · obtain ⟨a, c, e, hr, hy⟩ := hv
    obtain ⟨hr', hy'⟩ := rs_kr kr hr hy
    exact ⟨a, c, e, hr', hy'⟩
set_option maxRecDepth 20000 in
set_option maxHeartbeats 2000000 in
theorem file_any (s : ByteArray) (l : List Int) (h : St s l) (hl : l.length ≤ 100000000) (w : World) :
    Calls Tryz.prog 10 #[.string s] w fun e w' => FileR w l e w' ∧ Below w.heap.size w w' := by
  have CA := hideR (fun W => all_any s l h W)
  have hmf : ∀ (fn : Fn) (first cap : Array Value) (w : World), (Instr.makeFunc fn first cap).run Tryz.prog w = .ok (.func fn first cap) w := fun _ _ _ _ => rfl
  have B3 : ∀ o1 o2 o3, Below w.heap.size w (((w.alloc o1).alloc o2).alloc o3) := fun o1 o2 o3 => ((Below.new1 o1).alloc (by simp) o2).alloc (by simp; omega) o3
  have hsz := h.size
  have HB := hideR h.2
  clear h
  go_enter_defers Tryz.func10, Tryz.ntmps10
  go_wp2_with fail
  refine (unhideR CA _).mono ?_
  rintro e w1 ⟨ar, b1⟩
  clear CA
  have O1 : Out w.heap.size (.slice none 0 0) (.slice none 0 0) (.int .i64 0) (.int .i64 0) w1 := by
    refine ⟨?_, ?_, ?_⟩
    · rw [b1.block _ (by simp; omega)]; exact old_at (old_at (heap_alloc_new _ _) _) _
    · rw [b1.block _ (by simp)]; have := old_at (heap_alloc_new (w.alloc (.cells #[.slice none 0 0, .slice none 0 0] 26)) (.cells #[.int .i64 0] 3)) (.cells #[.int .i64 0] 27); simpa using this
    · rw [b1.block _ (by simp)]; have := heap_alloc_new ((w.alloc (.cells #[.slice none 0 0, .slice none 0 0] 26)).alloc (.cells #[.int .i64 0] 3)) (.cells #[.int .i64 0] 27); simpa using this
  obtain ⟨⟨c0, c1⟩, z0, z1⟩ := cells2f O1.f
  have c2 : w1.cell? ⟨w.heap.size + 1, 0, none⟩ = some (.int .i64 0) := by simp [World.cell?, O1.a]
  have c3 : w1.cell? ⟨w.heap.size + 2, 0, none⟩ = some (.int .i64 0) := by simp [World.cell?, O1.e]
  have z2 : w1.frozen? ⟨w.heap.size + 1, 0, none⟩ = false := by simp [World.frozen?, O1.a]
  have z3 : w1.frozen? ⟨w.heap.size + 2, 0, none⟩ = false := by simp [World.frozen?, O1.e]
  have HO := hideR O1
  clear O1
  rcases ar with ⟨pa, er, ea, rfl⟩ | ⟨ts, v, ea, rfl, tk⟩
  · have er0 : (er != 0) = true := by rcases allL_err ea with rfl | rfl <;> rfl
    have FIN : Hid (fileL l = .inl (pa, er)) := by show _ = _; unfold fileL; rw [ea]
    clear ea
    go_wp2_with fail
    generalize hW2 : (w1.setCell ⟨w.heap.size + 1, 0, none⟩ (.int .i64 (pa : Int))).setCell ⟨w.heap.size + 1 + 1, 0, none⟩ (.int .i64 er) = w2
    have O2 : Out w.heap.size (.slice none 0 0) (.slice none 0 0) (.int .i64 (pa : Int)) (.int .i64 er) w2 := by
      have o := unhideR HO
      have a1 := heap_setCell_same w1 (w.heap.size + 1) 0 _ _ (.int .i64 (pa : Int)) o.a
      have e1 := heap_setCell_same _ (w.heap.size + 2) 0 _ _ (.int .i64 er) (other_at (i := 0) (x := .int .i64 (pa : Int)) o.e (show w.heap.size + 2 ≠ w.heap.size + 1 by omega))
      rw [← hW2]
      refine ⟨other_at (other_at o.f (by omega) _) (by omega) _, ?_, ?_⟩
      · refine other_at ?_ (by omega) _; simpa using a1
      · simpa using e1
    have B2 : Below w.heap.size w w2 := by
      rw [← hW2]
      exact ((bthen (B3 _ _ _) b1).setCell (p := ⟨w.heap.size + 1, 0, none⟩) (Nat.le_succ _) _).setCell (p := ⟨w.heap.size + 1 + 1, 0, none⟩) (show w.heap.size ≤ w.heap.size + 1 + 1 by omega) _
    clear hW2 HO c0 c1 c2 c3 z0 z1 z2 z3 b1
    obtain ⟨⟨c0, c1⟩, z0, z1⟩ := cells2f O2.f
    have c2 : w2.cell? ⟨w.heap.size + 1, 0, none⟩ = some (.int .i64 (pa : Int)) := by simp [World.cell?, O2.a]
    have c3 : w2.cell? ⟨w.heap.size + 1 + 1, 0, none⟩ = some (.int .i64 er) := by have := O2.e; simp [World.cell?, this]
    have z2 : w2.frozen? ⟨w.heap.size + 1, 0, none⟩ = false := by simp [World.frozen?, O2.a]
    have z3 : w2.frozen? ⟨w.heap.size + 1 + 1, 0, none⟩ = false := by have := O2.e; simp [World.frozen?, this]
    have HO2 := hideR O2
    clear O2
    go_region
    all_goals (go_wp2_with fail)
    all_goals (refine ⟨_, res_out rfl rfl rfl ?_, .inl ⟨pa, er, unhideR FIN, rfl⟩, ?_⟩)
    · have o := (unhideR HO2).set (.slice none 0 0) (.slice none 0 0) (.int .i64 (pa : Int)) (.int .i64 er)
      exact ⟨o.f, o.a, o.e⟩
    · exact (set_out B2 _ _ _ _).trans (draws_b (k := 1))
  · obtain ⟨q5, c5, rfl⟩ := tks_form tk
    have hlen : l.length ≤ 3000 := by
      by_cases c : l.length ≤ 3000
      · exact c
      · unfold allL at ea; rw [if_pos (by omega)] at ea; cases ea
    have hts := all_bound (unhideR HB) ea
    have CN := hideR (fun W (k : Tks W (w.heap.size + 3) (.slice q5 ts.length c5) ts) (hb : w.heap.size + 3 ≤ W.heap.size) => newReader_l W (w.heap.size + 3) q5 c5 ts l.length k hb hts (by omega) (fun x hx => ⟨allL_ok (unhideR HB) ea x hx, by have := allL_at (unhideR HB) ea x hx; omega⟩))
    have EQ : Hid (fileL l = fileT (ts ++ [((-1, [], []), l.length)])) := by show _ = _; unfold fileL; rw [ea]
    have tk' : Tks w1 (w.heap.size + 3) (.slice q5 ts.length c5) ts := by simpa using tk
    have hW1 : w.heap.size + 3 ≤ w1.heap.size := by have := b1.size; simp at this; omega
    generalize hW2 : (w1.setCell ⟨w.heap.size + 1, 0, none⟩ (.int .i64 (l.length : Int))).setCell ⟨w.heap.size + 1 + 1, 0, none⟩ (.int .i64 0) = w2
    have O2 : Out w.heap.size (.slice none 0 0) (.slice none 0 0) (.int .i64 (l.length : Int)) (.int .i64 0) w2 := by
      have o := unhideR HO
      have a1 := heap_setCell_same w1 (w.heap.size + 1) 0 _ _ (.int .i64 (l.length : Int)) o.a
      have e1 := heap_setCell_same _ (w.heap.size + 2) 0 _ _ (.int .i64 0) (other_at (i := 0) (x := .int .i64 (l.length : Int)) o.e (show w.heap.size + 2 ≠ w.heap.size + 1 by omega))
      rw [← hW2]
      refine ⟨other_at (other_at o.f (by omega) _) (by omega) _, ?_, ?_⟩
      · refine other_at ?_ (by omega) _; simpa using a1
      · simpa using e1
    have B2 : Below w.heap.size w w2 := by
      rw [← hW2]
      exact ((bthen (B3 _ _ _) b1).setCell (p := ⟨w.heap.size + 1, 0, none⟩) (Nat.le_succ _) _).setCell (p := ⟨w.heap.size + 1 + 1, 0, none⟩) (show w.heap.size ≤ w.heap.size + 1 + 1 by omega) _
    have TK2 : Hid (Tks w2 (w.heap.size + 3) (.slice q5 ts.length c5) ts) := by
      have o := unhideR HO
      have ne : ∀ k, k ≠ w.heap.size + 1 → k ≠ w.heap.size + 2 → w2.heap[k]? = w1.heap[k]? := fun k h1 h2 => by
        rw [← hW2, Below.heap_setCell _ ⟨w.heap.size + 1 + 1, 0, none⟩ _ k h2, Below.heap_setCell _ ⟨w.heap.size + 1, 0, none⟩ _ k h1]
      refine Tks.kr tk' (fun g cs fr hk => ?_) (fun k hk => ?_)
      · rw [ne g (type_ne hk o.a (by decide)) (type_ne hk o.e (by decide))]; exact hk
      · obtain ⟨cs, own, -⟩ := tk'
        have := (own.lt k hk).1
        exact ne k (by omega) (by omega)
    have hW2s : w.heap.size + 3 ≤ w2.heap.size := by rw [← hW2]; simp; exact hW1
    have HO2 := hideR O2
    have HW2 := hideR hW2
    clear tk ea tk' O2 hW2
    go_wp2_with fail
    rw [unhideR HW2]
    refine (unhideR CN _ (unhideR TK2) hW2s).mono ?_
    rintro e w3 ⟨b, G, m, rfl, hb3, rd3, mq3, E3, b3⟩
    have CF := hideR (file_l w3 b G (ts ++ [((-1, [], []), l.length)]) m rd3 E3 (by rw [List.length_append, List.length_singleton]; omega) mq3)
    rw [← unhideR EQ] at CF
    have O3 : Out w.heap.size (.slice none 0 0) (.slice none 0 0) (.int .i64 (l.length : Int)) (.int .i64 0) w3 := by
      have o := unhideR HO2
      exact ⟨(b3.block _ (by omega)).trans o.f, (b3.block _ (by omega)).trans o.a, (b3.block _ (by omega)).trans o.e⟩
    have B3' : Below w.heap.size w w3 := B2.trans (b3.mono (by omega))
    have s3 := b3.size
    clear CN EQ TK2 HW2 HO HO2 rd3 mq3 E3 c0 c1 c2 c3 z0 z1 z2 z3
    go_wp2_with fail
    refine (unhideR CF).mono ?_
    clear CF
    rintro e w4 (⟨v4, f4, ef, rfl, fv4, bu4⟩ | ⟨q4, y4, ef, rfl, bu4⟩)
    · have FIN := hideR ef
      have O4 : Out w.heap.size (.slice none 0 0) (.slice none 0 0) (.int .i64 (l.length : Int)) (.int .i64 0) w4 := ⟨bu4.at O3.f (by omega), bu4.at O3.a (by omega), bu4.at O3.e (by omega)⟩
      have B4 : Below w.heap.size w w4 := B3'.trans (bu4.below (by omega) (by omega))
      have HF := hideR fv4
      obtain ⟨aK, cK, aR, cR, rfl, -, -⟩ := fv4
      obtain ⟨⟨c0, c1⟩, z0, z1⟩ := cells2f O4.f
      have c2 : w4.cell? ⟨w.heap.size + 1, 0, none⟩ = some (.int .i64 (l.length : Int)) := by simp [World.cell?, O4.a]
      have c3 : w4.cell? ⟨w.heap.size + 1 + 1, 0, none⟩ = some (.int .i64 0) := by have := O4.e; simp [World.cell?, this]
      have z2 : w4.frozen? ⟨w.heap.size + 1, 0, none⟩ = false := by simp [World.frozen?, O4.a]
      have z3 : w4.frozen? ⟨w.heap.size + 1 + 1, 0, none⟩ = false := by have := O4.e; simp [World.frozen?, this]
      have s4 := bu4.size
      have HO4 := hideR O4
      clear ef O4 O3
      go_wp2_with fail
      refine leaves_cons (f := 25) (args := #[.pointer (some ⟨w.heap.size, 0, none⟩), .pointer (some ⟨w.heap.size + 1, 0, none⟩), .pointer (some ⟨w.heap.size + 1 + 1, 0, none⟩)]) (by simp) (by simp [go_sem]) ?_
      refine (catch_idle _ _ _ _).mono ?_
      rintro e u' w5 ⟨rfl, rfl, b5⟩
      have OX := (unhideR HO4).set (.slice aK f4.1.length cK) (.slice aR f4.2.length cR) (.int .i64 (l.length : Int)) (.int .i64 0)
      have BX := set_out B4 (.slice aK f4.1.length cK) (.slice aR f4.2.length cR) (.int .i64 (l.length : Int)) (.int .i64 0)
      have hs5 := b5.size
      have sX : ((((w4.setCell ⟨w.heap.size, 0, none⟩ (.slice aK f4.1.length cK)).setCell ⟨w.heap.size, 1, none⟩ (.slice aR f4.2.length cR)).setCell ⟨w.heap.size + 1, 0, none⟩ (.int .i64 (l.length : Int))).setCell ⟨w.heap.size + 1 + 1, 0, none⟩ (.int .i64 0)).heap.size = w4.heap.size := by simp
      have nX : ∀ k, k ≠ w.heap.size → k ≠ w.heap.size + 1 → k ≠ w.heap.size + 2 → ((((w4.setCell ⟨w.heap.size, 0, none⟩ (.slice aK f4.1.length cK)).setCell ⟨w.heap.size, 1, none⟩ (.slice aR f4.2.length cR)).setCell ⟨w.heap.size + 1, 0, none⟩ (.int .i64 (l.length : Int))).setCell ⟨w.heap.size + 1 + 1, 0, none⟩ (.int .i64 0)).heap[k]? = w4.heap[k]? := fun k h1 h2 h3 => by
        rw [Below.heap_setCell _ ⟨w.heap.size + 1 + 1, 0, none⟩ _ k h3, Below.heap_setCell _ ⟨w.heap.size + 1, 0, none⟩ _ k h2, Below.heap_setCell _ ⟨w.heap.size, 1, none⟩ _ k h1, Below.heap_setCell _ ⟨w.heap.size, 0, none⟩ _ k h1]
      have KX : KR w4 w5 := by
        refine KR.then (fun g cs fr hk => ?_) (KR.of b5)
        rw [nX g (type_ne hk (unhideR HO4).f (by decide)) (type_ne hk (unhideR HO4).a (by decide)) (type_ne hk (unhideR HO4).e (by decide))]; exact hk
      have O5 : Out w.heap.size (.slice aK f4.1.length cK) (.slice aR f4.2.length cR) (.int .i64 (l.length : Int)) (.int .i64 0) w5 :=
        ⟨(b5.block _ (by rw [sX]; omega)).trans OX.f, (b5.block _ (by rw [sX]; omega)).trans OX.a, (b5.block _ (by rw [sX]; omega)).trans OX.e⟩
      refine ⟨_, res_out rfl rfl rfl O5, .inr ⟨_, f4, unhideR FIN, rfl, ?_⟩, BX.trans (b5.mono (by rw [sX]; omega))⟩
      refine (unhideR HF).kept (fun g hg => ⟨⟨by have := hg.1; omega, by have := hg.2; rw [sX] at hs5; omega⟩, ?_⟩) KX
      obtain ⟨g1, g2⟩ := hg
      rw [b5.block g (by rw [sX]; exact g2), nX g (by omega) (by omega) (by omega)]
    · have FIN := hideR ef
      have O4 : Out w.heap.size (.slice none 0 0) (.slice none 0 0) (.int .i64 (l.length : Int)) (.int .i64 0) w4 := ⟨bu4.at O3.f (by omega), bu4.at O3.a (by omega), bu4.at O3.e (by omega)⟩
      have B4 : Below w.heap.size w w4 := B3'.trans (bu4.below (by omega) (by omega))
      clear ef O3
      unfold wrongE
      go_wp2_with fail
      refine leaves_cons (f := 25) (args := #[.pointer (some ⟨w.heap.size, 0, none⟩), .pointer (some ⟨w.heap.size + 1, 0, none⟩), .pointer (some ⟨w.heap.size + 1 + 1, 0, none⟩)]) (by simp) (by simp [go_sem]) ?_
      refine (catch_wrong w.heap.size _ _ _ _ (q4 : Int) y4 [] w4 O4).mono ?_
      rintro e u' w5 ⟨rfl, rfl, O5, b5⟩
      exact ⟨_, res_out rfl rfl rfl O5, .inl ⟨q4, y4, unhideR FIN, rfl⟩, B4.trans b5⟩
end Go.Proofs.YtamefbpdnblbdaaGreatDoor.R

namespace Go.Proofs.YtamefbpdnblbdaaGreatDoor.F
open Go.RowKit Go.Proofs.YtamefbpdnblbdaaGreatDoor.T Go.Proofs.YtamefbpdnblbdaaGreatDoor.R
set_option linter.unusedVariables false
set_option linter.unusedSimpArgs false

theorem str_info : (Tryz.prog.info? 9).map (fun i => (i.zero, i.size, i.bytes)) = some (some (.string ⟨#[]⟩), 1, 16) := by kernel_rfl
set_option maxRecDepth 20000 in
set_option maxHeartbeats 1000000 in
theorem cloneStr_l {D : Nat → Prop} (a : Option Addr) (n c : Nat) (ks : List (List Int)) (w : World) (h : Ss D w a n c ks) (hs : n ≤ 1000000) :
    Calls Tryz.prog 30 #[.slice a n c] w fun e w' => ∃ a' c', e = .returned (.slice a' n c') ∧ Ss (fun g => w.heap.size ≤ g ∧ g < w'.heap.size) w' a' n c' ks ∧ Below w.heap.size w w' := by
  obtain ⟨h1, h2, h3, h4, h5⟩ := h
  unfold maxLen at h3
  cases a with
  | none =>
    have hk : ks = [] := by
      cases ks with
      | nil => rfl
      | cons k ks =>
        obtain ⟨g, off, e, -⟩ := h5 0 k rfl
        cases e
    subst hk
    simp only [List.length_nil] at h1
    subst h1
    clear h4 h5
    have heq : ∀ W, (binOp .eql 23 (.slice none 0 c) (.slice none 0 0)).run Tryz.prog W = .ok (.bool true) W := fun W => by kernel_rfl
    go_enter Tryz.func30, Tryz.ntmps30
    go_wp2_with fail
    go_ret
    exact ⟨none, 0, rfl, ⟨rfl, Nat.le_refl _, Nat.zero_le _, fun k hk => (by cases hk), fun j k hj => (by simp at hj)⟩, Below.refl _ _⟩
  | some ad =>
    obtain ⟨i0, hi0, hz0, hz1, hz2⟩ := info_parts str_info
    have HN : ∀ o, ∀ (j : Nat) (u : Value), (strC ks)[j]? = some u → (w.alloc o).cell? (ad.add j) = some u := by
      intro o j u hu
      unfold strC at hu
      rw [List.getElem?_map] at hu
      cases hk : ks[j]? with
      | none => rw [hk] at hu; cases hu
      | some k =>
        rw [hk] at hu
        simp only [Option.map_some, Option.some.injEq] at hu
        subst hu
        obtain ⟨g, off, e, -, hc⟩ := h5 j k hk
        injection e with e
        subst e
        rw [Addr.add_lit, World.cell?_of_block ((Below.new1 o).block _ (block_lt' hc))]
        exact hc
    have heq : ∀ W, (binOp .eql 23 (.slice (some ad) n c) (.slice none 0 0)).run Tryz.prog W = .ok (.bool false) W := fun W => by kernel_rfl
    have H1 : ∀ u ∈ strC ks, u.oneCell' = true := by
      intro u hu
      unfold strC at hu
      obtain ⟨k, -, rfl⟩ := List.mem_map.1 hu
      rfl
    have H4 := hideR h4
    have hcl : (strC ks).length = n * 1 := by unfold strC; rw [List.length_map, h1]; omega
    have HL := hideR h1
    clear h1 h4 h5
    have HO : ∀ w : World, (w.alloc (.cells #[] 9)).ownsRow w.heap.size 9 1 (.slice (some ⟨w.heap.size, 0, none⟩) 0 0) 0 [] := fun w => World.ownsRow_made w #[] 0 (Nat.le_refl _) (Nat.zero_le _) rfl
    go_enter Tryz.func30, Tryz.ntmps30
    go_wp2_with (at_builtin; refine wpList_append_own _ rfl _ _ 23 rfl w.heap.size 9 i0 _ 1 16 Tryz.underlying23 hi0 hz0 hz1 hz2 rfl (by omega) _ _ _ rfl (HO w) ad n c (strC ks) rfl hcl (HN _) H1 (by unfold maxLen; omega) (by omega) (by simp) ?_; intro v' w6 hown1 hgrow hnil)
    go_ret
    rw [Nat.zero_add, List.nil_append] at hown1
    have hg2 : (w.alloc (.cells #[] 9)).grownBy w6 (some w.heap.size) := hgrow
    have B6 : Below w.heap.size w w6 := (Below.new1 _).grown hg2 (by simp) (fun k hk => by injection hk; omega)
    obtain ⟨a', c', rfl⟩ := own_form hown1
    exact ⟨a', c', rfl, own_ss hown1 (unhideR HL).symm (unhideR H4), B6⟩
set_option maxRecDepth 20000 in
set_option maxHeartbeats 2000000 in
theorem newMaker_l (w : World) (D : Nat → Prop) :
    Calls Tryz.prog 28 #[] w fun e w' => ∃ b m, e = .returned (.pointer (some ⟨b, 0, none⟩)) ∧ MakV D w' w.heap.size b m [] 0 (.slice none 0 0) ⟨[], 2147483647, 0, 0⟩ ∧ Below w.heap.size w w' := by
  have hmf : ∀ (fn : Fn) (first cap : Array Value) (w : World), (Instr.makeFunc fn first cap).run Tryz.prog w = .ok (.func fn first cap) w := fun _ _ _ _ => rfl
  have hmm := @run_makeMap Tryz.prog
  go_enter Tryz.func28, Tryz.ntmps28
  go_wp2_with fail
  go_ret
  have h0 := heap_alloc_new (w.alloc (.map #[] 0)) (.cells (mkCells (.slice none 0 0) w.heap.size (w.heap.size + 1) 0 ⟨[], 2147483647, 0, 0⟩) 77)
  rw [World.size_alloc] at h0
  exact ⟨w.heap.size + 1, w.heap.size, rfl, ⟨Nat.le_succ _, Nat.le_refl _, ⟨Int.le_refl _, by omega⟩, ⟨by simp, by simp⟩, h0, ⟨Nat.zero_le _, [], World.ownsRow_nil _ _ _ _, rfl⟩, (Nm.new w).later (Below.new1 _)⟩, (Below.new1 _).alloc (by simp) _⟩
def GramV (D : Nat → Prop) (w : World) (v : Value) (g : GR) : Prop :=
  ∃ a c cs aK cK, v = .agg #[.slice a g.1.length c, .slice aK g.2.length cK] ∧ RowT 39 D w a g.1.length c cs ∧ PrC D w g.1 cs ∧ Ss D w aK g.2.length cK g.2
def OfR (w : World) (r : Sum (Int × Int) GR) (e : Ending) (w' : World) : Prop :=
  (∃ q y, r = .inl (q, y) ∧ e = .returned (.tuple #[.agg #[.slice none 0 0, .slice none 0 0], .int .i64 q, .int .i64 y])) ∨
  (∃ g v, r = .inr g ∧ e = .returned (.tuple #[v, .int .i64 0, .int .i64 0]) ∧ GramV (New w w') w' v g)
theorem res_of {tmps : Array Value} {g : Nat} {x y f0 f1 : Value} (h2 : tmps.getD 2 undef = .pointer (some ⟨g, 0, none⟩)) (h3 : tmps.getD 3 undef = x) (h4 : tmps.getD 4 undef = y) {X : World} (o : X.heap[g]? = some (.cells #[f0, f1] 32)) :
    (results Tryz.f11 tmps).run Tryz.prog X = .ok (.tuple #[.agg #[f0, f1], x, y]) X := by
  obtain ⟨⟨c0, c1⟩, -⟩ := cells2f o
  have p2 : tmps[2]?.getD undef = .pointer (some ⟨g, 0, none⟩) := by rw [← h2]; simp [Array.getD_eq_getD_getElem?]
  have p3 : tmps[3]?.getD undef = x := by rw [← h3]; simp [Array.getD_eq_getD_getElem?]
  have p4 : tmps[4]?.getD undef = y := by rw [← h4]; simp [Array.getD_eq_getD_getElem?]
  simp [results, Tryz.results11, go_sem, p2, p3, p4, c0, c1]
theorem set2_at {W : World} {g : Nat} {y0 y1 : Value} {t : TypeId} (h : W.heap[g]? = some (.cells #[y0, y1] t)) (x0 x1 : Value) : ((W.setCell ⟨g, 0, none⟩ x0).setCell ⟨g, 1, none⟩ x1).heap[g]? = some (.cells #[x0, x1] t) := by
  have h0 := heap_setCell_same W g 0 _ _ x0 h
  have h1 := heap_setCell_same _ g 1 _ _ x1 h0
  rw [h1]; simp
theorem made_gram {D D' : Nat → Prop} {w X : World} {B : Nat} {v : Value} {l : List PRD} (h : MadeV D w B v l) (hD : ∀ g, B ≤ g → D g) (k : Kp D D' w X) (hk : ∀ g o, D g → w.heap[g]? = some o → D' g ∧ X.heap[g]? = some o) : ∃ a c cs, v = .slice a l.length c ∧ RowT 39 D' X a l.length c cs ∧ PrC D' X l cs := by
  obtain ⟨-, cs, own, hp⟩ := h
  obtain ⟨a, c, rfl⟩ := own_form own
  exact ⟨a, c, cs, rfl, (RowT.ofOwn own (D := D) (fun g hg => hD g (own.lt g hg).1)).kept (fun g cur fr hd hg => hk g _ hd hg), PrC.kp k _ _ hp⟩
set_option maxRecDepth 20000 in
set_option maxHeartbeats 8000000 in
theorem of_at (n : Nat) {D : Nat → Prop} {w : World} (aK : Option Addr) (cK : Nat) (a : Option Addr) (cap : Nat) (K : List (List Int)) (L : List RU) (hK : Ss D w aK K.length cK K) (hr : RsV w.heap.size n w a L.length cap L) (hD : ∀ g, D g → g < w.heap.size) (hKs : K.length ≤ 1000000) (hN : ∀ u ∈ L, u.2.2.2.1.length ≤ 1000000) (hS : ∀ u ∈ L, smP n u.2.2.1) :
    Calls Tryz.prog 11 #[.agg #[.slice aK K.length cK, .slice a L.length cap]] w fun e w' => OfR w (flatL n (K, L)) e w' ∧ Below w.heap.size w w' := by
  have B2 : ∀ o1 o2, Below w.heap.size w ((w.alloc o1).alloc o2) := fun o1 o2 => (Below.new1 o1).alloc (by simp) o2
  have CN := hideR (fun W => newMaker_l W (fun k => W.heap.size ≤ k))
  have CR := hideR (fun (W w1 : World) (b m : Nat) (bW : Below w.heap.size w W) (b1 : Below W.heap.size W w1) (hm : MakV (fun k => W.heap.size ≤ k) w1 W.heap.size b m [] 0 (.slice none 0 0) ⟨[], 2147483647, 0, 0⟩) => frules_l (n := n) a L.length cap L b1.size (fun k hk => Nat.le_trans b1.size hk) hm ⟨hr.hlen, hr.hsmall, hr.hcap, by
    obtain ⟨cs, r5, rc⟩ := hr.hcs
    have bb := bthen bW b1
    exact ⟨cs, r5.kept (fun g hg => ⟨Nat.lt_of_lt_of_le hg bW.size, bb.block g hg⟩), RuC.mono (fun u q hq => hq.kept (fun g hg => ⟨Nat.lt_of_lt_of_le hg bW.size, bb.block g hg⟩) (KR.of bb)) _ _ rc⟩⟩ hN hS)
  have CK := hideR (fun W (bW : Below w.heap.size w W) => cloneStr_l (D := D) aK K.length cK K W (hK.kept (fun g hg => ⟨hg, bW.block g (hD g hg)⟩)) hKs)
  clear hK hr hN hS hD hKs
  have HFL := hideR (show flatL n (K, L) = if (flatM n L).why = 0 then .inr ((flatM n L).made, K) else .inl ((flatM n L).pl, (flatM n L).why) from rfl)
  generalize flatM n L = r at *
  generalize hKL : K.length = KL at *
  generalize L.length = RL at *
  have HKL := hideR hKL
  clear hKL
  generalize hFF : flatL n (K, L) = ff at *
  clear hFF
  go_enter Tryz.func11, Tryz.ntmps11
  go_wp2_with fail
  refine (unhideR CN _).mono ?_
  clear CN
  rintro e w1 ⟨b, m, rfl, mk1, b1⟩
  have BW := B2 (.cells #[.slice aK KL cK, .slice a RL cap] 26) (.cells #[.slice none 0 0, .slice none 0 0] 32)
  have P0 : ((w.alloc (.cells #[.slice aK KL cK, .slice a RL cap] 26)).alloc (.cells #[.slice none 0 0, .slice none 0 0] 32)).heap[w.heap.size]? = some (.cells #[.slice aK KL cK, .slice a RL cap] 26) := old_at (heap_alloc_new w _) _
  have P1 : ((w.alloc (.cells #[.slice aK KL cK, .slice a RL cap] 26)).alloc (.cells #[.slice none 0 0, .slice none 0 0] 32)).heap[w.heap.size + 1]? = some (.cells #[.slice none 0 0, .slice none 0 0] 32) := by have := heap_alloc_new (w.alloc (.cells #[.slice aK KL cK, .slice a RL cap] 26)) (.cells #[.slice none 0 0, .slice none 0 0] 32); rw [World.size_alloc] at this; exact this
  have sW : ((w.alloc (.cells #[.slice aK KL cK, .slice a RL cap] 26)).alloc (.cells #[.slice none 0 0, .slice none 0 0] 32)).heap.size = w.heap.size + 2 := by simp
  generalize ((w.alloc (.cells #[.slice aK KL cK, .slice a RL cap] 26)).alloc (.cells #[.slice none 0 0, .slice none 0 0] 32)) = W at *
  have P0 := (b1.block _ (by omega)).trans P0
  have P1 := (b1.block _ (by omega)).trans P1
  have hb := mk1.hB
  have hb1 := mk1.lt
  have CR2 := hideR (unhideR CR W w1 b m BW b1 mk1)
  have HB1 := hideR b1
  have HM1 := hideR mk1
  have s1 := b1.size
  clear CR mk1 b1
  obtain ⟨⟨x0, x1⟩, -⟩ := cells2f P0
  go_wp2_with fail
  refine (unhideR CR2).mono ?_
  clear CR2
  rintro e w2 ⟨rfl, ⟨v2, ns2, mk2⟩, f2⟩
  have P0 := (f2.1.block _ (by omega)).trans P0
  have P1 := (f2.1.block _ (by omega)).trans P1
  clear x0 x1
  obtain ⟨⟨x0, x1⟩, -⟩ := cells2f P0
  obtain ⟨⟨y0, y1⟩, z0, z1⟩ := cells2f P1
  obtain ⟨c0, -, -, -, c13, c14, -⟩ := mcells mk2.cells
  have hb2 := mk2.lt
  have BB : Below w.heap.size w w2 := bthen BW ((unhideR HB1).trans f2.1)
  have HBB := hideR BB
  have s2 := f2.2.2
  obtain ⟨ma, mc, rfl⟩ := mk2.made.form
  have HMD := hideR mk2.made
  have HMC := hideR mk2.cells
  have HF2 := hideR f2
  clear mk2 f2 HM1 BB BW
  by_cases hw : r.why = 0
  · have hbb : (r.why != 0) = false := by rw [hw]; rfl
    have FIN : Hid (ff = .inr (r.made, K)) := by have := unhideR HFL; rw [if_pos hw] at this; exact this
    clear hw HFL
    go_wp2_with fail
    clear c13 c14
    refine wp_region_held_drew (S := (fun w' => w'.cell? ⟨b, 0, none⟩ = some (.slice ma r.made.length mc) ∧ w'.cell? ⟨w.heap.size, 0, none⟩ = some (.slice aK KL cK))) (by kernel_rfl) (⟨c0, x0⟩) (fun hHeld => ?_)
    refine wpAnyH_take (i := 0) (v := ?_) rfl (by kernel_rfl) (by kernel_rfl) (by kernel_rfl) (fun _ _ _ h => h) (Or.inl ⟨by kernel_rfl, ?_⟩) (by assumption) ?_
    rotate_left
    · intro w hSw; obtain ⟨k1, k2⟩ := hSw; (try clear hSw); go_simp; (try with_reducible rfl)
    try simp only [Act.put, List.getElem_toArray, List.getElem_cons_succ, List.getElem_cons_zero, List.setIfInBounds_toArray, List.set_cons_zero, List.set_cons_succ]
    refine wpAnyH_take (i := 1) (v := ?_) rfl (by kernel_rfl) (by kernel_rfl) (by kernel_rfl) (fun _ _ _ h => h) (Or.inl ⟨by kernel_rfl, ?_⟩) (by assumption) ?_
    rotate_left
    · intro w hSw; obtain ⟨k1, k2⟩ := hSw; (try clear hSw); go_simp; (try with_reducible rfl)
    try simp only [Act.put, List.getElem_toArray, List.getElem_cons_succ, List.getElem_cons_zero, List.setIfInBounds_toArray, List.set_cons_zero, List.set_cons_succ]
    refine wpAnyH_take (i := 2) (v := ?_) rfl (by kernel_rfl) (by kernel_rfl) (by kernel_rfl) (fun _ _ _ h => h) (Or.inl ⟨by kernel_rfl, ?_⟩) (by assumption) ?_
    rotate_left
    · intro w hSw; obtain ⟨k1, k2⟩ := hSw; (try clear hSw); go_simp; (try with_reducible rfl)
    try simp only [Act.put, List.getElem_toArray, List.getElem_cons_succ, List.getElem_cons_zero, List.setIfInBounds_toArray, List.set_cons_zero, List.set_cons_succ]
    refine wpAnyH_take (i := 3) (v := ?_) rfl (by kernel_rfl) (by kernel_rfl) (by kernel_rfl) (fun _ _ _ h => h) (Or.inl ⟨by kernel_rfl, ?_⟩) (by assumption) ?_
    rotate_left
    · intro w hSw; obtain ⟨k1, k2⟩ := hSw; (try clear hSw); go_simp; (try with_reducible rfl)
    try simp only [Act.put, List.getElem_toArray, List.getElem_cons_succ, List.getElem_cons_zero, List.setIfInBounds_toArray, List.set_cons_zero, List.set_cons_succ]
    refine wpAnyH_take (i := 4) (v := ?_) rfl (by kernel_rfl) (by kernel_rfl) (by kernel_rfl) (fun _ _ _ h => h) (Or.inl ⟨by kernel_rfl, ?_⟩) (by assumption) ?_
    rotate_left
    · intro w hSw; obtain ⟨k1, k2⟩ := hSw; (try clear hSw); go_simp; (try with_reducible rfl)
    try simp only [Act.put, List.getElem_toArray, List.getElem_cons_succ, List.getElem_cons_zero, List.setIfInBounds_toArray, List.set_cons_zero, List.set_cons_succ]
    refine wpAnyH_take (i := 5) (v := ?_) rfl (by kernel_rfl) (by kernel_rfl) (by kernel_rfl) (fun _ _ _ h => h) (Or.inl ⟨by kernel_rfl, ?_⟩) (by assumption) ?_
    rotate_left
    · intro w hSw; obtain ⟨k1, k2⟩ := hSw; (try clear hSw); go_simp; (try with_reducible rfl)
    try simp only [Act.put, List.getElem_toArray, List.getElem_cons_succ, List.getElem_cons_zero, List.setIfInBounds_toArray, List.set_cons_zero, List.set_cons_succ]
    refine wpAnyH_ready (rs := [6]) (by kernel_rfl) (by simp) ?_
    refine AllReadyH.cons rfl (fun K hK => ?_) AllReadyH.nil
    go_simp
    refine (unhideR CK _ (bthen (unhideR HBB) (draws_b (k := 1)))).mono ?_
    clear CK
    rintro e w3 ⟨a3, c3, rfl, ss3, b3⟩
    have b3 : Below w2.heap.size w2 w3 := bthen (w1 := w2.drew) (draws_b (k := 1)) b3
    have s3 := b3.size
    have hs2D : w2.drew.heap.size = w2.heap.size := rfl
    have P1 := (b3.block _ (show w.heap.size + 1 < w2.heap.size by omega)).trans P1
    have c0 := (b3.cell (p := ⟨b, 0, none⟩) hb2).trans c0
    have x0 := (b3.cell (p := ⟨w.heap.size, 0, none⟩) (show w.heap.size < w2.heap.size by omega)).trans x0
    clear y0 y1 z0 z1
    obtain ⟨⟨y0, y1⟩, z0, z1⟩ := cells2f P1
    have HB3 := hideR b3
    have HS3 := hideR ss3
    have PE := set2_at P1 (.slice ma r.made.length mc) (.slice a3 KL c3)
    have BE : Below w2.heap.size w2 w3 ∧ Below w.heap.size w ((w3.setCell ⟨w.heap.size + 1, 0, none⟩ (.slice ma r.made.length mc)).setCell ⟨w.heap.size + 1, 1, none⟩ (.slice a3 KL c3)) := ⟨b3, ((bthen (unhideR HBB) b3).setCell (p := ⟨w.heap.size + 1, 0, none⟩) (Nat.le_succ _) _).setCell (p := ⟨w.heap.size + 1, 1, none⟩) (Nat.le_succ _) _⟩
    have E0 : ((w3.setCell ⟨w.heap.size + 1, 0, none⟩ (.slice ma r.made.length mc)).setCell ⟨w.heap.size + 1, 1, none⟩ (.slice a3 KL c3)).cell? ⟨b, 0, none⟩ = some (.slice ma r.made.length mc) := (World.cell?_of_block ((Below.heap_setCell _ ⟨w.heap.size + 1, 1, none⟩ _ b (show b ≠ w.heap.size + 1 by omega)).trans (Below.heap_setCell _ ⟨w.heap.size + 1, 0, none⟩ _ b (show b ≠ w.heap.size + 1 by omega)))).trans c0
    have E1 : ((w3.setCell ⟨w.heap.size + 1, 0, none⟩ (.slice ma r.made.length mc)).setCell ⟨w.heap.size + 1, 1, none⟩ (.slice a3 KL c3)).cell? ⟨w.heap.size, 0, none⟩ = some (.slice aK KL cK) := (World.cell?_of_block ((Below.heap_setCell _ ⟨w.heap.size + 1, 1, none⟩ _ w.heap.size (show w.heap.size ≠ w.heap.size + 1 by omega)).trans (Below.heap_setCell _ ⟨w.heap.size + 1, 0, none⟩ _ w.heap.size (show w.heap.size ≠ w.heap.size + 1 by omega)))).trans x0
    clear b3 ss3
    go_wp2_with fail
    refine hK.out _ _ (⟨c0, x0⟩) (fun hHeld => ?_)
    clear hK K
    try simp only [Act.put, List.getElem_toArray, List.getElem_cons_succ, List.getElem_cons_zero, List.setIfInBounds_toArray, List.set_cons_zero, List.set_cons_succ]
    refine wpAnyH_take (i := 7) (v := ?_) rfl (by kernel_rfl) (by kernel_rfl) (by kernel_rfl) (fun _ _ _ h => h) (Or.inl ⟨by kernel_rfl, ?_⟩) (by assumption) ?_
    rotate_left
    · intro w hSw; skip; (try clear hSw); go_simp; (try with_reducible rfl)
    try simp only [Act.put, List.getElem_toArray, List.getElem_cons_succ, List.getElem_cons_zero, List.setIfInBounds_toArray, List.set_cons_zero, List.set_cons_succ]
    refine wpAnyH_ready (rs := [8]) (by kernel_rfl) (by simp) ?_
    refine AllReadyH.cons rfl (fun K hK => ?_) AllReadyH.nil
    go_simp
    refine hK.out _ _ (⟨E0, E1⟩) (fun hHeld => ?_)
    clear hK K
    try simp only [Act.put, List.getElem_toArray, List.getElem_cons_succ, List.getElem_cons_zero, List.setIfInBounds_toArray, List.set_cons_zero, List.set_cons_succ]
    refine wpAnyH_take (i := 9) (v := ?_) rfl (by kernel_rfl) (by kernel_rfl) (by kernel_rfl) (fun _ _ _ h => h) (Or.inl ⟨by kernel_rfl, ?_⟩) (by assumption) ?_
    rotate_left
    · intro w hSw; skip; (try clear hSw); go_simp; (try with_reducible rfl)
    try simp only [Act.put, List.getElem_toArray, List.getElem_cons_succ, List.getElem_cons_zero, List.setIfInBounds_toArray, List.set_cons_zero, List.set_cons_succ]
    refine wpAnyH_take (i := 10) (v := ?_) rfl (by kernel_rfl) (by kernel_rfl) (by kernel_rfl) (fun _ _ _ h => h) (Or.inl ⟨by kernel_rfl, ?_⟩) (by assumption) ?_
    rotate_left
    · intro w hSw; skip; (try clear hSw); go_simp; (try with_reducible rfl)
    try simp only [Act.put, List.getElem_toArray, List.getElem_cons_succ, List.getElem_cons_zero, List.setIfInBounds_toArray, List.set_cons_zero, List.set_cons_succ]
    refine wpAnyH_done (by kernel_rfl) ?_ _
    clear E0 E1 hHeld
    go_wp2_with fail
    (try simp only [Exit.inBlock, Exit.then])
    refine bodyPost_ret (v := .tuple #[.agg #[.slice ma r.made.length mc, .slice a3 KL c3], .int .i64 0, .int .i64 0]) (res_of rfl rfl rfl PE) rfl ⟨.inr ⟨(r.made, K), _, unhideR FIN, rfl, ?_⟩, BE.2⟩
    have oth : ∀ g o, g ≠ w.heap.size + 1 → w3.heap[g]? = some o → ((w3.setCell ⟨w.heap.size + 1, 0, none⟩ (.slice ma r.made.length mc)).setCell ⟨w.heap.size + 1, 1, none⟩ (.slice a3 KL c3)).heap[g]? = some o := fun g o hg ho => other_at (other_at ho hg _) hg _
    have sE : ((w3.setCell ⟨w.heap.size + 1, 0, none⟩ (.slice ma r.made.length mc)).setCell ⟨w.heap.size + 1, 1, none⟩ (.slice a3 KL c3)).heap.size = w3.heap.size := by simp
    have key : ∀ g o, W.heap.size ≤ g → w2.heap[g]? = some o → New w ((w3.setCell ⟨w.heap.size + 1, 0, none⟩ (.slice ma r.made.length mc)).setCell ⟨w.heap.size + 1, 1, none⟩ (.slice a3 KL c3)) g ∧ ((w3.setCell ⟨w.heap.size + 1, 0, none⟩ (.slice ma r.made.length mc)).setCell ⟨w.heap.size + 1, 1, none⟩ (.slice a3 KL c3)).heap[g]? = some o := fun g o hg ho => ⟨⟨by omega, by rw [sE]; have := (Array.getElem?_eq_some_iff.1 ho).1; omega⟩, oth g o (by omega) (((unhideR HB3).block g (Array.getElem?_eq_some_iff.1 ho).1).trans ho)⟩
    have krE : KR w2 ((w3.setCell ⟨w.heap.size + 1, 0, none⟩ (.slice ma r.made.length mc)).setCell ⟨w.heap.size + 1, 1, none⟩ (.slice a3 KL c3)) := fun g cs fr hg => oth g _ (fun e => by subst e; have := ((unhideR HB3).block _ (Array.getElem?_eq_some_iff.1 hg).1).trans hg; rw [P1] at this; injection this with this; injection this with _ this; exact absurd this (by decide)) (((unhideR HB3).block g (Array.getElem?_eq_some_iff.1 hg).1).trans hg)
    obtain ⟨ag, cg, cs, eg, rt, pc⟩ := made_gram (unhideR HMD) (fun g hg => hg) ⟨krE, fun g cur fr t _ hd hg => key g _ hd hg⟩ (fun g o hd hg => key g o hd hg)
    injection eg with e1 e2 e3
    subst e1
    subst e3
    refine ⟨_, _, cs, a3, c3, by show Value.agg _ = Value.agg _; rw [unhideR HKL], rt, pc, ?_⟩
    show Ss _ _ a3 K.length c3 K
    rw [unhideR HKL]
    have lowW : w.heap.size + 2 ≤ w2.heap.size := by omega
    refine (unhideR HS3).kept (fun g hg => ?_)
    have e9 : w.heap.size + 2 ≤ g := Nat.le_trans lowW hg.1
    refine ⟨⟨by omega, by rw [sE]; exact hg.2⟩, ?_⟩
    rw [Below.heap_setCell _ ⟨w.heap.size + 1, 1, none⟩ _ g (show g ≠ w.heap.size + 1 by omega), Below.heap_setCell _ ⟨w.heap.size + 1, 0, none⟩ _ g (show g ≠ w.heap.size + 1 by omega)]
  · have hbb : (r.why != 0) = true := by rw [bne_iff_ne]; exact hw
    have FIN : Hid (ff = .inl (r.pl, r.why)) := by have := unhideR HFL; rw [if_neg hw] at this; exact this
    clear hw HFL HMD CK
    have PE := set2_at (W := w2.drew) P1 (.slice none 0 0) (.slice none 0 0)
    have BE : Below w.heap.size w ((w2.drew.setCell ⟨w.heap.size + 1, 0, none⟩ (.slice none 0 0)).setCell ⟨w.heap.size + 1, 1, none⟩ (.slice none 0 0)) := ((bthen (unhideR HBB) (draws_b (k := 1))).setCell (p := ⟨w.heap.size + 1, 0, none⟩) (Nat.le_succ _) _).setCell (p := ⟨w.heap.size + 1, 1, none⟩) (Nat.le_succ _) _
    have E13 : ((w2.drew.setCell ⟨w.heap.size + 1, 0, none⟩ (.slice none 0 0)).setCell ⟨w.heap.size + 1, 1, none⟩ (.slice none 0 0)).cell? ⟨b, 13, none⟩ = some (.int .i64 r.pl) := by have h1 := other_at (i := 1) (other_at (i := 0) (show w2.drew.heap[b]? = _ from unhideR HMC) (show b ≠ w.heap.size + 1 by omega) (.slice none 0 0)) (show b ≠ w.heap.size + 1 by omega) (.slice none 0 0); exact (mcells h1).2.2.2.2.1
    have E14 : ((w2.drew.setCell ⟨w.heap.size + 1, 0, none⟩ (.slice none 0 0)).setCell ⟨w.heap.size + 1, 1, none⟩ (.slice none 0 0)).cell? ⟨b, 14, none⟩ = some (.int .i64 r.why) := by have h1 := other_at (i := 1) (other_at (i := 0) (show w2.drew.heap[b]? = _ from unhideR HMC) (show b ≠ w.heap.size + 1 by omega) (.slice none 0 0)) (show b ≠ w.heap.size + 1 by omega) (.slice none 0 0); exact (mcells h1).2.2.2.2.2.1
    go_wp2_with fail
    refine wp_region_held_drew (S := (fun w' => w'.cell? ⟨b, 13, none⟩ = some (.int .i64 r.pl) ∧ w'.cell? ⟨b, 14, none⟩ = some (.int .i64 r.why))) (by kernel_rfl) (⟨c13, c14⟩) (fun hHeld => ?_)
    refine wpAnyH_take (i := 0) (v := ?_) rfl (by kernel_rfl) (by kernel_rfl) (by kernel_rfl) (fun _ _ _ h => h) (Or.inl ⟨by kernel_rfl, ?_⟩) (by assumption) ?_
    rotate_left
    · intro w hSw; obtain ⟨k1, k2⟩ := hSw; (try clear hSw); go_simp; (try with_reducible rfl)
    try simp only [Act.put, List.getElem_toArray, List.getElem_cons_succ, List.getElem_cons_zero, List.setIfInBounds_toArray, List.set_cons_zero, List.set_cons_succ]
    refine wpAnyH_take (i := 1) (v := ?_) rfl (by kernel_rfl) (by kernel_rfl) (by kernel_rfl) (fun _ _ _ h => h) (Or.inl ⟨by kernel_rfl, ?_⟩) (by assumption) ?_
    rotate_left
    · intro w hSw; obtain ⟨k1, k2⟩ := hSw; (try clear hSw); go_simp; (try with_reducible rfl)
    try simp only [Act.put, List.getElem_toArray, List.getElem_cons_succ, List.getElem_cons_zero, List.setIfInBounds_toArray, List.set_cons_zero, List.set_cons_succ]
    refine wpAnyH_take (i := 2) (v := ?_) rfl (by kernel_rfl) (by kernel_rfl) (by kernel_rfl) (fun _ _ _ h => h) (Or.inl ⟨by kernel_rfl, ?_⟩) (by assumption) ?_
    rotate_left
    · intro w hSw; obtain ⟨k1, k2⟩ := hSw; (try clear hSw); go_simp; (try with_reducible rfl)
    try simp only [Act.put, List.getElem_toArray, List.getElem_cons_succ, List.getElem_cons_zero, List.setIfInBounds_toArray, List.set_cons_zero, List.set_cons_succ]
    refine wpAnyH_take (i := 3) (v := ?_) rfl (by kernel_rfl) (by kernel_rfl) (by kernel_rfl) (fun _ _ _ h => h) (Or.inl ⟨by kernel_rfl, ?_⟩) (by assumption) ?_
    rotate_left
    · intro w hSw; obtain ⟨k1, k2⟩ := hSw; (try clear hSw); go_simp; (try with_reducible rfl)
    try simp only [Act.put, List.getElem_toArray, List.getElem_cons_succ, List.getElem_cons_zero, List.setIfInBounds_toArray, List.set_cons_zero, List.set_cons_succ]
    refine wpAnyH_take (i := 4) (v := ?_) rfl (by kernel_rfl) (by kernel_rfl) (by kernel_rfl) (fun _ _ _ h => h) (Or.inl ⟨by kernel_rfl, ?_⟩) (by assumption) ?_
    rotate_left
    · intro w hSw; obtain ⟨k1, k2⟩ := hSw; (try clear hSw); go_simp; (try with_reducible rfl)
    try simp only [Act.put, List.getElem_toArray, List.getElem_cons_succ, List.getElem_cons_zero, List.setIfInBounds_toArray, List.set_cons_zero, List.set_cons_succ]
    refine wpAnyH_take (i := 5) (v := ?_) rfl (by kernel_rfl) (by kernel_rfl) (by kernel_rfl) (fun _ _ _ h => h) (Or.inl ⟨by kernel_rfl, ?_⟩) (by assumption) ?_
    rotate_left
    · intro w hSw; obtain ⟨k1, k2⟩ := hSw; (try clear hSw); go_simp; (try with_reducible rfl)
    try simp only [Act.put, List.getElem_toArray, List.getElem_cons_succ, List.getElem_cons_zero, List.setIfInBounds_toArray, List.set_cons_zero, List.set_cons_succ]
    refine wpAnyH_take (i := 6) (v := ?_) rfl (by kernel_rfl) (by kernel_rfl) (by kernel_rfl) (fun _ _ _ h => h) (Or.inl ⟨by kernel_rfl, ?_⟩) (by assumption) ?_
    rotate_left
    · intro w hSw; obtain ⟨k1, k2⟩ := hSw; (try clear hSw); go_simp; (try with_reducible rfl)
    try simp only [Act.put, List.getElem_toArray, List.getElem_cons_succ, List.getElem_cons_zero, List.setIfInBounds_toArray, List.set_cons_zero, List.set_cons_succ]
    refine wpAnyH_take (i := 7) (v := ?_) rfl (by kernel_rfl) (by kernel_rfl) (by kernel_rfl) (fun _ _ _ h => h) (Or.inl ⟨by kernel_rfl, ?_⟩) (by assumption) ?_
    rotate_left
    · intro w hSw; obtain ⟨k1, k2⟩ := hSw; (try clear hSw); go_simp; (try with_reducible rfl)
    try simp only [Act.put, List.getElem_toArray, List.getElem_cons_succ, List.getElem_cons_zero, List.setIfInBounds_toArray, List.set_cons_zero, List.set_cons_succ]
    refine wpAnyH_take (i := 8) (v := ?_) rfl (by kernel_rfl) (by kernel_rfl) (by kernel_rfl) (fun _ _ _ h => h) (Or.inl ⟨by kernel_rfl, ?_⟩) (by assumption) ?_
    rotate_left
    · intro w hSw; obtain ⟨k1, k2⟩ := hSw; (try clear hSw); go_simp; (try with_reducible rfl)
    try simp only [Act.put, List.getElem_toArray, List.getElem_cons_succ, List.getElem_cons_zero, List.setIfInBounds_toArray, List.set_cons_zero, List.set_cons_succ]
    refine wpAnyH_ready (rs := [9]) (by kernel_rfl) (by simp) ?_
    refine AllReadyH.cons rfl (fun K hK => ?_) AllReadyH.nil
    go_simp
    refine hK.out _ _ (⟨E13, E14⟩) (fun hHeld => ?_)
    clear hK K
    try simp only [Act.put, List.getElem_toArray, List.getElem_cons_succ, List.getElem_cons_zero, List.setIfInBounds_toArray, List.set_cons_zero, List.set_cons_succ]
    refine wpAnyH_take (i := 10) (v := ?_) rfl (by kernel_rfl) (by kernel_rfl) (by kernel_rfl) (fun _ _ _ h => h) (Or.inl ⟨by kernel_rfl, ?_⟩) (by assumption) ?_
    rotate_left
    · intro w hSw; skip; (try clear hSw); go_simp; (try with_reducible rfl)
    try simp only [Act.put, List.getElem_toArray, List.getElem_cons_succ, List.getElem_cons_zero, List.setIfInBounds_toArray, List.set_cons_zero, List.set_cons_succ]
    refine wpAnyH_take (i := 11) (v := ?_) rfl (by kernel_rfl) (by kernel_rfl) (by kernel_rfl) (fun _ _ _ h => h) (Or.inl ⟨by kernel_rfl, ?_⟩) (by assumption) ?_
    rotate_left
    · intro w hSw; skip; (try clear hSw); go_simp; (try with_reducible rfl)
    try simp only [Act.put, List.getElem_toArray, List.getElem_cons_succ, List.getElem_cons_zero, List.setIfInBounds_toArray, List.set_cons_zero, List.set_cons_succ]
    refine wpAnyH_done (by kernel_rfl) ?_ _
    clear E13 E14 hHeld c13 c14
    go_wp2_with fail
    (try simp only [Exit.inBlock, Exit.then])
    refine bodyPost_ret (v := .tuple #[.agg #[.slice none 0 0, .slice none 0 0], .int .i64 r.pl, .int .i64 r.why]) (res_of rfl rfl rfl PE) rfl ⟨.inl ⟨r.pl, r.why, unhideR FIN, rfl⟩, BE⟩
end Go.Proofs.YtamefbpdnblbdaaGreatDoor.F

namespace Go.Proofs.YtamefbpdnblbdaaGreatDoor.F
open Go.RowKit Go.Proofs.YtamefbpdnblbdaaGreatDoor.T Go.Proofs.YtamefbpdnblbdaaGreatDoor.R
set_option linter.unusedVariables false
set_option linter.unusedSimpArgs false

theorem PrC.at2 {D : Nat → Prop} {w : World} : ∀ (l : List PRD) (cs : List Value) (j : Nat), PrC D w l cs → j < l.length → ∃ c0 c2 p, cs[3 * j]? = some c0 ∧ cs[3 * j + 1]? = some (.int .i64 p.2.1) ∧ cs[3 * j + 2]? = some c2 ∧ AltV D w c0 p.1 ∧ NotV w c2 p.2.2 ∧ l.drop j = p :: l.drop (j + 1) ∧ p ∈ l := by
  intro l
  induction l with
  | nil => intro cs j _ hj; simp at hj
  | cons x l ih =>
    intro cs j h hj
    obtain ⟨c0, c2, cs', rfl, ha, hn, ht⟩ := h
    cases j with
    | zero => exact ⟨c0, c2, x, rfl, rfl, rfl, ha, hn, rfl, List.mem_cons_self ..⟩
    | succ j =>
      obtain ⟨d0, d2, p, h0, h1, h2, ha', hn', hd, hm⟩ := ih cs' j ht (by simp at hj; omega)
      refine ⟨d0, d2, p, ?_, ?_, ?_, ha', hn', by simpa using hd, List.mem_cons_of_mem _ hm⟩
      · rw [show 3 * (j + 1) = 3 * j + 1 + 1 + 1 by omega]; simpa using h0
      · rw [show 3 * (j + 1) + 1 = 3 * j + 1 + 1 + 1 + 1 by omega]; simpa using h1
      · rw [show 3 * (j + 1) + 2 = 3 * j + 2 + 1 + 1 + 1 by omega]; simpa using h2
theorem prods_at {D : Nat → Prop} {w : World} {a : Option Addr} {len cap : Nat} {cs : List Value} {l : List PRD} (hr : RowT 39 D w a len cap cs) (hp : PrC D w l cs) (j : Nat) (hj : j < l.length) : ∃ g off x0 n0 k0 x2 n2 k2 p, a = some ⟨g, off, none⟩ ∧ g < w.heap.size ∧ w.cell? ⟨g, off + 3 * j, none⟩ = some (.slice x0 n0 k0) ∧ w.cell? ⟨g, off + 3 * j + 1, none⟩ = some (.int .i64 p.2.1) ∧ w.cell? ⟨g, off + 3 * j + 2, none⟩ = some (.slice x2 n2 k2) ∧ AltV D w (.slice x0 n0 k0) p.1 ∧ NotV w (.slice x2 n2 k2) p.2.2 ∧ l.drop j = p :: l.drop (j + 1) ∧ p ∈ l := by
  obtain ⟨c0, c2, p, h0, h1, h2, ha, hn, hd, hm⟩ := PrC.at2 l cs j hp hj
  obtain ⟨g, off, hA, -, q0⟩ := hr.cell h0
  have key : ∀ i u, cs[3 * j + i]? = some u → w.cell? ⟨g, off + 3 * j + i, none⟩ = some u := fun i u hu => by
    obtain ⟨g', off', ha', -, q⟩ := hr.cell hu
    rw [hA] at ha'
    injection ha' with ha'
    injection ha' with e1 e2
    subst e1; subst e2
    rw [Nat.add_assoc]; exact q
  obtain ⟨xa, xc, xs, e0, -⟩ := id ha
  obtain ⟨ya, yc, e2, -⟩ := id hn
  subst e0; subst e2
  exact ⟨g, off, _, _, _, _, _, _, p, hA, block_lt' q0, q0, key 1 _ h1, key 2 _ h2, ha, hn, hd, hm⟩
theorem GramV.kp {D D' : Nat → Prop} {w X : World} {v : Value} {g : GR} (h : GramV D w v g) (k : ∀ g o, D g → w.heap[g]? = some o → D' g ∧ X.heap[g]? = some o) (kr : KR w X) (hs : ∀ g, D g → g < w.heap.size) : GramV D' X v g := by
  obtain ⟨a, c, cs, aK, cK, e, h1, h2, h3⟩ := h
  refine ⟨a, c, cs, aK, cK, e, h1.kept (fun g cur fr hd hg => k g _ hd hg), PrC.kp ⟨kr, fun g cur fr t _ hd hg => k g _ hd hg⟩ _ _ h2, h3.kept (fun g hg => ?_)⟩
  have hlt := hs g hg
  obtain ⟨k1, k2⟩ := k g _ hg (Array.getElem?_eq_getElem hlt)
  exact ⟨k1, k2.trans (Array.getElem?_eq_getElem hlt).symm⟩
theorem GramV.later {D : Nat → Prop} {w X : World} {v : Value} {g : GR} (h : GramV D w v g) (b : Below w.heap.size w X) (hs : ∀ g, D g → g < w.heap.size) : GramV D X v g :=
  h.kp (fun g o hd hg => ⟨hd, (b.block g (hs g hd)).trans hg⟩) (KR.of b) hs
end Go.Proofs.YtamefbpdnblbdaaGreatDoor.F

namespace Go.Proofs.YtamefbpdnblbdaaGreatDoor.F
open Go.RowKit Go.Proofs.YtamefbpdnblbdaaGreatDoor.T Go.Proofs.YtamefbpdnblbdaaGreatDoor.R
set_option linter.unusedVariables false
set_option linter.unusedSimpArgs false

theorem seq_congr {f g : PF} : ∀ (ps : List PT), (∀ x ∈ ps, ∀ m l, f m l x = g m l x) → ∀ m l, seqM f ps m l = seqM g ps m l := by
  intro ps
  induction ps with
  | nil => intro _ m l; rfl
  | cons p ps ih =>
    intro h m l
    unfold seqM
    rw [h p (List.mem_cons_self ..), ih (fun x hx => h x (List.mem_cons_of_mem _ hx))]
theorem each_congr {f g : PF} : ∀ (ps : List PT), (∀ x ∈ ps, ∀ m l, f m l x = g m l x) → ∀ m a, eachM f ps m a = eachM g ps m a := by
  intro ps
  induction ps with
  | nil => intro _ m a; rfl
  | cons p ps ih =>
    intro h m a
    unfold eachM
    rw [h p (List.mem_cons_self ..), ih (fun x hx => h x (List.mem_cons_of_mem _ hx))]
theorem only_congr {f g : PF} (p : PT) (h : ∀ x ∈ psP p, ∀ m l, f m l x = g m l x) (m : Mk) : onlyM f p m = onlyM g p m := by
  unfold onlyM
  split
  · rename_i x e
    rw [h x (by rw [e]; simp)]
  · rfl
theorem way_congr (ns : List (List Int)) {f g : PF} (p : PT) (h : ∀ x ∈ psP p, ∀ m l, f m l x = g m l x) (m : Mk) (l : List SY) : wayM ns f m l p = wayM ns g m l p := by
  have ha : ∀ n m, altsM f p n m = altsM g p n m := fun n m => by
    unfold altsM
    rw [each_congr _ h, only_congr p h]
  unfold wayM
  rw [seq_congr _ h]
  unfold anewM
  simp only [ha]
theorem part_fuel (ns : List (List Int)) : ∀ (n k : Nat) (d : Int) (p : PT), smP n p → smP k p → ∀ m l, partM ns n d m l p = partM ns k d m l p := by
  intro n
  induction n with
  | zero => intro k d p h; exact h.elim
  | succ n ih =>
    intro k d p h h2 m l
    cases k with
    | zero => exact h2.elim
    | succ k =>
      unfold partM
      split
      · rfl
      · exact way_congr ns p (fun x hx m l => ih k (d + 1) x (h.2.2.2 x hx) (h2.2.2.2 x hx) m l) _ _
theorem ruleA_fuel (ns : List (List Int)) (n k : Nat) (p : PT) (h : smP n p) (h2 : smP k p) (m : Mk) : ruleA ns n p m = ruleA ns k p m := by
  have hc : ∀ x ∈ psP p, ∀ m l, partM ns n 0 m l x = partM ns k 0 m l x := by
    intro x hx m l
    cases n with
    | zero => exact h.elim
    | succ n =>
      cases k with
      | zero => exact h2.elim
      | succ k =>
        exact part_fuel ns _ _ 0 x (smP_up n (n + 1) (Nat.le_succ n) x (h.2.2.2 x hx)) (smP_up k (k + 1) (Nat.le_succ k) x (h2.2.2.2 x hx)) m l
  unfold ruleA
  rw [each_congr _ hc, part_fuel ns n k 0 p h h2]
theorem rules_fuel (ns : List (List Int)) (n k : Nat) : ∀ (l : List RU) (i : Nat) (m : Mk), (∀ u ∈ l, smP n u.2.2.1 ∧ smP k u.2.2.1) → rulesM ns n l i m = rulesM ns k l i m := by
  intro l
  induction l with
  | nil => intro i m _; rfl
  | cons u l ih =>
    intro i m h
    have h1 := h u (List.mem_cons_self ..)
    unfold rulesM
    rw [ruleA_fuel ns n k _ h1.1 h1.2, ih _ _ (fun x hx => h x (List.mem_cons_of_mem _ hx))]
theorem flat_fuel (n k : Nat) (f : List (List Int) × List RU) (h : ∀ u ∈ f.2, smP n u.2.2.1 ∧ smP k u.2.2.1) : flatL n f = flatL k f := by
  unfold flatL flatM
  rw [rules_fuel _ n k _ _ _ h]
def smB : Nat → PT → Bool
  | 0, _ => false
  | n + 1, p => decide ((txP p).length ≤ 1000000) && (decide ((rgP p).length ≤ 1000000) && (decide ((psP p).length ≤ 1000000) && (psP p).all (smB n)))
theorem smB_yes : ∀ (n : Nat) (p : PT), smB n p = true → smP n p := by
  intro n
  induction n with
  | zero => intro p h; cases h
  | succ n ih =>
    intro p h
    unfold smB at h
    simp only [Bool.and_eq_true, decide_eq_true_eq, List.all_eq_true] at h
    exact ⟨h.1, h.2.1, h.2.2.1, fun x hx => ih x (h.2.2.2 x hx)⟩
structure FOK (n : Nat) (f : List (List Int) × List RU) : Prop where
  keys : f.1.length ≤ 1000000
  rules : f.2.length ≤ 1000000
  nots : ∀ u ∈ f.2, u.2.2.2.1.length ≤ 1000000
  parts : ∀ u ∈ f.2, smP n u.2.2.1
def fokB (n : Nat) (f : List (List Int) × List RU) : Bool := decide (f.1.length ≤ 1000000) && (decide (f.2.length ≤ 1000000) && (f.2.all (fun u => decide (u.2.2.2.1.length ≤ 1000000)) && f.2.all (fun u => smB n u.2.2.1)))
theorem fok_yes {n : Nat} {f : List (List Int) × List RU} (h : fokB n f = true) : FOK n f := by
  unfold fokB at h
  simp only [Bool.and_eq_true, decide_eq_true_eq, List.all_eq_true] at h
  exact ⟨h.1, h.2.1, fun u hu => h.2.2.1 u hu, fun u hu => smB_yes _ _ (h.2.2.2 u hu)⟩
theorem of_file {D : Nat → Prop} {w : World} {v : Value} {f : List (List Int) × List RU} (n : Nat) (h : FileV D w v f) (hD : ∀ g, D g → g < w.heap.size) (hf : FOK n f) :
    Calls Tryz.prog 11 #[v] w fun e w' => OfR w (flatL n f) e w' ∧ Below w.heap.size w w' := by
  obtain ⟨aK, cK, aR, cR, rfl, hK, cs, hl, h5, hc⟩ := h
  obtain ⟨k, hk⟩ := rules_n hD _ _ hc
  have hN := Nat.le_max_left n k
  have e : flatL n f = flatL (max n k) f := flat_fuel _ _ _ (fun u hu => ⟨hf.parts u hu, smP_up n _ hN _ (hf.parts u hu)⟩)
  rw [e]
  obtain ⟨K, L⟩ := f
  refine of_at (max n k) aK cK aR cR K L hK ⟨rfl, hf.rules, ⟨h5.1, h5.2.1⟩, cs, h5.kept (fun g hg => ⟨hD g hg, rfl⟩), RuC.mono (fun u q hq => hq.up (Nat.le_max_right n k)) _ _ hk⟩ hD hf.keys hf.nots (fun u hu => smP_up n _ hN _ (hf.parts u hu))
theorem drop_get {α : Type} {l : List α} {j : Nat} {p q : α} {t : List α} (hd : l.drop j = q :: t) (hj : l[j]? = some p) : q = p := by
  have h : (l.drop j)[0]? = l[j]? := by rw [List.getElem?_drop]; rfl
  rw [hd, hj] at h
  injection h
theorem prod_get {D : Nat → Prop} {w : World} {a : Option Addr} {len cap : Nat} {cs : List Value} {l : List PRD} (hr : RowT 39 D w a len cap cs) (hp : PrC D w l cs) {j : Nat} {p : PRD} (hj : l[j]? = some p) : ∃ g off x0 k0 x2 k2, a = some ⟨g, off, none⟩ ∧ g < w.heap.size ∧ w.cell? ⟨g, off + 3 * j, none⟩ = some (.slice x0 p.1.length k0) ∧ w.cell? ⟨g, off + 3 * j + 1, none⟩ = some (.int .i64 p.2.1) ∧ w.cell? ⟨g, off + 3 * j + 2, none⟩ = some (.slice x2 p.2.2.length k2) ∧ AltV D w (.slice x0 p.1.length k0) p.1 ∧ NotV w (.slice x2 p.2.2.length k2) p.2.2 := by
  obtain ⟨g, off, x0, n0, k0, x2, n2, k2, q, h1, h2, h3, h4, h5, ha, hn, hd, hm⟩ := prods_at hr hp j (List.getElem?_eq_some_iff.1 hj).1
  obtain rfl := drop_get hd hj
  obtain ⟨xa, xc, xs, e0, -⟩ := id ha
  obtain ⟨ya, yc, e2, -⟩ := id hn
  injection e0 with e01 e02 e03
  injection e2 with e21 e22 e23
  subst e02; subst e22
  exact ⟨g, off, x0, k0, x2, k2, h1, h2, h3, h4, h5, ha, hn⟩
theorem alt_get {D : Nat → Prop} {w : World} {a : Option Addr} {c : Nat} {A : List (List SY)} (h : AltV D w (.slice a A.length c) A) {j : Nat} {l : List SY} (hj : A[j]? = some l) : ∃ g off x cc, a = some ⟨g, off, none⟩ ∧ g < w.heap.size ∧ w.cell? ⟨g, off + j, none⟩ = some (.slice x l.length cc) ∧ SymsV D w (.slice x l.length cc) l := by
  obtain ⟨g, off, x, cc, q, h1, h2, h3, hd, hs⟩ := h.at j (List.getElem?_eq_some_iff.1 hj).1
  obtain rfl := drop_get hd hj
  exact ⟨g, off, x, cc, h1, h2, h3, hs⟩
theorem sym_get {D : Nat → Prop} {w : World} {x : Option Addr} {cc n : Nat} {l : List SY} (h : SymsV D w (.slice x n cc) l) {j : Nat} {s : SY} (hj : l[j]? = some s) : ∃ g off a c, x = some ⟨g, off, none⟩ ∧ g < w.heap.size ∧ w.cell? ⟨g, off + 3 * j, none⟩ = some (.int .i64 s.1) ∧ w.cell? ⟨g, off + 3 * j + 1, none⟩ = some (.slice a s.2.1.length c) ∧ w.cell? ⟨g, off + 3 * j + 2, none⟩ = some (.int .i64 s.2.2) ∧ Rs w a s.2.1.length c s.2.1 := by
  obtain ⟨g, off, q, a, c, h1, h2, h3, h4, h5, hr, -, hd, -⟩ := syms_at h j (List.getElem?_eq_some_iff.1 hj).1
  obtain rfl := drop_get hd hj
  exact ⟨g, off, a, c, h1, h2, h3, h4, h5, hr⟩
end Go.Proofs.YtamefbpdnblbdaaGreatDoor.F

namespace Go.Proofs.YtamefbpdnblbdaaGreatDoor.Nl
open Go.RowKit Go.Proofs.YtamefbpdnblbdaaGreatDoor.T Go.Proofs.YtamefbpdnblbdaaGreatDoor.R Go.Proofs.YtamefbpdnblbdaaGreatDoor.F
set_option linter.unusedVariables false
set_option linter.unusedSimpArgs false

def aw9 : List Int := [97, 32, 61, 32, 98, 32, 99, 59, 32, 98, 32, 61, 32, 59, 32, 99, 32, 61, 32, 34, 120, 34, 59]
def aw9f : List (List Int) × List RU := ([], [([97], 0, mk 4 [] [] [mk 0 [98] [] [] 4, mk 0 [99] [] [] 6] 4, [], 0), ([98], 0, mk 4 [] [] [] 13, [], 9), ([99], 0, mk 1 [120] [] [] 19, [], 15)])
def aw9g : GR := ([([[(2, [], 1), (2, [], 2)]], 0, []), ([[]], 0, []), ([[(0, [(120, 120)], 0)]], 0, [])], [])
set_option maxRecDepth 100000 in
theorem aw9_file : fileL aw9 = .inr aw9f := by kernel_rfl
set_option maxRecDepth 100000 in
theorem aw9_flat : flatL 4 aw9f = .inr aw9g := by kernel_rfl
theorem aw9_fok : fokB 4 aw9f = true := by kernel_rfl
theorem aw9_may : gramB aw9g.1 = true := by kernel_rfl
end Go.Proofs.YtamefbpdnblbdaaGreatDoor.Nl

namespace Go.Proofs.YtamefbpdnblbdaaGreatDoor.F
open Go.RowKit Go.Proofs.YtamefbpdnblbdaaGreatDoor.T Go.Proofs.YtamefbpdnblbdaaGreatDoor.R
set_option linter.unusedVariables false
set_option linter.unusedSimpArgs false

theorem file_is {w : World} {l : List Int} {e : Ending} {w' : World} {f : List (List Int) × List RU} (h : FileR w l e w') (hf : fileL l = .inr f) : ∃ v, e = .returned (.tuple #[v, .int .i64 (l.length : Nat), .int .i64 0]) ∧ FileV (New w w') w' v f := by
  rcases h with ⟨q, why, ea, -⟩ | ⟨v, f', ea, e, fv⟩
  · rw [hf] at ea; cases ea
  · rw [hf] at ea; injection ea with ea; subst ea; exact ⟨v, e, fv⟩
theorem of_is {w : World} {r : Sum (Int × Int) GR} {e : Ending} {w' : World} {g : GR} (h : OfR w r e w') (hf : r = .inr g) : ∃ v, e = .returned (.tuple #[v, .int .i64 0, .int .i64 0]) ∧ GramV (New w w') w' v g := by
  rcases h with ⟨q, why, ea, -⟩ | ⟨g', v, ea, e, gv⟩
  · rw [hf] at ea; cases ea
  · rw [hf] at ea; injection ea with ea; subst ea; exact ⟨v, e, gv⟩
end Go.Proofs.YtamefbpdnblbdaaGreatDoor.F

