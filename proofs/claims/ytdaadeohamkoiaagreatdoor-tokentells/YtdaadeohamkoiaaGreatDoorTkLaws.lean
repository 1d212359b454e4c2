/- Plain mathematics of layer 5: what its statements say of texts and tokens. No program is named here. -/
import Derived.Test.YtdaadeohamkoiaaGreatDoorTkLen
namespace Go.Proofs.YtdaadeohamkoiaaGreatDoor.T
set_option linter.unusedSimpArgs false
set_option linter.unusedVariables false

/-! ### Texts of several tokens -/
theorem all_len : ∀ (f : Nat) (r : List Int) (a c : Nat) (l : List (Tk × Nat)), U.isBytes r → r.length ≤ f → r.length ≤ 400 → allA a c r = .inr l → ∀ p ∈ l, (textL p.1).length ≤ 3000 := by
  intro f
  induction f with
  | zero =>
    intro r a c l hb h _ e
    have : r = [] := List.eq_nil_of_length_eq_zero (by omega)
    subst this
    rw [all_nil] at e
    cases e
    intro p hp; cases hp
  | succ f ih =>
    intro r a c l hb h h4 e
    rcases all_cases r with rfl | ⟨h0, h1⟩ | ⟨h0, h1, h2⟩ | ⟨h0, h1, t, n, h2⟩
    · rw [all_nil] at e
      cases e
      intro p hp; cases hp
    · have hl : 1 ≤ r.length := by cases r <;> simp_all
      rw [all_blank hb h0 h1] at e
      exact ih (r.drop 1) (a + 1) c l (U.isBytes_drop hb 1) (by rw [List.length_drop]; omega) (by rw [List.length_drop]; omega) e
    · rw [all_bad h0 h1 h2] at e; cases e
    · have hn := tok_ok hb h2
      cases c with
      | zero => rw [all_many h0 h1 h2] at e; cases e
      | succ c =>
        rw [all_tok hb h0 h1 h2] at e
        cases e2 : allA (a + n) c (r.drop n) with
        | inl q => rw [e2] at e; cases e
        | inr q =>
          rw [e2] at e
          cases e
          intro p hp
          rcases List.mem_cons.1 hp with rfl | hp
          · exact tok_len hb h2 (by omega)
          · exact ih (r.drop n) (a + n) c q (U.isBytes_drop hb n) (by rw [List.length_drop]; omega) (by rw [List.length_drop]; omega) e2 p hp
def sp (t : Tk) : List Int := textL t ++ [32]
theorem sp_bytes {ts : List Tk} (h : ∀ t ∈ ts, okT t) : U.isBytes (ts.flatMap sp) := by
  intro z hz
  obtain ⟨t, ht, hz⟩ := List.mem_flatMap.1 hz
  exact bytes_app (text_facts (h t ht)).2.2 (bytes_cons (by omega) (by omega) fun z hz => by cases hz) z hz
theorem back_all : ∀ (ts : List Tk) (a c : Nat), (∀ t ∈ ts, okT t) → ts.length ≤ c → ∃ l, allA a c (ts.flatMap sp) = .inr l ∧ l.map Prod.fst = ts := by
  intro ts
  induction ts with
  | nil => intro a c _ _; exact ⟨[], rfl, rfl⟩
  | cons t ts ih =>
    intro a c h hc
    cases c with
    | zero => simp at hc
    | succ c =>
      have ht := h t List.mem_cons_self
      have h' := fun u hu => h u (List.mem_cons_of_mem t hu)
      obtain ⟨f1, f2, f3⟩ := text_facts ht
      have hb := sp_bytes h'
      have hb2 : U.isBytes (32 :: ts.flatMap sp) := bytes_cons (by omega) (by omega) hb
      have e : (t :: ts).flatMap sp = textL t ++ (32 :: ts.flatMap sp) := by simp [sp]
      have hl : 0 < (textL t).length := by cases hq : textL t <;> simp_all
      rw [e, all_tok (bytes_app f3 hb2) (by simp [f1]) (by rw [getD_app hl]; exact f2) (tok_text ht hb2 rfl), List.drop_left, all_blank hb2 (by simp) rfl]
      obtain ⟨l, h1, h2⟩ := ih (a + (textL t).length + 1) c h' (by simp at hc; omega)
      simp only [List.drop_succ_cons, List.drop_zero]
      rw [h1]
      exact ⟨_, rfl, by simp [h2]⟩

/-! ### A blank between -/
theorem blank_all {s t : List Int} (hs : U.isBytes s) (ht : U.isBytes t) (h : s.length + 2 + t.length ≤ 3000) {a : List (Tk × Nat)} (ha : allL s = .inr a) :
    allL (s ++ 10 :: 32 :: t) = joinS a (shiftS (s.length + 2) (allA 0 (600 - a.length) t)) := by
  have hb2 : U.isBytes (10 :: 32 :: t) := bytes_cons (by omega) (by omega) (bytes_cons (by omega) (by omega) ht)
  rw [allL_is (by omega)] at ha
  rw [allL_is (by rw [List.length_append]; simp; omega), all_app hb2 rfl _ _ _ _ _ hs (Nat.le_refl _) ha, all_blank hb2 (by simp) rfl]
  have hb1 : U.isBytes (32 :: t) := bytes_cons (by omega) (by omega) ht
  simp only [List.drop_succ_cons, List.drop_zero]
  rw [all_blank hb1 (by simp) rfl]
  simp only [List.drop_succ_cons, List.drop_zero]
  rw [← all_shift (s.length + 2) _ t 0 (600 - a.length) ht (Nat.le_refl _), show 0 + s.length + 1 + 1 = 0 + (s.length + 2) by omega]
theorem all_bound {s : List Int} (hs : U.isBytes s) {a : List (Tk × Nat)} (ha : allL s = .inr a) : a.length ≤ 600 := by
  have hl : s.length ≤ 3000 := by
    by_cases hh : s.length ≤ 3000
    · exact hh
    · unfold allL at ha
      rw [if_pos (by omega)] at ha
      cases ha
  rw [allL_is hl] at ha
  exact ((all_fewer _ s 0 600 600 hs (Nat.le_refl _) (Nat.le_refl _)).1 a ha).1
/-- both are read -/
theorem blank_both {s t : List Int} (hs : U.isBytes s) (ht : U.isBytes t) (h : s.length + 2 + t.length ≤ 3000) {a b : List (Tk × Nat)} (ha : allL s = .inr a) (hb : allL t = .inr b) :
    (a.length + b.length ≤ 600 → allL (s ++ 10 :: 32 :: t) = .inr (a ++ b.map fun p => (p.1, p.2 + (s.length + 2)))) ∧ (600 < a.length + b.length → ∃ p, allL (s ++ 10 :: 32 :: t) = .inl (p, 7)) := by
  have ab := all_bound hs ha
  rw [blank_all hs ht h ha]
  rw [allL_is (by omega)] at hb
  have f := (all_fewer _ t 0 600 (600 - a.length) ht (Nat.le_refl _) (by omega)).1 b hb
  constructor
  · intro hc
    rw [f.2.1 (by omega)]; rfl
  · intro hc
    obtain ⟨p, hp⟩ := f.2.2 (by omega)
    rw [hp]
    exact ⟨_, rfl⟩
theorem blank_bad {s t : List Int} (hs : U.isBytes s) (ht : U.isBytes t) (h : s.length + 2 + t.length ≤ 3000) {a : List (Tk × Nat)} {e : Nat × Int} (ha : allL s = .inr a) (hb : allL t = .inl e) :
    allL (s ++ 10 :: 32 :: t) = .inl (e.1 + (s.length + 2), e.2) ∨ ∃ p, allL (s ++ 10 :: 32 :: t) = .inl (p, 7) := by
  rw [blank_all hs ht h ha]
  rw [allL_is (by omega)] at hb
  rcases (all_fewer _ t 0 600 (600 - a.length) ht (Nat.le_refl _) (by omega)).2 e hb with j | ⟨p, j⟩
  · left; rw [j]; rfl
  · right; rw [j]; exact ⟨_, rfl⟩

/-! ### Lits -/
theorem lit_ok {b : List Int} (hb : U.isBytes b) (h : b ≠ []) : okT (1, b, []) := .inr (.inr (.inr (.inl ⟨rfl, h, hb, rfl⟩)))
theorem lit_text (b : List Int) : textL (1, b, []) = 34 :: (b.flatMap showP ++ [34]) := rfl
theorem lit_len (b : List Int) : (textL (1, b, [])).length ≤ 2 + 4 * b.length := by
  have := pieces_len b
  rw [lit_text, List.length_cons, List.length_append, List.length_cons, List.length_nil]
  omega
theorem lit_print {b : List Int} (hb : U.isBytes b) : ∀ z ∈ textL (1, b, []), 32 ≤ z ∧ z ≤ 126 := by
  intro z hz
  rw [lit_text] at hz
  simp only [List.mem_cons, List.mem_append, List.not_mem_nil, or_false] at hz
  rcases hz with rfl | hz | rfl
  · omega
  · obtain ⟨c, hc, hz⟩ := List.mem_flatMap.1 hz
    have hcb := hb c hc
    unfold showP at hz
    split at hz
    · next hr =>
      have := raw_iff.1 hr
      simp at hz; omega
    · unfold hex2 at hz
      simp only [List.mem_cons, List.not_mem_nil, or_false] at hz
      have d1 := hexD_range (d := c / 16) (by omega) (by omega)
      have d2 := hexD_range (d := c % 16) (by omega) (by omega)
      rcases hz with rfl | rfl | rfl | rfl <;> omega
  · omega
theorem lit_none : mayL (1, [], []) = false := by decide

/-! ### Names -/
theorem name_app {s t : List Int} (hs : nameB s = true) (ht : nameB t = true) : nameB (s ++ t) = true := by
  have h1 := name_iff.1 hs
  have h2 := name_iff.1 ht
  have hl : 0 < s.length := by have := name_ne hs; cases s <;> simp_all
  refine name_iff.2 ⟨by rw [getD_app hl]; exact h1.1, fun z hz => ?_⟩
  rcases List.mem_append.1 hz with h | h
  · exact h1.2 z h
  · exact h2.2 z h
theorem name_may {s : List Int} (hs : U.isBytes s) (hl : s.length ≤ 3000) : mayL (0, s, []) = (nameB s && decide (s.length ≤ 12)) := by
  have e : textL (0, s, []) = s := rfl
  rw [Bool.eq_iff_iff, may_iff (by rw [e]; exact hs), Bool.and_eq_true, decide_eq_true_eq, e]
  constructor
  · rintro ⟨h, _⟩
    rcases h with h | h | h | h | h | h
    · exact ⟨h.2.1, h.2.2.1⟩
    · exact absurd h.1 (by simp)
    · exact absurd h.1 (by simp)
    · exact absurd h.1 (by simp)
    · exact absurd h.1 (by simp)
    · exact absurd h.1 (by simp)
  · rintro ⟨h1, h2⟩
    exact ⟨.inl ⟨rfl, h1, h2, rfl⟩, hl⟩
theorem w_bytes {z : Int} (hz : isW z = true) : isBl z = false ∧ 0 ≤ z ∧ z ≤ 255 := by
  unfold isW isLet isDig at hz
  simp at hz
  unfold isBl
  simp
  omega
theorem name_all {s : List Int} (h : nameB s = true) (hl : s.length ≤ 3000) : allL s = if s.length ≤ 12 then .inr [((0, s, []), 0)] else .inl (0, 2) := by
  have hn := name_iff.1 h
  split
  · next c =>
    have := all_text (t := (0, s, [])) (.inl ⟨rfl, h, c, rfl⟩) hl
    exact this
  · next c =>
    have hw := word_app h (s := []) (by simp [List.getD, w_zero])
    rw [List.append_nil] at hw
    have ht : tokL s = none := by
      unfold tokL
      rw [if_pos hn.1, hw, if_pos (by omega)]
    rw [allL_is hl, all_bad (name_ne h) (w_bytes (let_w hn.1)).1 ht]

/-! ### Sets behind a ^ -/
theorem hat_all {l : List (Int × Int)} (h : okT (2, [], l)) (hl : (textL (2, [], l)).length ≤ 2999) : allL (91 :: 94 :: (l.flatMap (showI false) ++ [93])) = .inr [((2, [], classL true l), 0)] := by
  have hm : G.mayB l = true ∧ ∀ n, G.hasB l n = true → U.mayB n = true := by
    rcases h with h | h | h | h | h | h
    · exact absurd h.1 (by simp)
    · exact absurd h.1 (by simp)
    · exact absurd h.1 (by simp)
    · exact absurd h.1 (by simp)
    · exact absurd h.1 (by simp)
    · exact ⟨h.2.2.1, h.2.2.2⟩
  have hok := okI_of (b := false) hm.1 hm.2
  obtain ⟨f1, f2, f3⟩ := text_facts h
  have e : textL (2, [], l) = 91 :: (l.flatMap (showI false) ++ [93]) := rfl
  rw [e] at hl f3
  have hb : U.isBytes (91 :: 94 :: (l.flatMap (showI false) ++ [93])) := bytes_cons (by omega) (by omega) (bytes_cons (by omega) (by omega) (U.isBytes_tail f3))
  have hx := items_show (b := false) (stop := 93) rfl hok (s := []) (fun z hz => by cases hz)
  have ht : tokL (91 :: 94 :: (l.flatMap (showI false) ++ [93])) = some ((2, [], classL true l), (l.flatMap (showI false)).length + 1 + 1 + 1) := by
    have e0 : (91 :: 94 :: (l.flatMap (showI false) ++ [93])).getD 0 0 = 91 := rfl
    have e1 : hatN (91 :: 94 :: (l.flatMap (showI false) ++ [93])) = 1 := rfl
    have e2 : (91 :: 94 :: (l.flatMap (showI false) ++ [93])).drop (1 + 1) = l.flatMap (showI false) ++ [93] := rfl
    unfold tokL
    rw [e0, e1, e2, if_neg (by decide), if_neg (by decide), if_neg (by decide), if_neg (by decide), if_neg (by decide), if_pos rfl, hx]
    rfl
  have hlen : (91 :: 94 :: (l.flatMap (showI false) ++ [93])).length = (l.flatMap (showI false)).length + 1 + 1 + 1 := by
    simp only [List.length_cons, List.length_append, List.length_nil]
  rw [allL_is (by rw [hlen]; rw [List.length_cons, List.length_append, List.length_cons, List.length_nil] at hl; omega), all_tok hb (by simp) rfl ht, List.drop_of_length_le (by rw [hlen]; omega), all_nil]
  rfl
theorem class_short (l : List (Int × Int)) : (textL (2, [], l)).length ≤ 2 + 19 * l.length := by
  have e : textL (2, [], l) = 91 :: (l.flatMap (showI false) ++ [93]) := rfl
  have e4 : ∀ k : List (Int × Int), (k.flatMap (showI false)).length ≤ 19 * k.length := by
    intro k
    induction k with
    | nil => simp
    | cons c t ih =>
      rw [List.flatMap_cons, List.length_append, List.length_cons]
      have h1 := lenO_nine c.1
      have h2 := lenO_nine c.2
      have : (showI false c).length ≤ 19 := by
        unfold lenO at h1 h2
        unfold showI
        split
        · rw [List.length_append, List.length_cons]; omega
        · omega
      omega
  have := e4 l
  rw [e, List.length_cons, List.length_append, List.length_cons, List.length_nil]
  omega

end Go.Proofs.YtdaadeohamkoiaaGreatDoor.T
