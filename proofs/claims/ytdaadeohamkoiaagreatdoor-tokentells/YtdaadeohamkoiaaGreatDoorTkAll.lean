/- Plain mathematics of layer 5: what is read is a token that may be; a text's tokens; which tokens may be. No program is named here. -/
import Derived.Test.YtdaadeohamkoiaaGreatDoorTkTok
namespace Go.Proofs.YtdaadeohamkoiaaGreatDoor.T
set_option linter.unusedSimpArgs false
set_option linter.unusedVariables false

theorem one_hex {r : List Int} {x : Int} {n : Nat} (h : oneL true r = some (x, n)) : 0 ≤ x ∧ x ≤ 255 := by
  unfold oneL at h
  simp only [if_true] at h
  split at h
  · cases h
  · simp only [Option.some.injEq, Prod.mk.injEq] at h
    have := hex_range r
    omega
theorem item_hex {r : List Int} {x : Int × Int} {n : Nat} (h : itemL true r = some (x, n)) : 0 ≤ x.1 ∧ x.1 ≤ x.2 ∧ x.2 ≤ 255 := by
  unfold itemL at h
  cases e : oneL true r with
  | none => rw [e] at h; cases h
  | some p =>
    obtain ⟨lo, k⟩ := p
    have h1 := one_hex e
    rw [e] at h
    simp only at h
    split at h
    · cases e2 : oneL true (r.drop (k + 1)) with
      | none => rw [e2] at h; cases h
      | some q =>
        obtain ⟨to, m⟩ := q
        have h2 := one_hex e2
        rw [e2] at h
        simp only at h
        split at h
        · cases h
        · simp only [Option.some.injEq, Prod.mk.injEq] at h
          obtain ⟨rfl, _⟩ := h
          simp only
          omega
    · simp only [Option.some.injEq, Prod.mk.injEq] at h
      obtain ⟨rfl, _⟩ := h
      simp only
      omega
theorem piece_byte {r : List Int} {x : Int} {n : Nat} (h : pieceL r = some (x, n)) : 0 ≤ x ∧ x ≤ 255 := by
  unfold pieceL at h
  split at h
  · split at h
    · simp only [Option.some.injEq, Prod.mk.injEq] at h
      have := hex_range (r.drop 2)
      omega
    · cases h
  · split at h
    · cases h
    · simp only [Option.some.injEq, Prod.mk.injEq] at h
      omega
theorem has_mem {l : List (Int × Int)} {n : Int} (h : G.hasB l n = true) : ∃ p ∈ l, p.1 ≤ n ∧ n ≤ p.2 := by
  unfold G.hasB at h
  rw [List.any_eq_true] at h
  obtain ⟨p, hp, h⟩ := h
  simp only [Bool.and_eq_true, decide_eq_true_eq] at h
  exact ⟨p, hp, h⟩

/-- what is read may be; it takes a byte at least, and no more than there are -/
theorem tok_ok {r : List Int} (hb : U.isBytes r) {t : Tk} {n : Nat} (h : tokL r = some (t, n)) : okT t ∧ 1 ≤ n ∧ n ≤ r.length := by
  unfold tokL at h
  split at h
  · next h1 =>
    split at h
    · cases h
    · next h2 =>
      simp only [Option.some.injEq, Prod.mk.injEq] at h
      obtain ⟨rfl, rfl⟩ := h
      have := word_take h1
      have wl := word_le r
      exact ⟨.inl ⟨rfl, this.1, by simp only [List.length_take]; omega, rfl⟩, this.2, wl⟩
  · split at h
    · next h1 =>
      split at h
      · next h2 =>
        simp only [Option.some.injEq, Prod.mk.injEq] at h
        obtain ⟨rfl, rfl⟩ := h
        have wl := word_le (r.drop 1)
        have hl : 1 ≤ r.length := by
          cases r with
          | nil => simp [List.getD] at h1
          | cons => simp
        rw [List.length_drop] at wl
        exact ⟨.inr (.inl ⟨rfl, h2, rfl⟩), by omega, by omega⟩
      · cases h
    · split at h
      · next h1 =>
        simp only [Option.some.injEq, Prod.mk.injEq] at h
        obtain ⟨rfl, rfl⟩ := h
        have hl : 1 ≤ r.length := by
          cases r with
          | nil => simp [List.getD, signs] at h1
          | cons => simp
        exact ⟨.inr (.inr (.inl ⟨rfl, ⟨_, h1, rfl⟩, rfl⟩)), by omega, hl⟩
      · split at h
        · cases e : gatherL pieceL 34 (r.drop 1) with
          | none => rw [e] at h; cases h
          | some q =>
            obtain ⟨x, m⟩ := q
            rw [e] at h
            simp only at h
            split at h
            · cases h
            · next h2 =>
              simp only [Option.some.injEq, Prod.mk.injEq] at h
              obtain ⟨rfl, rfl⟩ := h
              have gl := gather_len piece_good _ _ _ _ (U.isBytes_drop hb 1) (Nat.le_refl _) e
              rw [List.length_drop] at gl
              exact ⟨.inr (.inr (.inr (.inl ⟨rfl, h2, gather_all piece_good (fun z => 0 ≤ z ∧ z ≤ 255) (fun _ _ _ _ ho => piece_byte ho) _ _ _ _ (U.isBytes_drop hb 1) (Nat.le_refl _) e, rfl⟩))), by omega, by omega⟩
        · split at h
          · cases e : gatherL (itemL true) 62 (r.drop 1) with
            | none => rw [e] at h; cases h
            | some q =>
              obtain ⟨l, m⟩ := q
              rw [e] at h
              simp only [Option.some.injEq, Prod.mk.injEq] at h
              obtain ⟨rfl, rfl⟩ := h
              have gl := gather_len (item_good true) _ _ _ _ (U.isBytes_drop hb 1) (Nat.le_refl _) e
              rw [List.length_drop] at gl
              have ga := gather_all (item_good true) (fun x : Int × Int => 0 ≤ x.1 ∧ x.1 ≤ x.2 ∧ x.2 ≤ 255) (fun _ _ _ _ ho => item_hex ho) _ _ _ _ (U.isBytes_drop hb 1) (Nat.le_refl _) e
              refine ⟨.inr (.inr (.inr (.inr (.inl ⟨rfl, rfl, (norm_is l).1, fun p hp => ?_⟩)))), by omega, by omega⟩
              have := (has_end (norm_is l).1 hp).2
              rw [(norm_is l).2] at this
              unfold inN at this
              rw [Bool.and_eq_true] at this
              obtain ⟨q, hq, h3⟩ := has_mem this.2
              have := ga q hq
              omega
          · split at h
            · cases e : gatherL (itemL false) 93 (r.drop (1 + hatN r)) with
              | none => rw [e] at h; cases h
              | some q =>
                obtain ⟨l, m⟩ := q
                rw [e] at h
                simp only [Option.some.injEq, Prod.mk.injEq] at h
                obtain ⟨rfl, rfl⟩ := h
                have gl := gather_len (item_good false) _ _ _ _ (U.isBytes_drop hb (1 + hatN r)) (Nat.le_refl _) e
                rw [List.length_drop] at gl
                refine ⟨.inr (.inr (.inr (.inr (.inr ⟨rfl, rfl, (class_is _ l).1, fun n hn => ?_⟩)))), by omega, by omega⟩
                rw [(class_is _ l).2, Bool.and_eq_true] at hn
                exact hn.1
            · cases h
/-- and hangs on nothing behind it that is no part of a name -/
theorem tok_ext {r : List Int} (hb : U.isBytes r) {t : Tk} {n : Nat} (h : tokL r = some (t, n)) {s : List Int} (hs : U.isBytes s) (hw : isW (s.getD 0 0) = false) : tokL (r ++ s) = some (t, n) := by
  have hl : 1 ≤ r.length := by
    have := tok_ok hb h
    omega
  have hne : r ≠ [] := by cases r <;> simp_all
  have e0 : (r ++ s).getD 0 0 = r.getD 0 0 := getD_app (by omega)
  have ed : (r ++ s).drop 1 = r.drop 1 ++ s := List.drop_append_of_le_length hl
  unfold tokL at h ⊢
  rw [e0, word_ext (.inl hne) hw, ed]
  split at h
  · next h1 =>
    rw [if_pos h1]
    have wl := word_le r
    rw [List.take_append_of_le_length wl]
    exact h
  · next h1 =>
    rw [if_neg h1]
    split at h
    · next h2 =>
      rw [if_pos h2, word_ext (.inr (w_let hw)) hw, List.take_append_of_le_length (word_le _)]
      exact h
    · next h2 =>
      rw [if_neg h2]
      split at h
      · next h3 => rw [if_pos h3]; exact h
      · next h3 =>
        rw [if_neg h3]
        split at h
        · next h4 =>
          rw [if_pos h4]
          cases e : gatherL pieceL 34 (r.drop 1) with
          | none => rw [e] at h; cases h
          | some q =>
            rw [gather_ext piece_good piece_ext hs _ _ _ _ (U.isBytes_drop hb 1) (Nat.le_refl _) e]
            rw [e] at h
            exact h
        · next h4 =>
          rw [if_neg h4]
          split at h
          · next h5 =>
            rw [if_pos h5]
            cases e : gatherL (itemL true) 62 (r.drop 1) with
            | none => rw [e] at h; cases h
            | some q =>
              rw [gather_ext (item_good true) (item_ext true) hs _ _ _ _ (U.isBytes_drop hb 1) (Nat.le_refl _) e]
              rw [e] at h
              exact h
          · next h5 =>
            rw [if_neg h5]
            split at h
            · next h6 =>
              rw [if_pos h6]
              cases e : gatherL (itemL false) 93 (r.drop (1 + hatN r)) with
              | none => rw [e] at h; cases h
              | some q =>
                have hlen : 1 + hatN r < r.length := by
                  by_cases hh : 1 + hatN r < r.length
                  · exact hh
                  · rw [List.drop_of_length_le (by omega), gather_nil] at e; cases e
                have eh : hatN (r ++ s) = hatN r := by
                  unfold hatN
                  rw [getD_app (by omega)]
                rw [eh, List.drop_append_of_le_length (by omega), gather_ext (item_good false) (item_ext false) hs _ _ _ _ (U.isBytes_drop hb _) (Nat.le_refl _) e]
                rw [e] at h
                exact h
            · cases h

/-! ### A text's tokens -/
theorem all_fuel : ∀ (f g a c : Nat) (r : List Int), U.isBytes r → r.length ≤ f → r.length ≤ g → allF f a c r = allF g a c r := by
  intro f
  induction f with
  | zero =>
    intro g a c r hb h1 h2
    have : r = [] := List.eq_nil_of_length_eq_zero (by omega)
    subst this
    cases g <;> simp [allF]
  | succ f ih =>
    intro g a c r hb h1 h2
    cases g with
    | zero =>
      have : r = [] := List.eq_nil_of_length_eq_zero (by omega)
      subst this
      simp [allF]
    | succ g =>
      simp only [allF]
      split
      · rfl
      · next h0 =>
        have hl : 1 ≤ r.length := by cases r <;> simp_all
        split
        · exact ih g (a + 1) c (r.drop 1) (U.isBytes_drop hb 1) (by rw [List.length_drop]; omega) (by rw [List.length_drop]; omega)
        · cases e : tokL r with
          | none => rfl
          | some p =>
            obtain ⟨t, n⟩ := p
            have := tok_ok hb e
            simp only
            rw [ih g (a + n) (c - 1) (r.drop n) (U.isBytes_drop hb n) (by rw [List.length_drop]; omega) (by rw [List.length_drop]; omega)]
/-- the tokens of a text from a place on, so many at most -/
def allA (a c : Nat) (r : List Int) : Sum (Nat × Int) (List (Tk × Nat)) := allF r.length a c r
theorem all_nil (a c : Nat) : allA a c [] = .inr [] := rfl
theorem all_blank {a c : Nat} {r : List Int} (hb : U.isBytes r) (h : r ≠ []) (h1 : isBl (r.getD 0 0) = true) : allA a c r = allA (a + 1) c (r.drop 1) := by
  unfold allA
  obtain ⟨k, hk⟩ : ∃ k, r.length = k + 1 := ⟨r.length - 1, by cases r <;> simp_all⟩
  rw [hk]
  simp only [allF]
  rw [if_neg h, if_pos h1]
  exact all_fuel _ _ _ _ _ (U.isBytes_drop hb 1) (by rw [List.length_drop]; omega) (Nat.le_refl _)
theorem all_bad {a c : Nat} {r : List Int} (h : r ≠ []) (h1 : isBl (r.getD 0 0) = false) (h2 : tokL r = none) : allA a c r = .inl (a, 2) := by
  unfold allA
  obtain ⟨k, hk⟩ : ∃ k, r.length = k + 1 := ⟨r.length - 1, by cases r <;> simp_all⟩
  rw [hk]
  simp only [allF]
  rw [if_neg h, h1, h2]
  simp
theorem all_many {a : Nat} {r : List Int} (h : r ≠ []) (h1 : isBl (r.getD 0 0) = false) {t : Tk} {n : Nat} (h2 : tokL r = some (t, n)) : allA a 0 r = .inl (a, 7) := by
  unfold allA
  obtain ⟨k, hk⟩ : ∃ k, r.length = k + 1 := ⟨r.length - 1, by cases r <;> simp_all⟩
  rw [hk]
  simp only [allF]
  rw [if_neg h, h1, h2]
  simp
def consS (p : Tk × Nat) : Sum (Nat × Int) (List (Tk × Nat)) → Sum (Nat × Int) (List (Tk × Nat))
  | .inl e => .inl e
  | .inr l => .inr (p :: l)
theorem all_tok {a c : Nat} {r : List Int} (hb : U.isBytes r) (h : r ≠ []) (h1 : isBl (r.getD 0 0) = false) {t : Tk} {n : Nat} (h2 : tokL r = some (t, n)) : allA a (c + 1) r = consS (t, a) (allA (a + n) c (r.drop n)) := by
  have hn := tok_ok hb h2
  unfold allA
  obtain ⟨k, hk⟩ : ∃ k, r.length = k + 1 := ⟨r.length - 1, by cases r <;> simp_all⟩
  rw [hk]
  simp only [allF]
  rw [if_neg h, h1, h2]
  simp only [Bool.false_eq_true, if_false, Nat.add_one_ne_zero, Nat.add_sub_cancel]
  rw [all_fuel k (r.drop n).length (a + n) c (r.drop n) (U.isBytes_drop hb n) (by rw [List.length_drop]; omega) (Nat.le_refl _)]
  cases allF (r.drop n).length (a + n) c (r.drop n) <;> rfl

/-- by what a text begins, the cases -/
theorem all_cases (r : List Int) : r = [] ∨ (r ≠ [] ∧ isBl (r.getD 0 0) = true) ∨ (r ≠ [] ∧ isBl (r.getD 0 0) = false ∧ tokL r = none) ∨ (r ≠ [] ∧ isBl (r.getD 0 0) = false ∧ ∃ t n, tokL r = some (t, n)) := by
  by_cases h : r = []
  · exact .inl h
  · right
    cases e : isBl (r.getD 0 0) with
    | true => exact .inl ⟨h, rfl⟩
    | false =>
      right
      cases e2 : tokL r with
      | none => exact .inl ⟨h, rfl, rfl⟩
      | some p => exact .inr ⟨h, rfl, p.1, p.2, rfl⟩

def shiftS (d : Nat) : Sum (Nat × Int) (List (Tk × Nat)) → Sum (Nat × Int) (List (Tk × Nat))
  | .inl e => .inl (e.1 + d, e.2)
  | .inr l => .inr (l.map fun p => (p.1, p.2 + d))
theorem shift_cons (d : Nat) (p : Tk × Nat) (x : Sum (Nat × Int) (List (Tk × Nat))) : shiftS d (consS p x) = consS (p.1, p.2 + d) (shiftS d x) := by cases x <;> rfl
theorem all_shift (d : Nat) : ∀ (f : Nat) (r : List Int) (a c : Nat), U.isBytes r → r.length ≤ f → allA (a + d) c r = shiftS d (allA a c r) := by
  intro f
  induction f with
  | zero =>
    intro r a c hb h
    have : r = [] := List.eq_nil_of_length_eq_zero (by omega)
    subst this
    rfl
  | succ f ih =>
    intro r a c hb h
    rcases all_cases r with rfl | ⟨h0, h1⟩ | ⟨h0, h1, h2⟩ | ⟨h0, h1, t, n, h2⟩
    · rfl
    · have hl : 1 ≤ r.length := by cases r <;> simp_all
      rw [all_blank hb h0 h1, all_blank hb h0 h1, ← ih (r.drop 1) (a + 1) c (U.isBytes_drop hb 1) (by rw [List.length_drop]; omega), show a + d + 1 = a + 1 + d by omega]
    · rw [all_bad h0 h1 h2, all_bad h0 h1 h2]; rfl
    · have hn := tok_ok hb h2
      cases c with
      | zero => rw [all_many h0 h1 h2, all_many h0 h1 h2]; rfl
      | succ c => rw [all_tok hb h0 h1 h2, all_tok hb h0 h1 h2, shift_cons, ← ih (r.drop n) (a + n) c (U.isBytes_drop hb n) (by rw [List.length_drop]; omega), show a + d + n = a + n + d by omega]
/-- with fewer tokens allowed: the same, or too many -/
theorem all_fewer : ∀ (f : Nat) (r : List Int) (a c c' : Nat), U.isBytes r → r.length ≤ f → c' ≤ c →
    (∀ l, allA a c r = .inr l → l.length ≤ c ∧ (l.length ≤ c' → allA a c' r = .inr l) ∧ (c' < l.length → ∃ p, allA a c' r = .inl (p, 7))) ∧
    (∀ e, allA a c r = .inl e → allA a c' r = .inl e ∨ ∃ p, allA a c' r = .inl (p, 7)) := by
  intro f
  induction f with
  | zero =>
    intro r a c c' hb h hc
    have : r = [] := List.eq_nil_of_length_eq_zero (by omega)
    subst this
    rw [all_nil, all_nil]
    exact ⟨fun l e => by cases e; simp, fun e h => by cases h⟩
  | succ f ih =>
    intro r a c c' hb h hc
    rcases all_cases r with rfl | ⟨h0, h1⟩ | ⟨h0, h1, h2⟩ | ⟨h0, h1, t, n, h2⟩
    · rw [all_nil, all_nil]
      exact ⟨fun l e => by cases e; simp, fun e h => by cases h⟩
    · have hl : 1 ≤ r.length := by cases r <;> simp_all
      rw [all_blank hb h0 h1, all_blank hb h0 h1]
      exact ih (r.drop 1) (a + 1) c c' (U.isBytes_drop hb 1) (by rw [List.length_drop]; omega) hc
    · rw [all_bad h0 h1 h2, all_bad h0 h1 h2]
      exact ⟨fun l e => (by cases e), fun e h => .inl h⟩
    · have hn := tok_ok hb h2
      cases c with
      | zero =>
        obtain rfl : c' = 0 := by omega
        rw [all_many h0 h1 h2]
        exact ⟨fun l e => (by cases e), fun e h => .inl h⟩
      | succ c =>
        rw [all_tok hb h0 h1 h2]
        cases c' with
        | zero =>
          rw [all_many h0 h1 h2]
          have i := ih (r.drop n) (a + n) c c (U.isBytes_drop hb n) (by rw [List.length_drop]; omega) (Nat.le_refl _)
          refine ⟨fun l e => ?_, fun e _ => .inr ⟨_, rfl⟩⟩
          cases e2 : allA (a + n) c (r.drop n) with
          | inl q => rw [e2] at e; cases e
          | inr q =>
            rw [e2] at e
            cases e
            have := (i.1 q e2).1
            refine ⟨by simp; omega, fun h => by simp at h, fun _ => ⟨_, rfl⟩⟩
        | succ c' =>
          have i := ih (r.drop n) (a + n) c c' (U.isBytes_drop hb n) (by rw [List.length_drop]; omega) (by omega)
          rw [all_tok hb h0 h1 h2]
          refine ⟨fun l e => ?_, fun e h => ?_⟩
          · cases e2 : allA (a + n) c (r.drop n) with
            | inl q => rw [e2] at e; cases e
            | inr q =>
              rw [e2] at e
              cases e
              obtain ⟨i1, i2, i3⟩ := i.1 q e2
              refine ⟨by simp; omega, fun h => ?_, fun h => ?_⟩
              · rw [i2 (by simp at h; omega)]; rfl
              · obtain ⟨p, hp⟩ := i3 (by simp at h; omega)
                exact ⟨p, by rw [hp]; rfl⟩
          · cases e2 : allA (a + n) c (r.drop n) with
            | inr q => rw [e2] at h; cases h
            | inl q =>
              rw [e2] at h
              have hq := i.2 q e2
              cases h
              rcases hq with j | ⟨p, j⟩
              · left; rw [j]; rfl
              · right; exact ⟨p, by rw [j]; rfl⟩
def joinS (l : List (Tk × Nat)) : Sum (Nat × Int) (List (Tk × Nat)) → Sum (Nat × Int) (List (Tk × Nat))
  | .inl e => .inl e
  | .inr k => .inr (l ++ k)
theorem join_nil (x : Sum (Nat × Int) (List (Tk × Nat))) : joinS [] x = x := by cases x <;> rfl
theorem join_cons (p : Tk × Nat) (l : List (Tk × Nat)) (x : Sum (Nat × Int) (List (Tk × Nat))) : consS p (joinS l x) = joinS (p :: l) x := by cases x <;> rfl
/-- two texts one behind the other, where no name goes on -/
theorem all_app {s : List Int} (hs : U.isBytes s) (hw : isW (s.getD 0 0) = false) : ∀ (f : Nat) (r : List Int) (a c : Nat) (l : List (Tk × Nat)), U.isBytes r → r.length ≤ f → allA a c r = .inr l →
    allA a c (r ++ s) = joinS l (allA (a + r.length) (c - l.length) s) := by
  intro f
  induction f with
  | zero =>
    intro r a c l hb h e
    have : r = [] := List.eq_nil_of_length_eq_zero (by omega)
    subst this
    rw [all_nil] at e
    cases e
    rw [List.nil_append, join_nil]; rfl
  | succ f ih =>
    intro r a c l hb h e
    rcases all_cases r with rfl | ⟨h0, h1⟩ | ⟨h0, h1, h2⟩ | ⟨h0, h1, t, n, h2⟩
    · rw [all_nil] at e
      cases e
      rw [List.nil_append, join_nil]; rfl
    · have hl : 1 ≤ r.length := by cases r <;> simp_all
      rw [all_blank hb h0 h1] at e
      rw [all_blank (bytes_app hb hs) (by simp [h0]) (by rw [getD_app (by omega)]; exact h1), List.drop_append_of_le_length hl,
        ih (r.drop 1) (a + 1) c l (U.isBytes_drop hb 1) (by rw [List.length_drop]; omega) e, List.length_drop, show a + 1 + (r.length - 1) = a + r.length by omega]
    · rw [all_bad h0 h1 h2] at e; cases e
    · have hl : 1 ≤ r.length := by cases r <;> simp_all
      have hn := tok_ok hb h2
      cases c with
      | zero => rw [all_many h0 h1 h2] at e; cases e
      | succ c =>
        rw [all_tok hb h0 h1 h2] at e
        cases e2 : allA (a + n) c (r.drop n) with
        | inl q => rw [e2] at e; cases e
        | inr q =>
          rw [e2] at e
          cases e
          rw [all_tok (bytes_app hb hs) (by simp [h0]) (by rw [getD_app (by omega)]; exact h1) (tok_ext hb h2 hs hw), List.drop_append_of_le_length hn.2.2,
            ih (r.drop n) (a + n) c q (U.isBytes_drop hb n) (by rw [List.length_drop]; omega) e2, List.length_drop, show a + n + (r.length - n) = a + r.length by omega, join_cons]
          simp
/-- all tokens that are read may be -/
theorem all_ok : ∀ (f : Nat) (r : List Int) (a c : Nat) (l : List (Tk × Nat)), U.isBytes r → r.length ≤ f → allA a c r = .inr l → ∀ p ∈ l, okT p.1 := by
  intro f
  induction f with
  | zero =>
    intro r a c l hb h e
    have : r = [] := List.eq_nil_of_length_eq_zero (by omega)
    subst this
    rw [all_nil] at e
    cases e
    intro p hp; cases hp
  | succ f ih =>
    intro r a c l hb h e
    rcases all_cases r with rfl | ⟨h0, h1⟩ | ⟨h0, h1, h2⟩ | ⟨h0, h1, t, n, h2⟩
    · rw [all_nil] at e
      cases e
      intro p hp; cases hp
    · have hl : 1 ≤ r.length := by cases r <;> simp_all
      rw [all_blank hb h0 h1] at e
      exact ih (r.drop 1) (a + 1) c l (U.isBytes_drop hb 1) (by rw [List.length_drop]; omega) e
    · rw [all_bad h0 h1 h2] at e; cases e
    · have hn := tok_ok hb h2
      cases c with
      | zero => rw [all_many h0 h1 h2] at e; cases e
      | succ c =>
        rw [all_tok hb h0 h1 h2] at e
        cases e2 : allA (a + n) c (r.drop n) with
        | inl q => rw [e2] at e; cases e
        | inr q =>
          rw [e2] at e
          cases e
          intro p hp
          rcases List.mem_cons.1 hp with rfl | hp
          · exact hn.1
          · exact ih (r.drop n) (a + n) c q (U.isBytes_drop hb n) (by rw [List.length_drop]; omega) e2 p hp

/-! ### Which tokens may be -/
theorem text_facts {t : Tk} (h : okT t) : textL t ≠ [] ∧ isBl ((textL t).getD 0 0) = false ∧ U.isBytes (textL t) := by
  have hwb : ∀ z, isW z = true → isBl z = false ∧ 0 ≤ z ∧ z ≤ 255 := by
    intro z hz
    unfold isW isLet isDig at hz
    simp at hz
    unfold isBl
    simp
    omega
  obtain ⟨k, x, r⟩ := t
  unfold okT at h
  simp only at h
  rcases h with ⟨rfl, h1, h2, rfl⟩ | ⟨rfl, h1, rfl⟩ | ⟨rfl, ⟨c, h1, rfl⟩, rfl⟩ | ⟨rfl, h1, h2, rfl⟩ | ⟨rfl, rfl, h1, h2⟩ | ⟨rfl, rfl, h1, h2⟩
  · have e : textL (0, x, []) = x := rfl
    have hn := name_iff.1 h1
    rw [e]
    exact ⟨name_ne h1, (hwb _ (let_w hn.1)).1, fun z hz => (hwb z (hn.2 z hz)).2⟩
  · have e : textL (5, x, []) = 64 :: x := rfl
    have hn := name_iff.1 (marks_name x h1)
    rw [e]
    exact ⟨by simp, rfl, bytes_cons (by omega) (by omega) fun z hz => (hwb z (hn.2 z hz)).2⟩
  · have e : textL (4, [c], []) = [c] := rfl
    have f := sign_facts c h1
    rw [e]
    exact ⟨by simp, f.2.2.1, bytes_cons f.2.2.2.1 f.2.2.2.2 fun z hz => by cases hz⟩
  · have e : textL (1, x, []) = 34 :: (x.flatMap showP ++ [34]) := rfl
    rw [e]
    refine ⟨by simp, rfl, bytes_cons (by omega) (by omega) (bytes_app (fun z hz => ?_) (bytes_cons (by omega) (by omega) fun z hz => by cases hz))⟩
    obtain ⟨c, hc, hz⟩ := List.mem_flatMap.1 hz
    have hb := h2 c hc
    unfold showP at hz
    split at hz
    · simp at hz; omega
    · unfold hex2 at hz
      simp only [List.mem_cons, List.not_mem_nil, or_false] at hz
      have d1 := hexD_range (d := c / 16) (by omega) (by omega)
      have d2 := hexD_range (d := c % 16) (by omega) (by omega)
      rcases hz with rfl | rfl | rfl | rfl <;> omega
  · have e : textL (3, [], r) = 60 :: (r.flatMap (showI true) ++ [62]) := rfl
    rw [e]
    refine ⟨by simp, rfl, bytes_cons (by omega) (by omega) (bytes_app (fun z hz => ?_) (bytes_cons (by omega) (by omega) fun z hz => by cases hz))⟩
    obtain ⟨p, hp, hz⟩ := List.mem_flatMap.1 hz
    exact (showI_facts (okI_of (b := true) h1 h2 p hp)).2.2 z hz
  · have e : textL (2, [], r) = 91 :: (r.flatMap (showI false) ++ [93]) := rfl
    rw [e]
    refine ⟨by simp, rfl, bytes_cons (by omega) (by omega) (bytes_app (fun z hz => ?_) (bytes_cons (by omega) (by omega) fun z hz => by cases hz))⟩
    obtain ⟨p, hp, hz⟩ := List.mem_flatMap.1 hz
    exact (showI_facts (okI_of (b := false) h1 h2 p hp)).2.2 z hz
theorem parts_ok {t : Tk} (h : okT t) : partsB t = true := by
  obtain ⟨k, x, r⟩ := t
  unfold okT at h
  simp only at h
  unfold partsB
  rcases h with ⟨rfl, h1, h2, rfl⟩ | ⟨rfl, h1, rfl⟩ | ⟨rfl, ⟨c, h1, rfl⟩, rfl⟩ | ⟨rfl, h1, h2, rfl⟩ | ⟨rfl, rfl, h1, h2⟩ | ⟨rfl, rfl, h1, h2⟩
  · rfl
  · rfl
  · rfl
  · rfl
  · simp only [h1]
    simp
    intro a b hab
    exact h2 (a, b) hab
  · simp only [h1]
    simp
    intro a b hab
    have := has_end h1 hab
    exact ⟨h2 _ this.1, h2 _ this.2⟩
theorem allL_is {s : List Int} (h : s.length ≤ 3000) : allL s = allA 0 600 s := by
  unfold allL allA
  rw [if_neg (by omega)]
theorem all_text {t : Tk} (h : okT t) (hl : (textL t).length ≤ 3000) : allL (textL t) = .inr [(t, 0)] := by
  obtain ⟨f1, f2, f3⟩ := text_facts h
  have e := tok_text h (s := []) (fun z hz => by cases hz) (by simp [List.getD, w_zero])
  rw [List.append_nil] at e
  rw [allL_is hl, all_tok f3 f1 f2 e, List.drop_of_length_le (Nat.le_refl _), all_nil]
  rfl
theorem may_iff {t : Tk} (hb : U.isBytes (textL t)) : mayL t = true ↔ okT t ∧ (textL t).length ≤ 3000 := by
  constructor
  · intro h
    unfold mayL at h
    rw [Bool.and_eq_true] at h
    obtain ⟨_, h⟩ := h
    have hl : (textL t).length ≤ 3000 := by
      by_cases hh : (textL t).length ≤ 3000
      · exact hh
      · unfold allL at h
        rw [if_pos (by omega)] at h
        cases h
    refine ⟨?_, hl⟩
    rw [allL_is hl] at h
    split at h
    · next u p e =>
      have := all_ok _ _ _ _ _ hb (Nat.le_refl _) e (u, p) (by simp)
      rw [decide_eq_true_eq] at h
      subst h
      exact this
    · cases h
  · rintro ⟨h, hl⟩
    unfold mayL
    rw [parts_ok h, all_text h hl]
    simp

end Go.Proofs.YtdaadeohamkoiaaGreatDoor.T
