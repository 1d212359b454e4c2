/- Plain mathematics of layer 5: tokens that may be, texts of several. No program is named here. -/
import Derived.Test.YtdaadeohamkoiaaGreatDoorTkBack
namespace Go.Proofs.YtdaadeohamkoiaaGreatDoor.T
set_option linter.unusedSimpArgs false
set_option linter.unusedVariables false

theorem gather_show {α : Type} {one : List Int → Option (α × Nat)} {stop : Int} (hg : Good one) (sh : α → List Int) (C : List Int → Prop) {s : List Int} (hs : U.isBytes s) (h0 : 0 ≤ stop) (h1 : stop ≤ 255) (hC0 : C (stop :: s)) :
    ∀ (xs : List α), (∀ x ∈ xs, sh x ≠ [] ∧ (sh x).getD 0 0 ≠ stop ∧ U.isBytes (sh x) ∧ (∀ u, C (sh x ++ u)) ∧ ∀ u, U.isBytes u → C u → one (sh x ++ u) = some (x, (sh x).length)) →
    gatherL one stop (xs.flatMap sh ++ stop :: s) = some (xs, (xs.flatMap sh).length + 1) := by
  intro xs
  induction xs with
  | nil => intro _; rw [List.flatMap_nil, List.nil_append, gather_stop (by simp) (by simp [List.getD])]; rfl
  | cons x xs ih =>
    intro h
    obtain ⟨x1, x2, x3, x4, x5⟩ := h x List.mem_cons_self
    have h' := fun y hy => h y (List.mem_cons_of_mem x hy)
    have hbr : U.isBytes (xs.flatMap sh ++ stop :: s) := by
      refine bytes_app (fun z hz => ?_) (bytes_cons h0 h1 hs)
      obtain ⟨y, hy, hz⟩ := List.mem_flatMap.1 hz
      exact (h' y hy).2.2.1 z hz
    have hCr : C (xs.flatMap sh ++ stop :: s) := by
      cases xs with
      | nil => exact hC0
      | cons y ys =>
        rw [List.flatMap_cons, List.append_assoc]
        exact (h' y List.mem_cons_self).2.2.2.1 _
    have hl : 1 ≤ (sh x).length := by cases hq : sh x <;> simp_all
    rw [List.flatMap_cons, List.append_assoc]
    rw [gather_step hg (bytes_app x3 hbr) (by simp [x1]) (by rw [getD_app (by omega)]; exact x2) (x5 _ hbr hCr), List.drop_left, ih h']
    simp only [List.length_append]
    rw [Nat.add_assoc]
theorem gather_all {α : Type} {one : List Int → Option (α × Nat)} {stop : Int} (hg : Good one) (P : α → Prop) (hP : ∀ r x n, U.isBytes r → one r = some (x, n) → P x) : ∀ (f : Nat) (r : List Int) (xs : List α) (m : Nat), U.isBytes r → r.length ≤ f → gatherL one stop r = some (xs, m) → ∀ x ∈ xs, P x := by
  intro f
  induction f with
  | zero =>
    intro r xs m _ h e
    have : r = [] := List.eq_nil_of_length_eq_zero (by omega)
    subst this
    rw [gather_nil] at e; cases e
  | succ f ih =>
    intro r xs m hb h e
    by_cases h0 : r = []
    · subst h0; rw [gather_nil] at e; cases e
    · by_cases hs : r.getD 0 0 = stop
      · rw [gather_stop h0 hs] at e
        cases e
        intro x hx; cases hx
      · cases ho : one r with
        | none => rw [gather_bad h0 hs ho] at e; cases e
        | some p =>
          obtain ⟨x, n⟩ := p
          have hn := hg r x n hb ho
          rw [gather_step hg hb h0 hs ho] at e
          cases e2 : gatherL one stop (r.drop n) with
          | none => rw [e2] at e; cases e
          | some q =>
            obtain ⟨ys, k⟩ := q
            rw [e2] at e
            simp only [Option.some.injEq, Prod.mk.injEq] at e
            obtain ⟨rfl, rfl⟩ := e
            intro y hy
            rcases List.mem_cons.1 hy with rfl | hy
            · exact hP r y n hb ho
            · exact ih (r.drop n) ys k (U.isBytes_drop hb n) (by rw [List.length_drop]; omega) e2 y hy

/-! ### Names -/
def nameB (x : List Int) : Bool := isLet (x.getD 0 0) && x.all isW
theorem let_w {z : Int} (h : isLet z = true) : isW z = true := by unfold isW; rw [h]; rfl
theorem let_zero : isLet 0 = false := by decide
theorem w_zero : isW 0 = false := by decide
theorem tail_le (r : List Int) : tailN r ≤ r.length := by
  induction r with
  | nil => exact Nat.le_refl _
  | cons z t ih => simp only [tailN, List.length_cons]; split <;> omega
theorem tail_all (r : List Int) : ∀ z ∈ r.take (tailN r), isW z = true := by
  induction r with
  | nil => intro z hz; simp at hz
  | cons y t ih =>
    intro z hz
    simp only [tailN] at hz
    split at hz
    · next h =>
      simp only [List.take_succ_cons, List.mem_cons] at hz
      rcases hz with rfl | hz
      · exact h
      · exact ih z hz
    · simp at hz
theorem tail_app : ∀ (x s : List Int), (∀ z ∈ x, isW z = true) → isW (s.getD 0 0) = false → tailN (x ++ s) = x.length := by
  intro x
  induction x with
  | nil =>
    intro s _ h
    cases s with
    | nil => rfl
    | cons z t =>
      have h' : isW z = false := h
      simp [tailN, h']
  | cons y t ih =>
    intro s hx h
    simp only [List.cons_append, tailN, List.length_cons]
    rw [if_pos (hx y List.mem_cons_self), ih s (fun z hz => hx z (List.mem_cons_of_mem _ hz)) h]
theorem tail_ext : ∀ (r s : List Int), isW (s.getD 0 0) = false → tailN (r ++ s) = tailN r := by
  intro r
  induction r with
  | nil =>
    intro s h
    cases s with
    | nil => rfl
    | cons z t =>
      have h' : isW z = false := h
      simp [tailN, h']
  | cons y t ih =>
    intro s h
    simp only [List.cons_append, tailN]
    rw [ih s h]
theorem name_iff {x : List Int} : nameB x = true ↔ isLet (x.getD 0 0) = true ∧ ∀ z ∈ x, isW z = true := by
  unfold nameB
  rw [Bool.and_eq_true, List.all_eq_true]
theorem name_ne {x : List Int} (h : nameB x = true) : x ≠ [] := by
  intro e
  subst e
  have := (name_iff.1 h).1
  simp [List.getD, let_zero] at this
theorem word_app {x s : List Int} (h : nameB x = true) (hs : isW (s.getD 0 0) = false) : wordN (x ++ s) = x.length := by
  have hn := name_iff.1 h
  cases x with
  | nil => exact absurd rfl (name_ne h)
  | cons y t =>
    unfold wordN
    rw [if_pos (by exact hn.1)]
    simp only [List.cons_append, List.drop_succ_cons, List.drop_zero, List.length_cons]
    rw [tail_app t s (fun z hz => hn.2 z (List.mem_cons_of_mem _ hz)) hs]
theorem word_le (r : List Int) : wordN r ≤ r.length := by
  unfold wordN
  split
  · next h =>
    cases r with
    | nil => simp [List.getD, let_zero] at h
    | cons z t => have := tail_le t; simp only [List.drop_succ_cons, List.drop_zero, List.length_cons]; omega
  · omega
theorem word_take {r : List Int} (h : isLet (r.getD 0 0) = true) : nameB (r.take (wordN r)) = true ∧ 1 ≤ wordN r := by
  cases r with
  | nil => simp [List.getD, let_zero] at h
  | cons z t =>
    have hz : isLet z = true := h
    unfold wordN
    rw [if_pos h]
    refine ⟨name_iff.2 ⟨?_, ?_⟩, by omega⟩
    · simp only [List.drop_succ_cons, List.drop_zero, List.take_succ_cons]; exact hz
    · intro y hy
      simp only [List.drop_succ_cons, List.drop_zero, List.take_succ_cons, List.mem_cons] at hy
      rcases hy with rfl | hy
      · exact let_w hz
      · exact tail_all t y hy
theorem word_ext {r s : List Int} (hr : r ≠ [] ∨ isLet (s.getD 0 0) = false) (hs : isW (s.getD 0 0) = false) : wordN (r ++ s) = wordN r := by
  cases r with
  | nil =>
    have : isLet (s.getD 0 0) = false := by
      cases e : isLet (s.getD 0 0) with
      | false => rfl
      | true => rw [let_w e] at hs; cases hs
    unfold wordN
    rw [List.nil_append, this, if_neg (by simp), if_neg (by simp [List.getD, let_zero])]
  | cons z t =>
    unfold wordN
    have e : ((z :: t) ++ s).getD 0 0 = (z :: t).getD 0 0 := rfl
    rw [e]
    simp only [List.cons_append, List.drop_succ_cons, List.drop_zero]
    rw [tail_ext t s hs]
theorem w_let {z : Int} (h : isW z = false) : isLet z = false := by
  cases e : isLet z with
  | false => rfl
  | true => rw [let_w e] at h; cases h
theorem marks_name : ∀ m ∈ marks, nameB m = true := by decide
theorem marks_len : ∀ m ∈ marks, m.length ≤ 5 := by decide

/-! ### Tokens that may be -/
def okT (t : Tk) : Prop :=
  (t.1 = 0 ∧ nameB t.2.1 = true ∧ t.2.1.length ≤ 12 ∧ t.2.2 = []) ∨ (t.1 = 5 ∧ t.2.1 ∈ marks ∧ t.2.2 = []) ∨ (t.1 = 4 ∧ (∃ c, c ∈ signs ∧ t.2.1 = [c]) ∧ t.2.2 = []) ∨
  (t.1 = 1 ∧ t.2.1 ≠ [] ∧ U.isBytes t.2.1 ∧ t.2.2 = []) ∨ (t.1 = 3 ∧ t.2.1 = [] ∧ G.mayB t.2.2 = true ∧ ∀ r ∈ t.2.2, r.2 ≤ 255) ∨
  (t.1 = 2 ∧ t.2.1 = [] ∧ G.mayB t.2.2 = true ∧ ∀ n, G.hasB t.2.2 n = true → U.mayB n = true)
theorem has_end {r : List (Int × Int)} (h : G.mayB r = true) {p : Int × Int} (hp : p ∈ r) : G.hasB r p.1 = true ∧ G.hasB r p.2 = true := by
  have := G.may_mem h hp
  unfold G.hasB
  rw [List.any_eq_true, List.any_eq_true]
  exact ⟨⟨p, hp, by simp; omega⟩, ⟨p, hp, by simp; omega⟩⟩
theorem class_self {r : List (Int × Int)} (h : G.mayB r = true) (hs : ∀ n, G.hasB r n = true → U.mayB n = true) : classL false r = r := by
  refine (class_is false r).unique (G.Is.self h) fun n => ?_
  simp only [Bool.false_eq_true, if_false]
  cases e : G.hasB r n with
  | false => simp
  | true => rw [hs n e]; rfl
theorem sign_facts : ∀ c ∈ signs, isLet c = false ∧ c ≠ 64 ∧ isBl c = false ∧ 0 ≤ c ∧ c ≤ 255 := by decide

theorem okI_of {b : Bool} {r : List (Int × Int)} (h : G.mayB r = true) (hb : if b then ∀ p ∈ r, p.2 ≤ 255 else ∀ n, G.hasB r n = true → U.mayB n = true) : ∀ p ∈ r, okI b p := by
  intro p hp
  have hm := G.may_mem h hp
  have he := has_end h hp
  cases b with
  | true =>
    simp only [if_true] at hb
    have := hb p hp
    unfold okI okO
    simp only [if_true]
    omega
  | false =>
    simp only [Bool.false_eq_true, if_false] at hb
    unfold okI okO
    simp only [Bool.false_eq_true, if_false]
    exact ⟨hm.2.1, hb _ he.1, hb _ he.2⟩
theorem showI_facts {b : Bool} {p : Int × Int} (h : okI b p) : showI b p ≠ [] ∧ (showI b p).getD 0 0 = (showO b p.1).getD 0 0 ∧ U.isBytes (showI b p) := by
  obtain ⟨h1, h2, h3⟩ := h
  have hne : showO b p.1 ≠ [] := by
    rcases show_head (b := b) h2 with c | c
    · exact c.1
    · exact c.2.1
  have hl : 0 < (showO b p.1).length := by cases hq : showO b p.1 <;> simp_all
  unfold showI
  split
  · exact ⟨by simp [hne], getD_app hl, bytes_app (show_bytes h2) (bytes_cons (by omega) (by omega) (show_bytes h3))⟩
  · exact ⟨hne, rfl, show_bytes h2⟩
/-- items, told, are read -/
theorem items_show {b : Bool} {stop : Int} (hstop : stop = if b then 62 else 93) {l : List (Int × Int)} (h : ∀ p ∈ l, okI b p) {s : List Int} (hs : U.isBytes s) :
    gatherL (itemL b) stop (l.flatMap (showI b) ++ stop :: s) = some (l, (l.flatMap (showI b)).length + 1) := by
  have hst : 0 ≤ stop ∧ stop ≤ 255 ∧ stop ≠ 45 := by subst hstop; cases b <;> simp
  refine gather_show (item_good b) (showI b) (fun u => u.getD 0 0 ≠ 45) hs hst.1 hst.2.1 hst.2.2 l fun p hp => ?_
  have hok := h p hp
  obtain ⟨f1, f2, f3⟩ := showI_facts hok
  have hl : 0 < (showI b p).length := by cases hq : showI b p <;> simp_all
  have hh : (showO b p.1).getD 0 0 ≠ 45 ∧ (showO b p.1).getD 0 0 ≠ stop := by
    subst hstop
    rcases show_head (b := b) hok.2.1 with c | c
    · cases b
      · exact ⟨c.2.1, c.2.2.1⟩
      · exact ⟨c.2.1, c.2.2.2⟩
    · obtain ⟨rfl, c1, c2, c3⟩ := c
      exact ⟨c2, c3⟩
  exact ⟨f1, by rw [f2]; exact hh.2, f3, fun u => by rw [getD_app hl, f2]; exact hh.1, fun u hu hC => item_show hok hu hC⟩
theorem pieces_show {l : List Int} (h : U.isBytes l) {s : List Int} (hs : U.isBytes s) : gatherL pieceL 34 (l.flatMap showP ++ 34 :: s) = some (l, (l.flatMap showP).length + 1) := by
  refine gather_show piece_good showP (fun _ => True) hs (by omega) (by omega) trivial l fun c hc => ?_
  have hb := h c hc
  refine ⟨piece_head.1, piece_head.2, ?_, fun _ => trivial, fun u _ _ => piece_show hb.1 hb.2 u⟩
  intro z hz
  unfold showP at hz
  split at hz
  · next hr => simp at hz; omega
  · unfold hex2 at hz
    simp only [List.mem_cons, List.not_mem_nil, or_false] at hz
    have d1 := hexD_range (d := c / 16) (by omega) (by omega)
    have d2 := hexD_range (d := c % 16) (by omega) (by omega)
    rcases hz with rfl | rfl | rfl | rfl <;> omega

theorem tok_text {t : Tk} (h : okT t) {s : List Int} (hs : U.isBytes s) (hw : isW (s.getD 0 0) = false) : tokL (textL t ++ s) = some (t, (textL t).length) := by
  obtain ⟨k, x, r⟩ := t
  unfold okT at h
  simp only at h
  rcases h with ⟨rfl, h1, h2, rfl⟩ | ⟨rfl, h1, rfl⟩ | ⟨rfl, ⟨c, h1, rfl⟩, rfl⟩ | ⟨rfl, h1, h2, rfl⟩ | ⟨rfl, rfl, h1, h2⟩ | ⟨rfl, rfl, h1, h2⟩
  · have e : textL (0, x, []) = x := rfl
    have hn := name_iff.1 h1
    have hl : 0 < x.length := by have := name_ne h1; cases x <;> simp_all
    rw [e]
    unfold tokL
    rw [getD_app hl, if_pos hn.1, word_app h1 hw, if_neg (by omega), List.take_left]
  · have e : textL (5, x, []) = 64 :: x := rfl
    have hn := marks_name x h1
    rw [e]
    unfold tokL
    have e0 : (64 :: x ++ s).getD 0 0 = 64 := rfl
    have e1 : (64 :: x ++ s).drop 1 = x ++ s := rfl
    rw [e0, e1, if_neg (by decide), if_pos rfl, word_app hn hw, List.take_left, if_pos h1]
    rfl
  · have e : textL (4, [c], []) = [c] := rfl
    have f := sign_facts c h1
    rw [e]
    unfold tokL
    have e0 : ([c] ++ s).getD 0 0 = c := rfl
    rw [e0, if_neg (by rw [f.1]; simp), if_neg f.2.1, if_pos h1]
    rfl
  · have e : textL (1, x, []) = 34 :: (x.flatMap showP ++ [34]) := rfl
    rw [e]
    unfold tokL
    have e0 : (34 :: (x.flatMap showP ++ [34]) ++ s).getD 0 0 = 34 := rfl
    have e1 : (34 :: (x.flatMap showP ++ [34]) ++ s).drop 1 = x.flatMap showP ++ 34 :: s := by simp
    rw [e0, e1, if_neg (by decide), if_neg (by decide), if_neg (by decide), if_pos rfl, pieces_show h2 hs]
    simp only
    rw [if_neg h1]
    simp
  · have e : textL (3, [], r) = 60 :: (r.flatMap (showI true) ++ [62]) := rfl
    rw [e]
    unfold tokL
    have e0 : (60 :: (r.flatMap (showI true) ++ [62]) ++ s).getD 0 0 = 60 := rfl
    have e1 : (60 :: (r.flatMap (showI true) ++ [62]) ++ s).drop 1 = r.flatMap (showI true) ++ 62 :: s := by simp
    rw [e0, e1, if_neg (by decide), if_neg (by decide), if_neg (by decide), if_neg (by decide), if_pos rfl, items_show (b := true) (stop := 62) rfl (okI_of (b := true) h1 h2) hs]
    simp only
    rw [norm_self h1]
    simp
  · have e : textL (2, [], r) = 91 :: (r.flatMap (showI false) ++ [93]) := rfl
    have hok := okI_of (b := false) h1 h2
    rw [e]
    have e0 : (91 :: (r.flatMap (showI false) ++ [93]) ++ s).getD 0 0 = 91 := rfl
    have e2 : hatN (91 :: (r.flatMap (showI false) ++ [93]) ++ s) = 0 := by
      unfold hatN
      rw [if_neg]
      cases r with
      | nil => simp [List.getD]
      | cons p q =>
        have hp := hok p List.mem_cons_self
        obtain ⟨f1, f2, f3⟩ := showI_facts hp
        have hl : 0 < (showI false p).length := by cases hq : showI false p <;> simp_all
        have e3 : (91 :: ((p :: q).flatMap (showI false) ++ [93]) ++ s).getD 1 0 = (showI false p).getD 0 0 := by
          rw [List.flatMap_cons]
          have : (91 :: ((showI false p ++ q.flatMap (showI false)) ++ [93]) ++ s) = 91 :: (showI false p ++ (q.flatMap (showI false) ++ [93] ++ s)) := by simp
          rw [this]
          show (showI false p ++ (q.flatMap (showI false) ++ [93] ++ s)).getD 0 0 = _
          exact getD_app hl
        rw [e3, f2]
        unfold showO
        simp only [Bool.false_eq_true, if_false]
        by_cases hpl : plainB p.1 = true
        · have := plain_iff.1 hpl
          rw [if_pos hpl]
          show p.1 ≠ 94
          omega
        · rw [if_neg hpl]; simp [List.getD]
    have e1 : (91 :: (r.flatMap (showI false) ++ [93]) ++ s).drop 1 = r.flatMap (showI false) ++ 93 :: s := by simp
    unfold tokL
    rw [e0, e2, e1, if_neg (by decide), if_neg (by decide), if_neg (by decide), if_neg (by decide), if_neg (by decide), if_pos rfl, items_show (b := false) (stop := 93) rfl hok hs]
    simp only
    rw [show (decide ((0 : Nat) = 1)) = false from rfl, class_self h1 h2]
    simp

end Go.Proofs.YtdaadeohamkoiaaGreatDoor.T
