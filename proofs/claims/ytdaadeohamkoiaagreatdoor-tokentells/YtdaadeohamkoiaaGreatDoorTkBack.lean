/- Plain mathematics of layer 5: what is told of a token is read as the token. No program is named here. -/
import Derived.Test.YtdaadeohamkoiaaGreatDoorTkMath
namespace Go.Proofs.YtdaadeohamkoiaaGreatDoor.T
set_option linter.unusedSimpArgs false
set_option linter.unusedVariables false

/-! ### Digits -/
theorem val_hex {d : Int} (h0 : 0 ≤ d) (h1 : d < 16) : valI (hexD d) = d := by
  unfold hexD valI isDig
  by_cases h : d < 10
  · rw [if_pos h, if_pos (by simp; omega)]; omega
  · rw [if_neg h, if_neg (by simp; omega), if_pos (by omega)]; omega
theorem val_range (z : Int) : -1 ≤ valI z ∧ valI z ≤ 15 := by
  unfold valI isDig
  split
  · next h => simp at h; omega
  · split <;> omega
theorem hexD_range {d : Int} (h0 : 0 ≤ d) (h1 : d < 16) : (48 ≤ hexD d ∧ hexD d ≤ 57) ∨ (97 ≤ hexD d ∧ hexD d ≤ 102) := by unfold hexD; split <;> omega
theorem hex_hex2 {n : Int} (h0 : 0 ≤ n) (h1 : n ≤ 255) (s : List Int) : hexI (hex2 n ++ s) = n := by
  have e0 : (hex2 n ++ s).getD 0 0 = hexD (n / 16) := rfl
  have e1 : (hex2 n ++ s).getD 1 0 = hexD (n % 16) := rfl
  unfold hexI
  rw [e0, e1, val_hex (by omega) (by omega), val_hex (by omega) (by omega), if_neg (by omega)]
  omega
theorem hex_range (r : List Int) : -1 ≤ hexI r ∧ hexI r ≤ 255 := by
  have h1 := val_range (r.getD 0 0)
  have h2 := val_range (r.getD 1 0)
  unfold hexI
  split <;> omega
theorem val_zero : valI 0 = -1 := by decide
theorem hex_len {r : List Int} (h : 0 ≤ hexI r) : 2 ≤ r.length := by
  unfold hexI at h
  match r with
  | [] => simp [List.getD, val_zero] at h
  | [a] => simp [List.getD, val_zero] at h
  | a :: b :: t => simp
theorem hex_ext {r : List Int} (h : 0 ≤ hexI r) (s : List Int) : hexI (r ++ s) = hexI r := by
  have := hex_len h
  match r with
  | a :: b :: t => rfl

def foldD (v : Int) (l : List Int) : Int := l.foldl (fun v z => 16 * v + valI z) v
theorem dig_list : ∀ (ds : List Int) (m : Nat) (v : Int) (s : List Int), (∀ z ∈ ds, 0 ≤ valI z) → ds.length ≤ m → (ds.length = m ∨ valI (s.getD 0 0) < 0) → digF m v (ds ++ s) = (foldD v ds, ds.length) := by
  intro ds
  induction ds with
  | nil =>
    intro m v s _ _ h
    cases m with
    | zero => rfl
    | succ m =>
      cases s with
      | nil => rfl
      | cons z t =>
        simp at h
        simp only [List.nil_append, digF]
        rw [if_neg (by omega)]; rfl
  | cons z ds ih =>
    intro m v s hz hl h
    cases m with
    | zero => simp at hl
    | succ m =>
      simp only [List.length_cons] at hl h
      simp only [List.cons_append, digF]
      rw [if_pos (hz z List.mem_cons_self), ih m _ s (fun y hy => hz y (List.mem_cons_of_mem _ hy)) (by omega) (by omega)]
      rfl
theorem dig_range : ∀ (m : Nat) (v : Int) (s : List Int), (digF m v s).2 ≤ m ∧ (digF m v s).2 ≤ s.length := by
  intro m
  induction m with
  | zero => intro v s; simp [digF]
  | succ m ih =>
    intro v s
    cases s with
    | nil => simp [digF]
    | cons z t =>
      simp only [digF]
      split
      · have := ih (16 * v + valI z) t
        simp only [List.length_cons]
        omega
      · simp
/-- digits hang on nothing behind what ends them -/
theorem dig_ext : ∀ (m : Nat) (v : Int) (r s : List Int), (digF m v r).2 < r.length → digF m v (r ++ s) = digF m v r := by
  intro m
  induction m with
  | zero => intro v r s _; rfl
  | succ m ih =>
    intro v r s h
    cases r with
    | nil => simp [digF] at h
    | cons z t =>
      simp only [digF] at h
      simp only [List.cons_append, digF]
      split
      · next hz =>
        rw [if_pos hz] at h
        simp only [List.length_cons] at h
        rw [ih (16 * v + valI z) t s (by omega)]
      · rfl
theorem six_ok : ∀ (f : Nat) (n : Int), 0 ≤ n → n < 16 ^ (f + 1) → (∀ z ∈ sixF f n, 0 ≤ valI z) ∧ foldD 0 (sixF f n) = n ∧ 1 ≤ (sixF f n).length ∧ (sixF f n).length ≤ f + 1 := by
  intro f
  induction f with
  | zero =>
    intro n h0 h1
    have h1' : n < 16 := by simpa using h1
    refine ⟨fun z hz => ?_, ?_, by simp [sixF], by simp [sixF]⟩
    · simp only [sixF, List.mem_cons, List.not_mem_nil, or_false] at hz
      subst hz
      rw [val_hex h0 h1']; exact h0
    · simp only [sixF, foldD, List.foldl]
      rw [val_hex h0 h1']; omega
  | succ f ih =>
    intro n h0 h1
    by_cases h : n < 16
    · have e : sixF (f + 1) n = [hexD n] := by simp only [sixF]; rw [if_pos h]
      rw [e]
      refine ⟨fun z hz => ?_, ?_, by simp, by simp⟩
      · simp only [List.mem_cons, List.not_mem_nil, or_false] at hz
        subst hz
        rw [val_hex h0 h]; exact h0
      · simp only [foldD, List.foldl]
        rw [val_hex h0 h]; omega
    · have e : sixF (f + 1) n = sixF f (n / 16) ++ [hexD (n % 16)] := by simp only [sixF]; rw [if_neg h]
      have h2 : n / 16 < 16 ^ (f + 1) := by
        have : (16 : Int) ^ (f + 1 + 1) = 16 ^ (f + 1) * 16 := Int.pow_succ _ _
        rw [this] at h1
        generalize (16 : Int) ^ (f + 1) = P at *
        omega
      obtain ⟨i1, i2, i3, i4⟩ := ih (n / 16) (by omega) h2
      rw [e]
      refine ⟨fun z hz => ?_, ?_, by rw [List.length_append]; simp, by rw [List.length_append]; simp; omega⟩
      · rcases List.mem_append.1 hz with hz | hz
        · exact i1 z hz
        · simp only [List.mem_cons, List.not_mem_nil, or_false] at hz
          subst hz
          rw [val_hex (by omega) (by omega)]; omega
      · unfold foldD at i2 ⊢
        rw [List.foldl_append, i2]
        simp only [List.foldl]
        rw [val_hex (by omega) (by omega)]; omega
theorem sixL_ok {n : Int} (h0 : 0 ≤ n) (h1 : n ≤ 1114111) : (∀ z ∈ sixL n, 0 ≤ valI z) ∧ foldD 0 (sixL n) = n ∧ 1 ≤ (sixL n).length ∧ (sixL n).length ≤ 6 :=
  six_ok 5 n h0 (by have : (16 : Int) ^ (5 + 1) = 16777216 := by decide
                    omega)

/-! ### SIGNs, HEXes, items, pieces: what is told is read -/
theorem plain_iff {n : Int} : plainB n = true ↔ 32 ≤ n ∧ n ≤ 126 ∧ n ≠ 91 ∧ n ≠ 93 ∧ n ≠ 94 ∧ n ≠ 45 ∧ n ≠ 92 := by
  unfold plainB
  simp only [Bool.and_eq_true, decide_eq_true_eq, Bool.not_eq_true', decide_eq_false_iff_not]
  omega
theorem val_semi : valI 59 = -1 := by decide
theorem sign_show {n : Int} (h : U.mayB n = true) {s : List Int} (hs : U.isBytes s) : signL (showO false n ++ s) = some (n, (showO false n).length) := by
  have hm := (U.may_iff n).1 h
  unfold showO
  simp only [Bool.false_eq_true, if_false]
  by_cases hp : plainB n = true
  · rw [if_pos hp]
    have hp' := plain_iff.1 hp
    have e : U.putL n = [n] := by unfold U.putL; rw [if_pos (by omega)]
    have hn := U.next_put h s
    rw [e] at hn
    unfold signL
    rw [if_neg (by simp), if_pos (by simp [List.getD]; omega), hn]
    simp only
    rw [if_neg (by omega)]
  · rw [if_neg hp]
    obtain ⟨d1, d2, d3, d4⟩ := sixL_ok hm.1 hm.2.1
    have hd : digF 6 0 (sixL n ++ (59 :: s)) = (n, (sixL n).length) := by
      rw [dig_list (sixL n) 6 0 (59 :: s) d1 d4 (.inr (by show valI 59 < 0; rw [val_semi]; omega)), d2]
    have e1 : (92 :: 117 :: (sixL n ++ [59])) ++ s = 92 :: 117 :: (sixL n ++ (59 :: s)) := by simp
    rw [e1]
    unfold signL
    have e2 : (92 :: 117 :: (sixL n ++ (59 :: s))).drop 2 = sixL n ++ (59 :: s) := rfl
    have e3 : (92 :: 117 :: (sixL n ++ (59 :: s))).getD (2 + (sixL n).length) 0 = 59 := by
      simp [List.getD, show 2 + (sixL n).length = (sixL n).length + 1 + 1 by omega]
    rw [if_neg (by simp), if_neg (by simp [List.getD]), if_neg (by simp [List.getD]), e2, hd]
    simp only
    rw [e3, if_neg (by rintro (c | c | c); omega; rw [h] at c; cases c; exact c rfl)]
    simp
theorem one_show {b : Bool} {n : Int} (h : if b then 0 ≤ n ∧ n ≤ 255 else U.mayB n = true) {s : List Int} (hs : U.isBytes s) : oneL b (showO b n ++ s) = some (n, (showO b n).length) := by
  cases b with
  | false => exact sign_show (by simpa using h) hs
  | true =>
    simp only [if_true] at h
    unfold oneL showO
    simp only [if_true]
    rw [hex_hex2 h.1 h.2, if_neg (by omega)]
    rfl
theorem show_head {b : Bool} {n : Int} (h : if b then 0 ≤ n ∧ n ≤ 255 else U.mayB n = true) : showO b n ≠ [] ∧ (showO b n).getD 0 0 ≠ 45 ∧ (showO b n).getD 0 0 ≠ 93 ∧ (showO b n).getD 0 0 ≠ 62 ∨ b = false ∧ showO b n ≠ [] ∧ (showO b n).getD 0 0 ≠ 45 ∧ (showO b n).getD 0 0 ≠ 93 := by
  cases b with
  | true =>
    simp only [if_true] at h
    left
    unfold showO
    simp only [if_true]
    have := hexD_range (d := n / 16) (by omega) (by omega)
    refine ⟨by simp [hex2], ?_, ?_, ?_⟩ <;> (show hexD (n / 16) ≠ _; omega)
  | false =>
    right
    refine ⟨rfl, ?_⟩
    unfold showO
    simp only [Bool.false_eq_true, if_false]
    by_cases hp : plainB n = true
    · have := plain_iff.1 hp
      rw [if_pos hp]
      refine ⟨by simp, ?_, ?_⟩ <;> (show n ≠ _; omega)
    · rw [if_neg hp]
      exact ⟨by simp, by simp [List.getD], by simp [List.getD]⟩
theorem show_bytes {b : Bool} {n : Int} (h : if b then 0 ≤ n ∧ n ≤ 255 else U.mayB n = true) : U.isBytes (showO b n) := by
  have hx : ∀ d : Int, 0 ≤ d → d < 16 → 0 ≤ hexD d ∧ hexD d ≤ 255 := fun d h0 h1 => by have := hexD_range h0 h1; omega
  have hv : ∀ z : Int, 0 ≤ valI z → 0 ≤ z ∧ z ≤ 255 := fun z hz => by
    unfold valI isDig at hz
    split at hz
    · next c => simp at c; omega
    · split at hz <;> omega
  cases b with
  | true =>
    simp only [if_true] at h
    intro z hz
    unfold showO hex2 at hz
    simp only [if_true, List.mem_cons, List.not_mem_nil, or_false] at hz
    rcases hz with rfl | rfl
    · exact hx _ (by omega) (by omega)
    · exact hx _ (by omega) (by omega)
  | false =>
    have hm := (U.may_iff n).1 (by simpa using h)
    intro z hz
    unfold showO at hz
    simp only [Bool.false_eq_true, if_false] at hz
    split at hz
    · next hp =>
      have := plain_iff.1 hp
      simp at hz; omega
    · simp only [List.mem_cons, List.mem_append, List.not_mem_nil, or_false] at hz
      rcases hz with rfl | rfl | hz | rfl
      · omega
      · omega
      · exact hv z ((sixL_ok hm.1 hm.2.1).1 z hz)
      · omega

theorem bytes_app {a b : List Int} (ha : U.isBytes a) (hb : U.isBytes b) : U.isBytes (a ++ b) := fun z hz => by
  rcases List.mem_append.1 hz with h | h
  · exact ha z h
  · exact hb z h
theorem bytes_cons {z : Int} {b : List Int} (h0 : 0 ≤ z) (h1 : z ≤ 255) (hb : U.isBytes b) : U.isBytes (z :: b) := fun y hy => by
  rcases List.mem_cons.1 hy with rfl | h
  · exact ⟨h0, h1⟩
  · exact hb y h
/-- may it be told so? -/
def okO (b : Bool) (n : Int) : Prop := if b then 0 ≤ n ∧ n ≤ 255 else U.mayB n = true
def okI (b : Bool) (r : Int × Int) : Prop := r.1 ≤ r.2 ∧ okO b r.1 ∧ okO b r.2
theorem item_show {b : Bool} {r : Int × Int} (h : okI b r) {s : List Int} (hs : U.isBytes s) (h45 : s.getD 0 0 ≠ 45) : itemL b (showI b r ++ s) = some (r, (showI b r).length) := by
  obtain ⟨lo, hi⟩ := r
  obtain ⟨h1, h2, h3⟩ := h
  simp only at h1 h2 h3
  unfold showI
  simp only
  by_cases hlt : lo < hi
  · rw [if_pos hlt]
    have e : showO b lo ++ 45 :: showO b hi ++ s = showO b lo ++ (45 :: (showO b hi ++ s)) := by simp
    rw [e]
    unfold itemL
    rw [one_show h2 (bytes_cons (by omega) (by omega) (bytes_app (show_bytes h3) hs))]
    simp only
    rw [List.drop_left, if_pos (by simp [List.getD]), ← List.drop_drop, List.drop_left]
    simp only [List.drop_succ_cons, List.drop_zero]
    rw [one_show h3 hs]
    simp only
    rw [if_neg (by omega)]
    simp
    omega
  · obtain rfl : lo = hi := by omega
    rw [if_neg hlt]
    unfold itemL
    rw [one_show h2 hs]
    simp only
    rw [List.drop_left, if_neg h45]
theorem raw_iff {c : Int} : rawB c = true ↔ 32 ≤ c ∧ c ≤ 126 ∧ c ≠ 34 ∧ c ≠ 92 := by
  unfold rawB
  simp only [Bool.not_eq_true', decide_eq_false_iff_not]
  omega
theorem piece_show {c : Int} (h0 : 0 ≤ c) (h1 : c ≤ 255) (s : List Int) : pieceL (showP c ++ s) = some (c, (showP c).length) := by
  unfold showP
  by_cases hr : rawB c = true
  · have := raw_iff.1 hr
    rw [if_pos hr]
    unfold pieceL
    have e : ([c] ++ s).getD 0 0 = c := rfl
    rw [e, if_neg (by omega), if_neg (by omega)]
    rfl
  · rw [if_neg hr]
    unfold pieceL
    have e0 : ((92 :: 120 :: hex2 c) ++ s).getD 0 0 = 92 := rfl
    have e1 : ((92 :: 120 :: hex2 c) ++ s).getD 1 0 = 120 := rfl
    have e2 : ((92 :: 120 :: hex2 c) ++ s).drop 2 = hex2 c ++ s := rfl
    rw [e0, e1, e2, hex_hex2 h0 h1, if_pos rfl, if_pos ⟨rfl, h0⟩]
    rfl
theorem piece_head {c : Int} : showP c ≠ [] ∧ (showP c).getD 0 0 ≠ 34 := by
  unfold showP
  by_cases hr : rawB c = true
  · have := raw_iff.1 hr
    rw [if_pos hr]
    exact ⟨by simp, by show c ≠ 34; omega⟩
  · rw [if_neg hr]
    exact ⟨by simp, by simp [List.getD]⟩

/-! ### What each takes -/
theorem sign_good : Good signL := by
  intro r x n hb h
  unfold signL at h
  split at h
  · cases h
  · next h0 =>
    split at h
    · split at h
      · cases h
      · simp only [Option.some.injEq] at h
        have nb := U.next_bound hb h0
        rw [h] at nb
        omega
    · split at h
      · cases h
      · split at h
        · cases h
        · next c =>
          simp only [Option.some.injEq, Prod.mk.injEq] at h
          have dr := dig_range 6 0 (r.drop 2)
          have hlen : 2 + (digF 6 0 (r.drop 2)).2 < r.length := by
            by_cases hh : 2 + (digF 6 0 (r.drop 2)).2 < r.length
            · exact hh
            · exfalso
              apply c
              right; right
              simp [List.getD, List.getElem?_eq_none (Nat.le_of_not_lt hh)]
          omega
theorem next_ext {r : List Int} (hb : U.isBytes r) {s : List Int} (h : 0 ≤ (U.nextL r).1) : U.nextL (r ++ s) = U.nextL r := by
  rcases U.next_cases hb with ⟨_, e⟩ | ⟨_, e⟩ | ⟨q, hm, e, t, d⟩
  · rw [e] at h; simp at h
  · rw [e] at h; simp at h
  · have e3 : U.putL q ++ (r.drop (U.putL q).length ++ s) = r ++ s := by
      rw [← List.append_assoc]
      have := List.take_append_drop (U.putL q).length r
      rw [t] at this
      rw [this]
    rw [← e3, U.next_put hm, e]
theorem getD_app {r s : List Int} {k : Nat} (h : k < r.length) : (r ++ s).getD k 0 = r.getD k 0 := by simp [List.getD, List.getElem?_append_left h]
theorem sign_ext {r : List Int} (hb : U.isBytes r) {x : Int} {n : Nat} (h : signL r = some (x, n)) (s : List Int) : signL (r ++ s) = some (x, n) := by
  unfold signL at h
  split at h
  · cases h
  · next h0 =>
    have hl : 1 ≤ r.length := by cases r <;> simp_all
    have h0s : r ++ s ≠ [] := by simp [h0]
    split at h
    · next h92 =>
      split at h
      · cases h
      · next c =>
        unfold signL
        rw [if_neg h0s, if_pos (by rw [getD_app (by omega)]; exact h92), next_ext hb (by omega), if_neg c]
        exact h
    · next h92 =>
      split at h
      · cases h
      · next h117 =>
        split at h
        · cases h
        · next c =>
          have hlen : 2 + (digF 6 0 (r.drop 2)).2 < r.length := by
            by_cases hh : 2 + (digF 6 0 (r.drop 2)).2 < r.length
            · exact hh
            · exfalso
              apply c
              right; right
              simp [List.getD, List.getElem?_eq_none (Nat.le_of_not_lt hh)]
          unfold signL
          rw [if_neg h0s, if_neg (by rw [getD_app (by omega)]; exact h92), if_neg (by rw [getD_app (by omega)]; exact h117), List.drop_append_of_le_length (by omega),
            dig_ext 6 0 (r.drop 2) s (by rw [List.length_drop]; omega), getD_app hlen, if_neg c]
          exact h
theorem one_good (b : Bool) : Good (oneL b) := by
  intro r x n hb h
  cases b with
  | false => exact sign_good r x n hb h
  | true =>
    unfold oneL at h
    simp only [if_true] at h
    split at h
    · cases h
    · next c =>
      simp only [Option.some.injEq, Prod.mk.injEq] at h
      have := hex_len (r := r) (by omega)
      omega
theorem one_ext {b : Bool} {r : List Int} (hb : U.isBytes r) {x : Int} {n : Nat} (h : oneL b r = some (x, n)) (s : List Int) : oneL b (r ++ s) = some (x, n) := by
  cases b with
  | false => exact sign_ext hb h s
  | true =>
    unfold oneL at h ⊢
    simp only [if_true] at h ⊢
    split at h
    · cases h
    · next c => rw [hex_ext (by omega), if_neg c]; exact h
theorem item_good (b : Bool) : Good (itemL b) := by
  intro r x n hb h
  unfold itemL at h
  cases e : oneL b r with
  | none => rw [e] at h; cases h
  | some p =>
    obtain ⟨lo, k⟩ := p
    have hk := one_good b r lo k hb e
    rw [e] at h
    simp only at h
    split at h
    · cases e2 : oneL b (r.drop (k + 1)) with
      | none => rw [e2] at h; cases h
      | some q =>
        obtain ⟨to, m⟩ := q
        have hm := one_good b _ to m (U.isBytes_drop hb _) e2
        rw [List.length_drop] at hm
        rw [e2] at h
        simp only at h
        split at h
        · cases h
        · simp only [Option.some.injEq, Prod.mk.injEq] at h
          omega
    · simp only [Option.some.injEq, Prod.mk.injEq] at h
      omega
theorem item_ext (b : Bool) : Ext (itemL b) := by
  intro r x n s hb hbs h hn
  unfold itemL at h ⊢
  cases e : oneL b r with
  | none => rw [e] at h; cases h
  | some p =>
    obtain ⟨lo, k⟩ := p
    have hk := one_good b r lo k hb e
    rw [e] at h
    rw [one_ext hb e s]
    simp only at h ⊢
    split at h
    · next h45 =>
      have hlk : k < r.length := by
        by_cases hh : k < r.length
        · exact hh
        · rw [List.drop_of_length_le (by omega)] at h45
          simp [List.getD] at h45
      have e45 : ((r ++ s).drop k).getD 0 0 = 45 := by
        rw [List.drop_append_of_le_length (by omega), getD_app (by rw [List.length_drop]; omega)]; exact h45
      rw [if_pos e45]
      cases e2 : oneL b (r.drop (k + 1)) with
      | none => rw [e2] at h; cases h
      | some q =>
        obtain ⟨to, m⟩ := q
        rw [e2] at h
        rw [List.drop_append_of_le_length (by omega), one_ext (U.isBytes_drop hb _) e2 s]
        exact h
    · next h45 =>
      simp only [Option.some.injEq, Prod.mk.injEq] at h
      have e45 : ¬ ((r ++ s).drop k).getD 0 0 = 45 := by
        rw [List.drop_append_of_le_length (by omega), getD_app (by rw [List.length_drop]; omega)]; exact h45
      rw [if_neg e45]
      simp only [Option.some.injEq, Prod.mk.injEq]
      exact h
theorem piece_good : Good pieceL := by
  intro r x n hb h
  unfold pieceL at h
  split at h
  · split at h
    · next c =>
      simp only [Option.some.injEq, Prod.mk.injEq] at h
      have := hex_len c.2
      rw [List.length_drop] at this
      omega
    · cases h
  · split at h
    · cases h
    · next c =>
      simp only [Option.some.injEq, Prod.mk.injEq] at h
      have : 1 ≤ r.length := by
        cases r with
        | nil => simp [List.getD] at c
        | cons => simp
      omega
theorem piece_ext : Ext pieceL := by
  intro r x n s hb hbs h hn
  have hl : 1 ≤ r.length := by omega
  unfold pieceL at h ⊢
  rw [getD_app (show 0 < r.length by omega)]
  split at h
  · next h92 =>
    rw [if_pos h92]
    split at h
    · next c =>
      have := hex_len c.2
      rw [List.length_drop] at this
      rw [getD_app (show 1 < r.length by omega), List.drop_append_of_le_length (by omega), hex_ext c.2, if_pos c]
      exact h
    · cases h
  · next h92 =>
    rw [if_neg h92]
    exact h

end Go.Proofs.YtdaadeohamkoiaaGreatDoor.T
