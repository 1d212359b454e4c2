/- Plain mathematics of layer 4 (lines): where lines begin, their numbers, columns, ends of lines. No program is named here. -/
import Derived.Test.YtjjfeeclpidblaaUtfMath
namespace Go.Proofs.Ytjjfeeclpidblaa.Ln
set_option linter.unusedSimpArgs false
set_option linter.unusedVariables false

/-! ### Where a line begins -/
def beginN (l : List Int) : Nat → Nat
  | 0 => 0
  | n + 1 => if l.getD n 0 = 10 then n + 1 else beginN l n
theorem begin_le (l : List Int) (n : Nat) : beginN l n ≤ n := by
  induction n with
  | zero => exact Nat.le_refl _
  | succ n ih => unfold beginN; split <;> omega
theorem begin_no (l : List Int) (n k : Nat) (h1 : beginN l n ≤ k) (h2 : k < n) : l.getD k 0 ≠ 10 := by
  induction n with
  | zero => omega
  | succ n ih =>
    unfold beginN at h1
    split at h1
    · omega
    · next c =>
      by_cases e : k = n
      · subst e; exact c
      · exact ih h1 (by omega)
theorem begin_is (l : List Int) (n : Nat) : beginN l n = 0 ∨ l.getD (beginN l n - 1) 0 = 10 := by
  induction n with
  | zero => exact .inl rfl
  | succ n ih =>
    unfold beginN
    split
    · next c => right; simpa using c
    · exact ih
theorem begin_uniq {l : List Int} {n s : Nat} (h : s ≤ n) (h0 : s = 0 ∨ l.getD (s - 1) 0 = 10) (hn : ∀ k, s ≤ k → k < n → l.getD k 0 ≠ 10) : beginN l n = s := by
  rcases Nat.lt_trichotomy (beginN l n) s with c | c | c
  · exfalso
    rcases h0 with h0 | h0
    · omega
    · exact begin_no l n (s - 1) (by omega) (by omega) h0
  · exact c
  · exfalso
    have hb := begin_le l n
    rcases begin_is l n with e | e
    · omega
    · exact hn (beginN l n - 1) (by omega) (by omega) e
theorem begin_idem (l : List Int) (n : Nat) : beginN l (beginN l n) = beginN l n :=
  begin_uniq (Nat.le_refl _) (begin_is l n) fun k h1 h2 => by omega

/-! ### Numbers of lines -/
def lineN (l : List Int) (n : Nat) : Nat := (l.take n).countP fun z => decide (z = 10)
theorem line_zero (l : List Int) : lineN l 0 = 0 := by simp [lineN]
theorem line_step (l : List Int) (n : Nat) (h : n < l.length) : lineN l (n + 1) = lineN l n + if l.getD n 0 = 10 then 1 else 0 := by
  unfold lineN
  have e : l.getD n 0 = l[n] := by simp [List.getD, h]
  rw [List.take_succ_eq_append_getElem h, List.countP_append, e]
  by_cases c : l[n] = 10 <;> simp [c]
theorem line_flat (l : List Int) (s n : Nat) (h : s ≤ n) (hn : n ≤ l.length) (hk : ∀ k, s ≤ k → k < n → l.getD k 0 ≠ 10) : lineN l n = lineN l s := by
  induction n with
  | zero => obtain rfl : s = 0 := by omega
            rfl
  | succ n ih =>
    by_cases e : s = n + 1
    · rw [e]
    · rw [line_step l n (by omega), if_neg (hk n (by omega) (by omega)), Nat.add_zero]
      exact ih (by omega) (by omega) fun k h1 h2 => hk k h1 (by omega)
theorem line_begin (l : List Int) (n : Nat) (hn : n ≤ l.length) : lineN l (beginN l n) = lineN l n :=
  (line_flat l _ n (begin_le l n) hn fun k h1 h2 => begin_no l n k h1 h2).symm
theorem line_append (a b : List Int) (n : Nat) : lineN (a ++ b) (a.length + n) = lineN a a.length + lineN b n := by
  unfold lineN
  rw [List.take_append, List.countP_append, List.take_of_length_le (show a.length ≤ a.length + n by omega), List.take_length, show a.length + n - a.length = n by omega]
theorem line_le (l : List Int) (n : Nat) : lineN l n ≤ n := by
  unfold lineN
  exact Nat.le_trans List.countP_le_length (by rw [List.length_take]; omega)

/-! ### Blanks -/
def blanks : List Int → Nat
  | [] => 0
  | z :: t => if z = 32 ∨ z = 9 ∨ z = 13 then blanks t + 1 else 0
def firstN (l : List Int) (n : Nat) : Nat := n + blanks (l.drop n)
theorem blanks_le (l : List Int) : blanks l ≤ l.length := by
  induction l with
  | nil => exact Nat.le_refl _
  | cons z t ih => simp only [blanks, List.length_cons]; split <;> omega
theorem blanks_drop (l : List Int) : blanks (l.drop (blanks l)) = 0 := by
  induction l with
  | nil => rfl
  | cons z t ih =>
    simp only [blanks]
    split
    · simpa using ih
    · next c => simp [blanks, c]
theorem first_ge (l : List Int) (n : Nat) : n ≤ firstN l n := Nat.le_add_right _ _
theorem first_le (l : List Int) (n : Nat) (h : n ≤ l.length) : firstN l n ≤ l.length := by
  have := blanks_le (l.drop n)
  rw [List.length_drop] at this
  unfold firstN; omega
theorem first_idem (l : List Int) (n : Nat) : firstN l (firstN l n) = firstN l n := by
  have := blanks_drop (l.drop n)
  rw [List.drop_drop] at this
  unfold firstN
  rw [this, Nat.add_zero]

/-! ### Columns -/
def next1 (tab c : Nat) (z : Int) : Nat := if z = 9 then (c / tab + 1) * tab else c + 1
def colF (tab : Nat) : Nat → List Int → Nat → Nat → Nat
  | 0, _, _, c => c
  | f + 1, r, left, c => if left = 0 then c else if left < (U.nextL r).2 then c else colF tab f (r.drop (U.nextL r).2) (left - (U.nextL r).2) (next1 tab c (r.getD 0 0))
def colN (l : List Int) (n tab : Nat) : Nat := colF tab (n - beginN l n) (l.drop (beginN l n)) (n - beginN l n) 0

theorem next1_bd {tab c : Nat} {z : Int} (h : 1 ≤ tab) : c + 1 ≤ next1 tab c z ∧ next1 tab c z ≤ c + tab := by
  unfold next1
  split
  · have h1 := Nat.div_add_mod c tab
    have h2 := Nat.mod_lt c (show 0 < tab by omega)
    rw [Nat.add_mul, Nat.one_mul, Nat.mul_comm (c / tab) tab]
    omega
  · omega
theorem next1_tab {tab c : Nat} : next1 tab c 9 % tab = 0 := by unfold next1; rw [if_pos rfl]; exact Nat.mul_mod_left _ _
theorem next1_one {c : Nat} {z : Int} : next1 1 c z = c + 1 := by unfold next1; split <;> simp

theorem colF_zero (tab f : Nat) (r : List Int) (c : Nat) : colF tab f r 0 c = c := by cases f <;> simp [colF]
theorem colF_fuel {tab : Nat} : ∀ (f g : Nat) (r : List Int) (left c : Nat), U.isBytes r → left ≤ r.length → left ≤ f → left ≤ g → colF tab f r left c = colF tab g r left c := by
  intro f
  induction f with
  | zero => intro g r left c _ _ h1 _; obtain rfl : left = 0 := by omega
            rw [colF_zero, colF_zero]
  | succ f ih =>
    intro g r left c hb hl h1 h2
    by_cases h0 : left = 0
    · subst h0; rw [colF_zero, colF_zero]
    · cases g with
      | zero => omega
      | succ g =>
        have hne : r ≠ [] := by intro e; subst e; simp at hl; omega
        have nb := U.next_bound hb hne
        simp only [colF, if_neg h0]
        split
        · rfl
        · exact ih g _ _ _ (U.isBytes_drop hb _) (by rw [List.length_drop]; omega) (by omega) (by omega)
theorem col_bound {tab : Nat} (h1 : 1 ≤ tab) (h2 : tab ≤ 16) : ∀ (f : Nat) (r : List Int) (left c : Nat), U.isBytes r → left ≤ r.length → left ≤ f →
    c ≤ colF tab f r left c ∧ colF tab f r left c ≤ c + 16 * left ∧ left ≤ 4 * (colF tab f r left c - c) + 3 := by
  intro f
  induction f with
  | zero => intro r left c _ _ h; obtain rfl : left = 0 := by omega
            simp [colF]
  | succ f ih =>
    intro r left c hb hl hf
    by_cases h0 : left = 0
    · subst h0; rw [colF_zero]; omega
    · have hne : r ≠ [] := by intro e; subst e; simp at hl; omega
      have nb := U.next_bound hb hne
      simp only [colF, if_neg h0]
      split
      · omega
      · have i := ih (r.drop (U.nextL r).2) (left - (U.nextL r).2) (next1 tab c (r.getD 0 0)) (U.isBytes_drop hb _) (by rw [List.length_drop]; omega) (by omega)
        have b := next1_bd (tab := tab) (c := c) (z := r.getD 0 0) h1
        omega
theorem colN_bound {l : List Int} (hb : U.isBytes l) {n tab : Nat} (hn : n ≤ l.length) (h1 : 1 ≤ tab) (h2 : tab ≤ 16) : colN l n tab ≤ 16 * (n - beginN l n) ∧ n - beginN l n < 4 * colN l n tab + 4 := by
  have := col_bound h1 h2 (n - beginN l n) (l.drop (beginN l n)) (n - beginN l n) 0 (U.isBytes_drop hb _) (by rw [List.length_drop]; omega) (Nat.le_refl _)
  unfold colN
  omega

/-- tabs among bytes -/
def tabsN (l : List Int) : Nat := l.countP fun z => decide (z = 9)
theorem tabs_le (r : List Int) (k left : Nat) (h : k ≤ left) : tabsN ((r.drop k).take (left - k)) ≤ tabsN (r.take left) := by
  unfold tabsN
  have e : r.take left = r.take k ++ (r.drop k).take (left - k) := by
    rw [← List.take_add, show k + (left - k) = left by omega]
  rw [e, List.countP_append]; omega
theorem tabs_head (r : List Int) (left : Nat) (h : 1 ≤ left) (hr : r ≠ []) (h9 : r.getD 0 0 = 9) : tabsN ((r.drop 1).take (left - 1)) + 1 ≤ tabsN (r.take left) := by
  cases r with
  | nil => exact absurd rfl hr
  | cons z t =>
    obtain ⟨m, rfl⟩ : ∃ m, left = m + 1 := ⟨left - 1, by omega⟩
    simp at h9
    subst h9
    simp [tabsN]
theorem col_tabs {tab : Nat} (h1 : 1 ≤ tab) : ∀ (f : Nat) (r : List Int) (left c1 c : Nat), U.isBytes r → left ≤ r.length → left ≤ f →
    colF 1 f r left c1 - c1 ≤ colF tab f r left c - c ∧ c1 ≤ colF 1 f r left c1 ∧ c ≤ colF tab f r left c ∧ colF tab f r left c - c ≤ (colF 1 f r left c1 - c1) + tabsN (r.take left) * (tab - 1) := by
  intro f
  induction f with
  | zero => intro r left c1 c _ _ h; simp [colF]
  | succ f ih =>
    intro r left c1 c hb hl hf
    by_cases h0 : left = 0
    · subst h0; rw [colF_zero, colF_zero]; simp
    · have hne : r ≠ [] := by intro e; subst e; simp at hl; omega
      have nb := U.next_bound hb hne
      simp only [colF, if_neg h0]
      split
      · simp
      · next cl =>
        have i := ih (r.drop (U.nextL r).2) (left - (U.nextL r).2) (next1 1 c1 (r.getD 0 0)) (next1 tab c (r.getD 0 0)) (U.isBytes_drop hb _) (by rw [List.length_drop]; omega) (by omega)
        rw [next1_one] at i ⊢
        have b := next1_bd (tab := tab) (c := c) (z := r.getD 0 0) h1
        generalize colF 1 f _ _ (c1 + 1) = X at *
        by_cases h9 : r.getD 0 0 = 9
        · have n1 : (U.nextL r).2 = 1 := by rw [U.next_ascii hb hne (by omega)]
          have th := tabs_head r left (by omega) hne h9
          rw [n1] at i ⊢
          generalize colF tab f _ _ (next1 tab c (r.getD 0 0)) = Y at *
          have := Nat.mul_le_mul_right (tab - 1) th
          rw [Nat.add_mul, Nat.one_mul] at this
          omega
        · have e : next1 tab c (r.getD 0 0) = c + 1 := by unfold next1; rw [if_neg h9]
          rw [e] at i ⊢
          have th := Nat.mul_le_mul_right (tab - 1) (tabs_le r (U.nextL r).2 left (by omega))
          generalize colF tab f _ _ (c + 1) = Y at *
          omega

/-! ### Units and line feeds -/
theorem feed_unit {l : List Int} (hb : U.isBytes l) {i : Nat} (hi : i < (U.nextL l).2) (h : l.getD i 0 = 10) : (U.nextL l).2 = 1 := by
  rcases U.next_cases hb with ⟨_, e⟩ | ⟨_, e⟩ | ⟨r, hm, e, t, d⟩
  · rw [e] at hi; simp at hi
  · rw [e]
  · rw [e] at hi ⊢
    simp only at hi ⊢
    have hg : (U.putL r).getD i 0 = 10 := by
      rw [← t]
      simp only [List.getD, List.getElem?_take, if_pos hi]
      exact h
    cases i with
    | zero =>
      unfold U.putL at hg ⊢
      have := (U.may_iff r).1 hm
      split
      · rfl
      · next c1 =>
        rw [if_neg c1] at hg
        split at hg
        · simp at hg; omega
        · split at hg <;> simp at hg <;> omega
    | succ i =>
      exfalso
      have hmem : (10 : Int) ∈ (U.putL r).tail := by
        have hlt : i + 1 < (U.putL r).length := hi
        have e1 : (U.putL r).getD (i + 1) 0 = (U.putL r)[i + 1] := by simp [List.getD, hlt]
        rw [e1] at hg
        rw [← hg]
        have : (U.putL r)[i + 1] = (U.putL r).tail[i]'(by simp; omega) := by simp
        rw [this]
        exact List.getElem_mem _
      have := U.put_trail hm 10 hmem
      omega
theorem next_feed {r c : List Int} (hr : U.isBytes r) (hc : U.isBytes c) (hne : r ≠ []) : U.nextL (r ++ 10 :: c) = U.nextL r := by
  have hb : U.isBytes (r ++ 10 :: c) := by
    intro z hz
    rcases List.mem_append.1 hz with h | h
    · exact hr z h
    · rcases List.mem_cons.1 h with rfl | h
      · omega
      · exact hc z h
  rcases U.next_cases hr with ⟨e, _⟩ | ⟨_, e⟩ | ⟨q, hm, e, t, d⟩
  · exact absurd e hne
  · rcases U.next_cases hb with ⟨e2, _⟩ | ⟨_, e2⟩ | ⟨q, hm, e2, t, d⟩
    · simp at e2
    · rw [e, e2]
    · exfalso
      by_cases hl : (U.putL q).length ≤ r.length
      · rw [List.take_append_of_le_length hl] at t
        have n1 := U.next_put hm (r.drop (U.putL q).length)
        have e3 : U.putL q ++ r.drop (U.putL q).length = r := by
          have := List.take_append_drop (U.putL q).length r
          rw [t] at this
          exact this
        rw [e3, e] at n1
        have := congrArg Prod.fst n1
        have hq := (U.may_iff q).1 hm
        simp only at this
        omega
      · have hrl : 1 ≤ r.length := by cases r <;> simp_all
        have hx : (r ++ 10 :: c).getD r.length 0 = 10 := by simp [List.getD]
        have := feed_unit hb (i := r.length) (by rw [e2]; simp only; omega) hx
        rw [e2] at this
        simp only at this
        omega
  · have e3 : U.putL q ++ (r.drop (U.putL q).length ++ 10 :: c) = r ++ 10 :: c := by
      rw [← List.append_assoc]
      have := List.take_append_drop (U.putL q).length r
      rw [t] at this
      rw [this]
    rw [← e3, U.next_put hm, e]
theorem colF_feed {tab : Nat} {c : List Int} (hc : U.isBytes c) : ∀ (f : Nat) (r : List Int) (left k : Nat), U.isBytes r → left ≤ r.length → colF tab f (r ++ 10 :: c) left k = colF tab f r left k := by
  intro f
  induction f with
  | zero => intro r left k _ _; rfl
  | succ f ih =>
    intro r left k hb hl
    by_cases h0 : left = 0
    · subst h0; rw [colF_zero, colF_zero]
    · have hne : r ≠ [] := by intro e; subst e; simp at hl; omega
      have nb := U.next_bound hb hne
      simp only [colF, if_neg h0]
      rw [next_feed hb hc hne]
      split
      · rfl
      · have e1 : (r ++ 10 :: c).getD 0 0 = r.getD 0 0 := by cases r with
          | nil => exact absurd rfl hne
          | cons z t => rfl
        rw [e1, List.drop_append_of_le_length (by omega)]
        exact ih _ _ _ (U.isBytes_drop hb _) (by rw [List.length_drop]; omega)

/-- places that a unit begins at, one behind the other, go on where the first ones have come to -/
theorem colF_bd {tab : Nat} : ∀ (j : Nat) (r : List Int) (k left c f g : Nat), U.isBytes r → U.Bd j r k → k + left ≤ r.length → k + left ≤ f → left ≤ g →
    ∀ h, k ≤ h → colF tab f r (k + left) c = colF tab g (r.drop k) left (colF tab h r k c) := by
  intro j
  induction j with
  | zero =>
    intro r k left c f g hb hB hl hf hg h hh
    have hk : k = 0 := hB
    subst hk
    rw [Nat.zero_add, colF_zero, List.drop_zero]
    exact colF_fuel f g r left c hb (by omega) (by omega) hg
  | succ j ih =>
    intro r k left c f g hb hB hl hf hg h hh
    obtain ⟨hne, k', rfl, hB'⟩ := hB
    have nb := U.next_bound hb hne
    cases f with
    | zero => omega
    | succ f =>
      cases h with
      | zero => omega
      | succ h =>
        have e1 : colF tab (f + 1) r ((U.nextL r).2 + k' + left) c = colF tab f (r.drop (U.nextL r).2) (k' + left) (next1 tab c (r.getD 0 0)) := by
          simp only [colF]
          rw [if_neg (by omega), if_neg (by omega), show (U.nextL r).2 + k' + left - (U.nextL r).2 = k' + left by omega]
        have e2 : colF tab (h + 1) r ((U.nextL r).2 + k') c = colF tab h (r.drop (U.nextL r).2) k' (next1 tab c (r.getD 0 0)) := by
          simp only [colF]
          rw [if_neg (by omega), if_neg (by omega), show (U.nextL r).2 + k' - (U.nextL r).2 = k' by omega]
        rw [e1, e2, ih (r.drop (U.nextL r).2) k' left (next1 tab c (r.getD 0 0)) f g (U.isBytes_drop hb _) hB' (by rw [List.length_drop]; omega) (by omega) hg h (by omega), List.drop_drop]
theorem Bd_le : ∀ (j : Nat) (l : List Int) (k : Nat), U.isBytes l → U.Bd j l k → k ≤ l.length := by
  intro j
  induction j with
  | zero => intro l k _ h; have : k = 0 := h; omega
  | succ j ih =>
    intro l k hb h
    obtain ⟨h1, k', rfl, h2⟩ := h
    have nb := U.next_bound hb h1
    have := ih _ _ (U.isBytes_drop hb _) h2
    rw [List.length_drop] at this
    omega
/-- where a line begins a unit does -/
theorem Bd_feed : ∀ (j : Nat) (l : List Int) (k s : Nat), U.isBytes l → U.Bd j l k → s ≤ k → (s = 0 ∨ l.getD (s - 1) 0 = 10) → ∃ j', U.Bd j' (l.drop s) (k - s) := by
  intro j
  induction j with
  | zero =>
    intro l k s hb h hs h0
    have hk : k = 0 := h
    subst hk
    obtain rfl : s = 0 := by omega
    exact ⟨0, rfl⟩
  | succ j ih =>
    intro l k s hb h hs h0
    by_cases e0 : s = 0
    · subst e0; exact ⟨j + 1, h⟩
    · obtain ⟨h1, k', rfl, h2⟩ := h
      have h10 : l.getD (s - 1) 0 = 10 := by rcases h0 with h0 | h0; exact absurd h0 e0; exact h0
      have hge : (U.nextL l).2 ≤ s := by
        by_cases c : s - 1 < (U.nextL l).2
        · have := feed_unit hb c h10; omega
        · omega
      have nb := U.next_bound hb h1
      have := ih (l.drop (U.nextL l).2) k' (s - (U.nextL l).2) (U.isBytes_drop hb _) h2 (by omega) (by
        by_cases e : s - (U.nextL l).2 = 0
        · exact .inl e
        · right
          simp only [List.getD, List.getElem?_drop] at h10 ⊢
          rw [show (U.nextL l).2 + (s - (U.nextL l).2 - 1) = s - 1 by omega]
          exact h10)
      obtain ⟨j', hj⟩ := this
      rw [List.drop_drop, show (U.nextL l).2 + (s - (U.nextL l).2) = s by omega] at hj
      exact ⟨j', by rw [show (U.nextL l).2 + k' - s = k' - (s - (U.nextL l).2) by omega]; exact hj⟩
/-- a unit further -/
theorem col_next {l : List Int} (hb : U.isBytes l) {tab j n : Nat} (hB : U.Bd j l n) (hn : n < l.length) (h10 : l.getD n 0 ≠ 10) :
    colN l (n + (U.nextL (l.drop n)).2) tab = next1 tab (colN l n tab) (l.getD n 0) := by
  have hne : l.drop n ≠ [] := by intro e; have := congrArg List.length e; rw [List.length_drop, List.length_nil] at this; omega
  have hbd := U.isBytes_drop hb n
  have nb := U.next_bound hbd hne
  rw [List.length_drop] at nb
  obtain ⟨q, hq⟩ : ∃ q, (U.nextL (l.drop n)).2 = q := ⟨_, rfl⟩
  have hle := begin_le l n
  have hbq : beginN l (n + q) = beginN l n := by
    refine begin_uniq (by omega) (begin_is l n) fun k h1 h2 => ?_
    by_cases c : k < n
    · exact begin_no l n k h1 c
    · intro e
      have hx : (l.drop n).getD (k - n) 0 = 10 := by
        simp only [List.getD, List.getElem?_drop] at e ⊢
        rw [show n + (k - n) = k by omega]; exact e
      have u1 := feed_unit hbd (i := k - n) (by omega) hx
      have : k = n := by omega
      subst this
      exact h10 e
  obtain ⟨j', hj'⟩ := Bd_feed j l n (beginN l n) hb hB hle (begin_is l n)
  unfold colN
  rw [hq, hbq, show n + q - beginN l n = (n - beginN l n) + q by omega,
    colF_bd j' (l.drop (beginN l n)) (n - beginN l n) q 0 (n - beginN l n + q) q (U.isBytes_drop hb _) hj' (by rw [List.length_drop]; omega) (Nat.le_refl _) (Nat.le_refl _) (n - beginN l n) (Nat.le_refl _),
    List.drop_drop, show beginN l n + (n - beginN l n) = n by omega]
  obtain ⟨p, rfl⟩ : ∃ p, q = p + 1 := ⟨q - 1, by omega⟩
  simp only [colF, hq]
  rw [if_neg (by omega), if_neg (by omega), Nat.sub_self, colF_zero]
  congr 1
  simp [List.getD, List.getElem?_drop]
theorem col_begin (l : List Int) (n tab : Nat) (h : beginN l n = n) : colN l n tab = 0 := by
  unfold colN; rw [h, Nat.sub_self, colF_zero]
theorem begin_feed (l : List Int) (n : Nat) (h : l.getD n 0 = 10) : beginN l (n + 1) = n + 1 := by unfold beginN; rw [if_pos h]

/-! ### What stands ahead and behind -/
theorem getD_left {a b : List Int} {k : Nat} (h : k < a.length) : (a ++ b).getD k 0 = a.getD k 0 := by simp [List.getD, List.getElem?_append_left h]
theorem getD_right {a b : List Int} {k : Nat} : (a ++ b).getD (a.length + k) 0 = b.getD k 0 := by
  simp only [List.getD]
  rw [List.getElem?_append_right (by omega), show a.length + k - a.length = k by omega]
theorem ahead_begin (a b c : List Int) : beginN ((a ++ [10]) ++ (b ++ 10 :: c)) (a.length + 1 + b.length) = a.length + 1 + beginN b b.length := by
  have ha : (a ++ [10]).length = a.length + 1 := by simp
  have hle := begin_le b b.length
  have at1 : ∀ k, ((a ++ [10]) ++ (b ++ 10 :: c)).getD (a.length + 1 + k) 0 = (b ++ 10 :: c).getD k 0 := fun k => by rw [← ha]; exact getD_right
  refine begin_uniq (by omega) ?_ fun k h1 h2 => ?_
  · right
    by_cases e : beginN b b.length = 0
    · rw [e, Nat.add_zero, show a.length + 1 - 1 = a.length by omega, getD_left (by simp)]
      simp [List.getD]
    · rcases begin_is b b.length with h | h
      · exact absurd h e
      · rw [show a.length + 1 + beginN b b.length - 1 = a.length + 1 + (beginN b b.length - 1) by omega, at1, getD_left (by omega)]; exact h
  · obtain ⟨q, rfl⟩ : ∃ q, k = a.length + 1 + q := ⟨k - (a.length + 1), by omega⟩
    rw [at1, getD_left (by omega)]
    exact begin_no b b.length q (by omega) (by omega)
theorem ahead_col (a b c : List Int) (hb : U.isBytes b) (hc : U.isBytes c) (tab : Nat) : colN ((a ++ [10]) ++ (b ++ 10 :: c)) (a.length + 1 + b.length) tab = colN b b.length tab := by
  have hle := begin_le b b.length
  have ha : (a ++ [10]).length = a.length + 1 := by simp
  unfold colN
  rw [ahead_begin, show a.length + 1 + b.length - (a.length + 1 + beginN b b.length) = b.length - beginN b b.length by omega, ← List.drop_drop]
  have e : ((a ++ [10]) ++ (b ++ 10 :: c)).drop (a.length + 1) = b ++ 10 :: c := by rw [← ha, List.drop_left]
  rw [e, List.drop_append_of_le_length hle]
  exact colF_feed hc _ _ _ _ (U.isBytes_drop hb _) (by rw [List.length_drop]; omega)
theorem ahead_line (a b c : List Int) : lineN ((a ++ [10]) ++ (b ++ 10 :: c)) (a.length + 1 + b.length) = lineN a a.length + 1 + lineN b b.length := by
  have ha : (a ++ [10]).length = a.length + 1 := by simp
  have e1 := line_append (a ++ [10]) (b ++ 10 :: c) b.length
  rw [ha] at e1
  have e2 := line_append a [10] 1
  have e3 : lineN (b ++ 10 :: c) b.length = lineN b b.length := by
    have := line_append b (10 :: c) 0
    rw [Nat.add_zero, line_zero, Nat.add_zero] at this
    exact this
  have e4 : lineN [10] 1 = 1 := by simp [lineN]
  rw [e1, e2, e3, e4]

/-! ### Ends of lines -/
def endsF (i : Nat) : List Int → List Nat
  | [] => []
  | z :: t => if z = 10 ∨ t = [] then (i + 1) :: endsF (i + 1) t else endsF (i + 1) t
def endsL (l : List Int) : List Nat := if l = [] then [0] else endsF 0 l
/-- ends of lines from a place on, one behind the other, the last one the end of all -/
def EOk (l : List Int) : Nat → List Nat → Prop
  | i, [] => i = l.length
  | i, e :: t => i < e ∧ e ≤ l.length ∧ (∀ k, i ≤ k → k < e → l.getD k 0 = 10 → k = e - 1) ∧ (t ≠ [] → l.getD (e - 1) 0 = 10) ∧ EOk l e t
theorem endsF_ne {i : Nat} : ∀ {t : List Int}, t ≠ [] → endsF i t ≠ [] := by
  intro t
  induction t generalizing i with
  | nil => intro h; exact absurd rfl h
  | cons z t ih =>
    intro _
    unfold endsF
    split
    · simp
    · next c =>
      refine ih ?_
      intro e
      exact c (.inr e)
theorem endsF_ok (l : List Int) : ∀ (t pre : List Int) (i : Nat), l = pre ++ t → i ≤ pre.length → (∀ k, i ≤ k → k < pre.length → l.getD k 0 ≠ 10) → (t = [] → i = l.length) → EOk l i (endsF pre.length t) := by
  intro t
  induction t with
  | nil => intro pre i _ _ _ h; exact h rfl
  | cons z t ih =>
    intro pre i hl hi hn _
    have hlen : l.length = pre.length + (t.length + 1) := by rw [hl]; simp
    have hz : l.getD pre.length 0 = z := by
      have := getD_right (a := pre) (b := z :: t) (k := 0)
      rw [Nat.add_zero, ← hl] at this
      simpa using this
    have hl' : l = (pre ++ [z]) ++ t := by rw [hl]; simp
    have hpl : (pre ++ [z]).length = pre.length + 1 := by simp
    unfold endsF
    split
    · next c =>
      refine ⟨by omega, by omega, fun k h1 h2 h3 => ?_, fun ht => ?_, ?_⟩
      · by_cases e : k < pre.length
        · exact absurd h3 (hn k h1 e)
        · omega
      · rw [show pre.length + 1 - 1 = pre.length by omega, hz]
        rcases c with c | c
        · exact c
        · subst c; simp [endsF] at ht
      · have := ih (pre ++ [z]) (pre.length + 1) hl' (by omega) (fun k h1 h2 => by omega) (fun e => by subst e; simp at hlen; omega)
        rw [hpl] at this
        exact this
    · next c =>
      have := ih (pre ++ [z]) i hl' (by omega) (fun k h1 h2 => by
        by_cases e : k < pre.length
        · exact hn k h1 e
        · have : k = pre.length := by omega
          subst this
          rw [hz]
          intro e; exact c (.inl e)) (fun e => by exact absurd (.inr e) c)
      rw [hpl] at this
      exact this
theorem ends_ok {l : List Int} (h : l ≠ []) : EOk l 0 (endsL l) := by
  unfold endsL
  rw [if_neg h]
  exact endsF_ok l l [] 0 rfl (Nat.le_refl _) (fun k h1 h2 => by simp at h2) (fun e => absurd e h)
theorem ends_ne (l : List Int) : endsL l ≠ [] := by
  unfold endsL
  split
  · simp
  · next c => exact endsF_ne c

end Go.Proofs.Ytjjfeeclpidblaa.Ln
