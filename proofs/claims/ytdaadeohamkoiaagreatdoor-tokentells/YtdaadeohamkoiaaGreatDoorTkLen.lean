/- Plain mathematics of layer 5: how long the text of a token is that is read of few bytes. No program is named here. -/
import Derived.Test.YtdaadeohamkoiaaGreatDoorTkAll
namespace Go.Proofs.YtdaadeohamkoiaaGreatDoor.T
set_option linter.unusedSimpArgs false
set_option linter.unusedVariables false

/-! ### Sums -/
def sumW (f : Int → Nat) (l : List Int) : Nat := (l.map f).sum
theorem sumW_nil (f : Int → Nat) : sumW f [] = 0 := rfl
theorem sumW_cons (f : Int → Nat) (x : Int) (l : List Int) : sumW f (x :: l) = f x + sumW f l := by simp [sumW]
theorem sumW_append (f : Int → Nat) (a b : List Int) : sumW f (a ++ b) = sumW f a + sumW f b := by simp [sumW]
theorem sumW_erase (f : Int → Nat) {x : Int} {l : List Int} (h : x ∈ l) : sumW f l = f x + sumW f (l.erase x) := by
  induction l with
  | nil => cases h
  | cons y t ih =>
    by_cases e : y = x
    · subst e; rw [List.erase_cons_head, sumW_cons]
    · rw [List.erase_cons_tail (by simpa using e), sumW_cons, sumW_cons, ih (by
        rcases List.mem_cons.1 h with h | h
        · exact absurd h.symm e
        · exact h)]
      omega
theorem sumW_sub (f : Int → Nat) : ∀ (a b : List Int), a.Nodup → (∀ x ∈ a, x ∈ b) → sumW f a ≤ sumW f b := by
  intro a
  induction a with
  | nil => intro b _ _; rw [sumW_nil]; omega
  | cons x t ih =>
    intro b hn hs
    rw [List.nodup_cons] at hn
    rw [sumW_cons, sumW_erase f (hs x List.mem_cons_self)]
    have := ih (b.erase x) hn.2 fun y hy => by
      refine (List.mem_erase_of_ne ?_).2 (hs y (List.mem_cons_of_mem _ hy))
      intro e
      subst e
      exact hn.1 hy
    omega

/-! ### Where a set turns -/
theorem bs_turn : ∀ (r : List (Int × Int)) (least : Int), G.mayFrom least r = true → ∀ x ∈ G.bs r, G.hasB r (x - 1) ≠ G.hasB r x := by
  intro r
  induction r with
  | nil => intro least _ x hx; cases hx
  | cons p t ih =>
    intro least h x hx
    obtain ⟨h1, h2, h3, h4⟩ := G.mayFrom_cons.1 h
    have hx' : x = p.1 ∨ x = p.2 + 1 ∨ x ∈ G.bs t := by simpa [G.bs] using hx
    rw [G.hasB_cons, G.hasB_cons]
    rcases hx' with rfl | rfl | hx'
    · have f1 : (decide (p.1 ≤ p.1 - 1) && decide (p.1 - 1 ≤ p.2)) = false := by rw [decide_eq_false (by omega)]; rfl
      have f2 : (decide (p.1 ≤ p.1) && decide (p.1 ≤ p.2)) = true := by rw [decide_eq_true (by omega), decide_eq_true (by omega)]; rfl
      rw [G.has_low h4 (show p.1 - 1 < p.2 + 2 by omega), G.has_low h4 (show p.1 < p.2 + 2 by omega), f1, f2]
      decide
    · have f1 : (decide (p.1 ≤ p.2 + 1 - 1) && decide (p.2 + 1 - 1 ≤ p.2)) = true := by rw [decide_eq_true (by omega), decide_eq_true (by omega)]; rfl
      have f2 : (decide (p.1 ≤ p.2 + 1) && decide (p.2 + 1 ≤ p.2)) = false := by rw [decide_eq_false (show ¬ p.2 + 1 ≤ p.2 by omega)]; simp
      rw [G.has_low h4 (show p.2 + 1 - 1 < p.2 + 2 by omega), G.has_low h4 (show p.2 + 1 < p.2 + 2 by omega), f1, f2]
      decide
    · have hu := G.up_mem (G.bs_up h4) hx'
      have hi := ih (p.2 + 2) h4 x hx'
      have f1 : (decide (p.1 ≤ x) && decide (x ≤ p.2)) = false := by simp; omega
      have f2 : (decide (p.1 ≤ x - 1) && decide (x - 1 ≤ p.2)) = false := by simp; omega
      rw [f1, f2]
      simpa using hi
theorem up_nodup : ∀ (l : List Int) (c : Int), G.up c l → l.Nodup := by
  intro l
  induction l with
  | nil => intro c _; exact List.nodup_nil
  | cons x t ih =>
    intro c h
    have h' : c < x ∧ x ≤ 1114112 ∧ G.up x t := h
    rw [List.nodup_cons]
    refine ⟨fun hx => ?_, ih x h'.2.2⟩
    have := G.up_mem h'.2.2 hx
    omega
theorem has_turn {l : List (Int × Int)} {x : Int} (h : G.hasB l (x - 1) ≠ G.hasB l x) : ∃ p ∈ l, x = p.1 ∨ x = p.2 + 1 := by
  induction l with
  | nil => exact absurd rfl h
  | cons p t ih =>
    rw [G.hasB_cons, G.hasB_cons] at h
    by_cases c : x = p.1 ∨ x = p.2 + 1
    · exact ⟨p, List.mem_cons_self, c⟩
    · have e : (decide (p.1 ≤ x - 1) && decide (x - 1 ≤ p.2)) = (decide (p.1 ≤ x) && decide (x ≤ p.2)) := by
        rw [Bool.eq_iff_iff]
        simp only [Bool.and_eq_true, decide_eq_true_eq]
        omega
      rw [e] at h
      obtain ⟨q, hq, hx⟩ := ih (fun e2 => h (by rw [e2]))
      exact ⟨q, List.mem_cons_of_mem _ hq, hx⟩
theorem may_turn {x : Int} (h : U.mayB (x - 1) ≠ U.mayB x) : x = 0 ∨ x = 55296 ∨ x = 57344 ∨ x = 1114112 := by
  apply Classical.byContradiction
  intro c
  apply h
  rw [Bool.eq_iff_iff, U.may_iff, U.may_iff]
  omega
/-- where items begin, and behind where they end -/
def bords : List (Int × Int) → List Int
  | [] => []
  | p :: t => p.1 :: (p.2 + 1) :: bords t
theorem bords_mem {l : List (Int × Int)} {p : Int × Int} (h : p ∈ l) : p.1 ∈ bords l ∧ p.2 + 1 ∈ bords l := by
  induction l with
  | nil => cases h
  | cons q t ih =>
    rcases List.mem_cons.1 h with rfl | h
    · simp [bords]
    · have := ih h
      simp [bords, this]
theorem class_bords (no : Bool) (l : List (Int × Int)) : ∀ x ∈ G.bs (classL no l), x ∈ bords l ++ [0, 55296, 57344, 1114112] := by
  intro x hx
  have h := bs_turn _ 0 (class_is no l).1 x hx
  rw [(class_is no l).2, (class_is no l).2] at h
  simp only at h
  by_cases c : U.mayB (x - 1) = U.mayB x
  · have : G.hasB l (x - 1) ≠ G.hasB l x := by
      intro e
      apply h
      rw [c, e]
    obtain ⟨p, hp, hx⟩ := has_turn this
    have hbm := bords_mem hp
    rcases hx with hx | hx
    · rw [hx]; exact List.mem_append_left _ hbm.1
    · rw [hx]; exact List.mem_append_left _ hbm.2
  · have := may_turn c
    apply List.mem_append_right
    simp
    omega

/-! ### How long numbers are told -/
def lenO (n : Int) : Nat := (showO false n).length
/-- what a border costs, twice -/
def costW (x : Int) : Nat := 2 * max (lenO x) (lenO (x - 1)) + 1
theorem six_len : ∀ (f k : Nat) (n : Int), n < 16 ^ (k + 1) → (sixF f n).length ≤ k + 1 := by
  intro f
  induction f with
  | zero => intro k n _; simp [sixF]
  | succ f ih =>
    intro k n h
    by_cases c : n < 16
    · simp only [sixF]; rw [if_pos c]; simp
    · cases k with
      | zero => simp at h; omega
      | succ k =>
        simp only [sixF]
        rw [if_neg c, List.length_append]
        have h2 : n / 16 < 16 ^ (k + 1) := by
          have : (16 : Int) ^ (k + 1 + 1) = 16 ^ (k + 1) * 16 := Int.pow_succ _ _
          rw [this] at h
          generalize (16 : Int) ^ (k + 1) = P at *
          omega
        have := ih k (n / 16) h2
        simp
        omega
theorem six_six (n : Int) : ∀ f, (sixF f n).length ≤ f + 1 := by
  intro f
  induction f generalizing n with
  | zero => simp [sixF]
  | succ f ih =>
    simp only [sixF]
    split
    · simp
    · rw [List.length_append]
      have := ih (n / 16)
      simp
      omega
theorem lenO_le {n : Int} {k : Nat} (h : n < 16 ^ (k + 1)) : lenO n ≤ k + 4 := by
  unfold lenO showO
  simp only [Bool.false_eq_true, if_false]
  split
  · simp
  · have := six_len 5 k n h
    unfold sixL
    simp
    omega
theorem lenO_nine (n : Int) : lenO n ≤ 9 := by
  unfold lenO showO
  simp only [Bool.false_eq_true, if_false]
  split
  · simp
  · have := six_six n 5
    unfold sixL
    simp
    omega
theorem cost_13 {x : Int} (h : x ≤ 2048) : costW x ≤ 13 := by
  have e : (16 : Int) ^ (2 + 1) = 4096 := by decide
  have h1 := lenO_le (n := x) (k := 2) (by omega)
  have h2 := lenO_le (n := x - 1) (k := 2) (by omega)
  unfold costW
  omega
theorem cost_17 {x : Int} (h : x ≤ 65536) : costW x ≤ 17 := by
  have e : (16 : Int) ^ (4 + 1) = 1048576 := by decide
  have h1 := lenO_le (n := x) (k := 4) (by omega)
  have h2 := lenO_le (n := x - 1) (k := 4) (by omega)
  unfold costW
  omega
theorem cost_19 (x : Int) : costW x ≤ 19 := by
  have h1 := lenO_nine x
  have h2 := lenO_nine (x - 1)
  unfold costW
  omega
/-- what is above the signs of one byte -/
def costH (x : Int) : Nat := if x ≤ 128 then 0 else costW x
def lows : List Int := (List.range 129).map fun (n : Nat) => (n : Int)
theorem lows_sum : sumW costW lows ≤ 700 := by decide +kernel
theorem lows_mem {x : Int} (h0 : 0 ≤ x) (h1 : x ≤ 128) : x ∈ lows := by
  unfold lows
  rw [List.mem_map]
  exact ⟨x.toNat, by rw [List.mem_range]; omega, by omega⟩

/-- a SIGN of few bytes is a small scalar -/
theorem sign_small {r : List Int} (hb : U.isBytes r) {x : Int} {k : Nat} (h : signL r = some (x, k)) : 1 ≤ k ∧ (k = 1 → x ≤ 127) ∧ (k = 2 → x ≤ 2047) ∧ (k = 3 → x ≤ 65535) := by
  unfold signL at h
  split at h
  · cases h
  · split at h
    · split at h
      · cases h
      · next c =>
        simp only [Option.some.injEq] at h
        rw [h] at c
        simp only at c
        rcases U.next_cases hb with ⟨_, e⟩ | ⟨_, e⟩ | ⟨q, hm, e, t, d⟩
        · rw [e] at h; cases h; omega
        · rw [e] at h; cases h; omega
        · rw [e] at h
          simp only [Prod.mk.injEq] at h
          obtain ⟨rfl, rfl⟩ := h
          unfold U.putL
          split
          · simp; omega
          · split
            · simp; omega
            · split
              · simp; omega
              · simp
    · split at h
      · cases h
      · split at h
        · cases h
        · next c =>
          simp only [Option.some.injEq, Prod.mk.injEq] at h
          omega
theorem costH_sign {k : Nat} {x y : Int} (hy : y = x ∨ y = x + 1) (h1 : 1 ≤ k) (h2 : k = 1 → x ≤ 127) (h3 : k = 2 → x ≤ 2047) (h4 : k = 3 → x ≤ 65535) : 2 * costH y ≤ 13 * k := by
  unfold costH
  split
  · omega
  · next c =>
    by_cases e1 : k = 1
    · have := h2 e1; omega
    · by_cases e2 : k = 2
      · have := cost_13 (x := y) (by have := h3 e2; omega)
        omega
      · by_cases e3 : k = 3
        · have := cost_17 (x := y) (by have := h4 e3; omega)
          omega
        · have := cost_19 y
          omega
theorem item_cost {r : List Int} (hb : U.isBytes r) {p : Int × Int} {n : Nat} (h : itemL false r = some (p, n)) : costH p.1 + costH (p.2 + 1) ≤ 13 * n := by
  unfold itemL at h
  cases e : oneL false r with
  | none => rw [e] at h; cases h
  | some q =>
    obtain ⟨lo, k⟩ := q
    have s1 := sign_small hb (show signL r = some (lo, k) from e)
    rw [e] at h
    simp only at h
    split at h
    · cases e2 : oneL false (r.drop (k + 1)) with
      | none => rw [e2] at h; cases h
      | some q =>
        obtain ⟨to, m⟩ := q
        have s2 := sign_small (U.isBytes_drop hb _) (show signL (r.drop (k + 1)) = some (to, m) from e2)
        rw [e2] at h
        simp only at h
        split at h
        · cases h
        · simp only [Option.some.injEq, Prod.mk.injEq] at h
          obtain ⟨rfl, rfl⟩ := h
          have c1 := costH_sign (y := lo) (.inl rfl) s1.1 s1.2.1 s1.2.2.1 s1.2.2.2
          have c2 := costH_sign (y := to + 1) (.inr rfl) s2.1 s2.2.1 s2.2.2.1 s2.2.2.2
          simp only
          omega
    · simp only [Option.some.injEq, Prod.mk.injEq] at h
      obtain ⟨rfl, rfl⟩ := h
      have c1 := costH_sign (y := lo) (.inl rfl) s1.1 s1.2.1 s1.2.2.1 s1.2.2.2
      have c2 := costH_sign (y := lo + 1) (.inr rfl) s1.1 s1.2.1 s1.2.2.1 s1.2.2.2
      simp only
      omega
theorem items_cost : ∀ (f : Nat) (r : List Int) (l : List (Int × Int)) (m : Nat), U.isBytes r → r.length ≤ f → gatherL (itemL false) 93 r = some (l, m) → sumW costH (bords l) ≤ 13 * m := by
  intro f
  induction f with
  | zero =>
    intro r xs m _ h e
    have : r = [] := List.eq_nil_of_length_eq_zero (by omega)
    subst this
    rw [gather_nil] at e; cases e
  | succ f ih =>
    intro r xs m hb h e
    by_cases h0 : r = []
    · subst h0; rw [gather_nil] at e; cases e
    · by_cases hs : r.getD 0 0 = 93
      · rw [gather_stop h0 hs] at e
        cases e
        simp [bords, sumW]
      · cases ho : itemL false r with
        | none => rw [gather_bad h0 hs ho] at e; cases e
        | some p =>
          obtain ⟨x, n⟩ := p
          have hn := item_good false r x n hb ho
          rw [gather_step (item_good false) hb h0 hs ho] at e
          cases e2 : gatherL (itemL false) 93 (r.drop n) with
          | none => rw [e2] at e; cases e
          | some q =>
            obtain ⟨ys, k⟩ := q
            rw [e2] at e
            simp only [Option.some.injEq, Prod.mk.injEq] at e
            obtain ⟨rfl, rfl⟩ := e
            have i := ih (r.drop n) ys k (U.isBytes_drop hb n) (by rw [List.length_drop]; omega) e2
            have c := item_cost hb ho
            simp only [bords]
            rw [sumW_cons, sumW_cons]
            omega
theorem show_cost : ∀ (r : List (Int × Int)), 2 * (r.flatMap (showI false)).length ≤ sumW costW (G.bs r) := by
  intro r
  induction r with
  | nil => simp [sumW, G.bs]
  | cons p t ih =>
    have e : G.bs (p :: t) = p.1 :: (p.2 + 1) :: G.bs t := rfl
    rw [List.flatMap_cons, List.length_append, e, sumW_cons, sumW_cons]
    have c1 : 2 * lenO p.1 + 1 ≤ costW p.1 := by unfold costW; omega
    have c2 : 2 * lenO p.2 + 1 ≤ costW (p.2 + 1) := by
      unfold costW
      rw [show p.2 + 1 - 1 = p.2 by omega]
      omega
    have c3 : (showI false p).length ≤ lenO p.1 + 1 + lenO p.2 := by
      unfold showI lenO
      split
      · rw [List.length_append]; simp; omega
      · omega
    omega
theorem cost_split : ∀ (a : List Int), (∀ x ∈ a, 0 ≤ x) → a.Nodup → sumW costW a ≤ sumW costW lows + sumW costH a := by
  intro a h0 hn
  have h1 : sumW costW a = sumW costW (a.filter fun x => decide (x ≤ 128)) + sumW costH a := by
    clear h0 hn
    induction a with
    | nil => rfl
    | cons x t ih =>
      rw [sumW_cons, sumW_cons, List.filter_cons]
      unfold costH at ih ⊢
      by_cases c : x ≤ 128
      · rw [if_pos (by simpa using c), sumW_cons, if_pos c]; omega
      · rw [if_neg (by simpa using c), if_neg c]; omega
  have h2 : sumW costW (a.filter fun x => decide (x ≤ 128)) ≤ sumW costW lows := by
    refine sumW_sub costW _ _ (hn.filter _) fun x hx => ?_
    rw [List.mem_filter, decide_eq_true_eq] at hx
    exact lows_mem (h0 x hx.1) hx.2
  omega
theorem class_len {r : List Int} (hb : U.isBytes r) {l : List (Int × Int)} {m : Nat} (no : Bool) (h : gatherL (itemL false) 93 r = some (l, m)) (hm : m ≤ 399) : ((classL no l).flatMap (showI false)).length ≤ 2990 := by
  have h1 := show_cost (classL no l)
  have hm0 := (class_is no l).1
  have h2 := cost_split (G.bs (classL no l)) (fun x hx => by have := G.up_mem (G.bs_up hm0) hx; omega) (up_nodup _ _ (G.bs_up hm0))
  have h3 := sumW_sub costH _ _ (up_nodup _ _ (G.bs_up hm0)) (class_bords no l)
  rw [sumW_append] at h3
  have h4 := items_cost _ _ _ _ hb (Nat.le_refl _) h
  have h5 : sumW costH [0, 55296, 57344, 1114112] ≤ 57 := by
    rw [sumW_cons, sumW_cons, sumW_cons, sumW_cons, sumW_nil]
    have := cost_19 55296
    have := cost_19 57344
    have := cost_19 1114112
    unfold costH
    simp
    omega
  have h6 := lows_sum
  omega

theorem pieces_len : ∀ x : List Int, (x.flatMap showP).length ≤ 4 * x.length := by
  intro x
  induction x with
  | nil => simp
  | cons c t ih =>
    rw [List.flatMap_cons, List.length_append, List.length_cons]
    have : (showP c).length ≤ 4 := by unfold showP hex2; split <;> simp
    omega
/-- a token that is read of at most 400 bytes has a text of at most 3000 -/
theorem tok_len {r : List Int} (hb : U.isBytes r) {t : Tk} {n : Nat} (h : tokL r = some (t, n)) (hn : n ≤ 400) : (textL t).length ≤ 3000 := by
  have hk := tok_ok hb h
  unfold tokL at h
  split at h
  · split at h
    · cases h
    · simp only [Option.some.injEq, Prod.mk.injEq] at h
      obtain ⟨rfl, rfl⟩ := h
      have e : textL (0, r.take (wordN r), []) = r.take (wordN r) := rfl
      rw [e, List.length_take]; omega
  · split at h
    · split at h
      · simp only [Option.some.injEq, Prod.mk.injEq] at h
        obtain ⟨rfl, rfl⟩ := h
        have e : textL (5, (r.drop 1).take (wordN (r.drop 1)), []) = 64 :: (r.drop 1).take (wordN (r.drop 1)) := rfl
        rw [e, List.length_cons, List.length_take]; omega
      · cases h
    · split at h
      · simp only [Option.some.injEq, Prod.mk.injEq] at h
        obtain ⟨rfl, rfl⟩ := h
        show 1 ≤ 3000
        omega
      · split at h
        · cases e : gatherL pieceL 34 (r.drop 1) with
          | none => rw [e] at h; cases h
          | some q =>
            obtain ⟨x, m⟩ := q
            rw [e] at h
            simp only at h
            split at h
            · cases h
            · simp only [Option.some.injEq, Prod.mk.injEq] at h
              obtain ⟨rfl, rfl⟩ := h
              have gl := gather_len piece_good _ _ _ _ (U.isBytes_drop hb 1) (Nat.le_refl _) e
              have e2 : textL (1, x, []) = 34 :: (x.flatMap showP ++ [34]) := rfl
              have e3 := pieces_len x
              rw [e2, List.length_cons, List.length_append, List.length_cons, List.length_nil]
              omega
        · split at h
          · cases e : gatherL (itemL true) 62 (r.drop 1) with
            | none => rw [e] at h; cases h
            | some q =>
              obtain ⟨l, m⟩ := q
              rw [e] at h
              simp only [Option.some.injEq, Prod.mk.injEq] at h
              obtain ⟨rfl, rfl⟩ := h
              have e2 : textL (3, [], normL l) = 60 :: ((normL l).flatMap (showI true) ++ [62]) := rfl
              have ok : G.mayB (normL l) = true ∧ ∀ p ∈ normL l, p.2 ≤ 255 := by
                rcases hk.1 with h | h | h | h | h | h
                · exact absurd h.1 (by simp)
                · exact absurd h.1 (by simp)
                · exact absurd h.1 (by simp)
                · exact absurd h.1 (by simp)
                · exact ⟨h.2.2.1, h.2.2.2⟩
                · exact absurd h.1 (by simp)
              have e3 : ∀ (k : List (Int × Int)) (least : Int), G.mayFrom least k = true → (∀ p ∈ k, p.2 ≤ 255) → 2 * (k.length : Int) ≤ 258 - least ∨ k = [] := by
                intro k
                induction k with
                | nil => intro _ _ _; exact .inr rfl
                | cons p t ih =>
                  intro least h1 h2
                  obtain ⟨a1, a2, a3, a4⟩ := G.mayFrom_cons.1 h1
                  have := h2 p List.mem_cons_self
                  left
                  rcases ih (p.2 + 2) a4 (fun q hq => h2 q (List.mem_cons_of_mem _ hq)) with i | i
                  · rw [List.length_cons]; omega
                  · subst i; simp; omega
              have e4 : ∀ k : List (Int × Int), (k.flatMap (showI true)).length ≤ 5 * k.length := by
                intro k
                induction k with
                | nil => simp
                | cons c t ih =>
                  rw [List.flatMap_cons, List.length_append, List.length_cons]
                  have : (showI true c).length ≤ 5 := by unfold showI showO hex2; split <;> simp
                  omega
              have e5 := e4 (normL l)
              have e6 := e3 (normL l) 0 ok.1 ok.2
              rw [e2, List.length_cons, List.length_append, List.length_cons, List.length_nil]
              rcases e6 with e6 | e6
              · omega
              · rw [e6]; simp
          · split at h
            · cases e : gatherL (itemL false) 93 (r.drop (1 + hatN r)) with
              | none => rw [e] at h; cases h
              | some q =>
                obtain ⟨l, m⟩ := q
                rw [e] at h
                simp only [Option.some.injEq, Prod.mk.injEq] at h
                obtain ⟨rfl, rfl⟩ := h
                have := class_len (U.isBytes_drop hb (1 + hatN r)) (decide (hatN r = 1)) e (by omega)
                have e2 : textL (2, [], classL (decide (hatN r = 1)) l) = 91 :: ((classL (decide (hatN r = 1)) l).flatMap (showI false) ++ [93]) := rfl
                rw [e2, List.length_cons, List.length_append, List.length_cons, List.length_nil]
                omega
            · cases h

end Go.Proofs.YtdaadeohamkoiaaGreatDoor.T
