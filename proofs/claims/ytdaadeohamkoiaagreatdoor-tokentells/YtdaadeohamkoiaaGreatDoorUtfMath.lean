/- Plain mathematics of layer 1 (utf): scalars, their bytes, how bytes go on, units. No program is named here. -/
namespace Go.Proofs.YtdaadeohamkoiaaGreatDoor.U
set_option linter.unusedSimpArgs false
set_option linter.unusedVariables false

def mayB (r : Int) : Bool := decide (0 ≤ r ∧ r ≤ 1114111 ∧ (r < 55296 ∨ 57343 < r))
theorem may_iff (r : Int) : mayB r = true ↔ (0 ≤ r ∧ r ≤ 1114111 ∧ (r < 55296 ∨ 57343 < r)) := by simp [mayB]

def putL (r : Int) : List Int :=
  if r < 128 then [r] else if r < 2048 then [192 + r / 64, 128 + r % 64]
  else if r < 65536 then [224 + r / 4096, 128 + r / 64 % 64, 128 + r % 64]
  else [240 + r / 262144, 128 + r / 4096 % 64, 128 + r / 64 % 64, 128 + r % 64]

/-- how many bytes a first byte promises -/
def manyN (c : Int) : Nat := if c < 128 then 1 else if c < 192 then 0 else if c < 224 then 2 else if c < 240 then 3 else if c < 248 then 4 else 0
def addN (h z : Int) : Int := if h < 0 ∨ ¬ z / 64 = 2 then -1 else h * 64 + z % 64
def fromN (least r : Int) : Int := if r < least ∨ mayB r = false then -1 else r
/-- what the first bytes of l would be, read as so many -/
def readN (n : Nat) (l : List Int) : Int :=
  if n = 1 then l.getD 0 0
  else if n = 2 then fromN 128 (addN (l.getD 0 0 - 192) (l.getD 1 0))
  else if n = 3 then fromN 2048 (addN (addN (l.getD 0 0 - 224) (l.getD 1 0)) (l.getD 2 0))
  else if n = 4 then fromN 65536 (addN (addN (addN (l.getD 0 0 - 240) (l.getD 1 0)) (l.getD 2 0)) (l.getD 3 0))
  else -1
/-- what is next in l: the scalar or -1, and how many bytes -/
def nextL (l : List Int) : Int × Nat :=
  if l = [] then (-1, 0)
  else if l.length < manyN (l.getD 0 0) then (-1, 1)
  else if readN (manyN (l.getD 0 0)) l < 0 then (-1, 1)
  else (readN (manyN (l.getD 0 0)) l, manyN (l.getD 0 0))

def isBytes (l : List Int) : Prop := ∀ z ∈ l, 0 ≤ z ∧ z ≤ 255

def unitsF : Nat → List Int → Nat
  | 0, _ => 0
  | f + 1, l => if l = [] then 0 else 1 + unitsF f (l.drop (nextL l).2)
def units (l : List Int) : Nat := unitsF l.length l

theorem isBytes_tail {a : Int} {l : List Int} (h : isBytes (a :: l)) : isBytes l := fun z hz => h z (List.mem_cons_of_mem _ hz)
theorem isBytes_head {a : Int} {l : List Int} (h : isBytes (a :: l)) : 0 ≤ a ∧ a ≤ 255 := h a List.mem_cons_self
theorem isBytes_drop {l : List Int} (h : isBytes l) (n : Nat) : isBytes (l.drop n) := fun z hz => h z (List.mem_of_mem_drop hz)
theorem isBytes_take {l : List Int} (h : isBytes l) (n : Nat) : isBytes (l.take n) := fun z hz => h z (List.mem_of_mem_take hz)
theorem isBytes_getD {l : List Int} (h : isBytes l) (n : Nat) : 0 ≤ l.getD n 0 ∧ l.getD n 0 ≤ 255 := by
  by_cases hn : n < l.length
  · have := h l[n] (List.getElem_mem _); simpa [List.getD, hn] using this
  · simp [List.getD, List.getElem?_eq_none (Nat.le_of_not_lt hn)]

theorem putL_bytes {r : Int} (h : mayB r = true) : isBytes (putL r) := by
  rw [may_iff] at h
  intro z hz
  unfold putL at hz
  split at hz
  · simp at hz; omega
  split at hz
  · simp at hz; omega
  split at hz
  · simp at hz; omega
  · simp at hz; omega
theorem putL_len (r : Int) : 1 ≤ (putL r).length ∧ (putL r).length ≤ 4 := by
  unfold putL; split; · simp
  split; · simp
  split <;> simp
theorem putL_ne (r : Int) : putL r ≠ [] := by intro h; have := (putL_len r).1; rw [h] at this; simp at this

/-- what is put is read, whatever stands behind -/
theorem next_put {r : Int} (h : mayB r = true) (s : List Int) : nextL (putL r ++ s) = (r, (putL r).length) := by
  have h' := (may_iff r).1 h
  by_cases h1 : r < 128
  · have e : putL r = [r] := by simp [putL, h1]
    rw [e]; unfold nextL
    have m : manyN r = 1 := by simp [manyN, h1]
    simp [m, readN]; omega
  by_cases h2 : r < 2048
  · have e : putL r = [192 + r / 64, 128 + r % 64] := by simp [putL, h1, h2]
    rw [e]; unfold nextL
    have m : manyN (192 + r / 64) = 2 := by unfold manyN; rw [if_neg (by omega), if_neg (by omega), if_pos (by omega)]
    have a : addN (192 + r / 64 - 192) (128 + r % 64) = r := by unfold addN; rw [if_neg (by omega)]; omega
    have f : fromN 128 r = r := by unfold fromN; rw [if_neg (by simp [h]; omega)]
    have rd : readN 2 ([192 + r / 64, 128 + r % 64] ++ s) = r := by
      show fromN 128 (addN (192 + r / 64 - 192) (128 + r % 64)) = r
      rw [a, f]
    simp only [List.cons_append, List.nil_append, List.getD_cons_zero, m] at rd ⊢
    rw [rd, if_neg (by simp), if_neg (by simp), if_neg (by omega)]; simp
  by_cases h3 : r < 65536
  · have e : putL r = [224 + r / 4096, 128 + r / 64 % 64, 128 + r % 64] := by simp [putL, h1, h2, h3]
    rw [e]; unfold nextL
    have m : manyN (224 + r / 4096) = 3 := by unfold manyN; rw [if_neg (by omega), if_neg (by omega), if_neg (by omega), if_pos (by omega)]
    have a1 : addN (224 + r / 4096 - 224) (128 + r / 64 % 64) = r / 64 := by unfold addN; rw [if_neg (by omega)]; omega
    have a2 : addN (r / 64) (128 + r % 64) = r := by unfold addN; rw [if_neg (by omega)]; omega
    have f : fromN 2048 r = r := by unfold fromN; rw [if_neg (by simp [h]; omega)]
    have rd : readN 3 ([224 + r / 4096, 128 + r / 64 % 64, 128 + r % 64] ++ s) = r := by
      show fromN 2048 (addN (addN (224 + r / 4096 - 224) (128 + r / 64 % 64)) (128 + r % 64)) = r
      rw [a1, a2, f]
    simp only [List.cons_append, List.nil_append, List.getD_cons_zero, m] at rd ⊢
    rw [rd, if_neg (by simp), if_neg (by simp), if_neg (by omega)]; simp
  · have e : putL r = [240 + r / 262144, 128 + r / 4096 % 64, 128 + r / 64 % 64, 128 + r % 64] := by simp [putL, h1, h2, h3]
    rw [e]; unfold nextL
    have m : manyN (240 + r / 262144) = 4 := by unfold manyN; rw [if_neg (by omega), if_neg (by omega), if_neg (by omega), if_neg (by omega), if_pos (by omega)]
    have a1 : addN (240 + r / 262144 - 240) (128 + r / 4096 % 64) = r / 4096 := by unfold addN; rw [if_neg (by omega)]; omega
    have a2 : addN (r / 4096) (128 + r / 64 % 64) = r / 64 := by unfold addN; rw [if_neg (by omega)]; omega
    have a3 : addN (r / 64) (128 + r % 64) = r := by unfold addN; rw [if_neg (by omega)]; omega
    have f : fromN 65536 r = r := by unfold fromN; rw [if_neg (by simp [h]; omega)]
    have rd : readN 4 ([240 + r / 262144, 128 + r / 4096 % 64, 128 + r / 64 % 64, 128 + r % 64] ++ s) = r := by
      show fromN 65536 (addN (addN (addN (240 + r / 262144 - 240) (128 + r / 4096 % 64)) (128 + r / 64 % 64)) (128 + r % 64)) = r
      rw [a1, a2, a3, f]
    simp only [List.cons_append, List.nil_append, List.getD_cons_zero, m] at rd ⊢
    rw [rd, if_neg (by simp), if_neg (by simp), if_neg (by omega)]; simp

theorem addN_nonneg {h z : Int} (a : 0 ≤ addN h z) : 0 ≤ h ∧ z / 64 = 2 ∧ addN h z = h * 64 + z % 64 := by
  unfold addN at a ⊢; split at a
  · omega
  · rename_i c; rw [if_neg c]; omega
theorem fromN_nonneg {l r : Int} (a : 0 ≤ fromN l r) : l ≤ r ∧ mayB r = true ∧ fromN l r = r := by
  unfold fromN at a ⊢; split at a
  · omega
  · rename_i c; rw [if_neg c]
    refine ⟨by omega, ?_, rfl⟩
    cases hm : mayB r
    · exact absurd (Or.inr hm) c
    · rfl

theorem take1 {l : List Int} (h : 1 ≤ l.length) : l.take 1 = [l.getD 0 0] := by
  match l, h with | _ :: _, _ => simp
theorem take2 {l : List Int} (h : 2 ≤ l.length) : l.take 2 = [l.getD 0 0, l.getD 1 0] := by
  match l, h with | _ :: _ :: _, _ => simp
theorem take3 {l : List Int} (h : 3 ≤ l.length) : l.take 3 = [l.getD 0 0, l.getD 1 0, l.getD 2 0] := by
  match l, h with | _ :: _ :: _ :: _, _ => simp
theorem take4 {l : List Int} (h : 4 ≤ l.length) : l.take 4 = [l.getD 0 0, l.getD 1 0, l.getD 2 0, l.getD 3 0] := by
  match l, h with | _ :: _ :: _ :: _ :: _, _ => simp

/-- what is read as so many bytes is put as them -/
theorem read_put {l : List Int} (hb : isBytes l) (hl : manyN (l.getD 0 0) ≤ l.length) (hr : 0 ≤ readN (manyN (l.getD 0 0)) l) :
    mayB (readN (manyN (l.getD 0 0)) l) = true ∧ putL (readN (manyN (l.getD 0 0)) l) = l.take (manyN (l.getD 0 0)) ∧ 1 ≤ manyN (l.getD 0 0) ∧ manyN (l.getD 0 0) ≤ 4 := by
  have b0 := isBytes_getD hb 0
  have b1 := isBytes_getD hb 1
  have b2 := isBytes_getD hb 2
  have b3 := isBytes_getD hb 3
  by_cases c1 : l.getD 0 0 < 128
  · have m : manyN (l.getD 0 0) = 1 := by simp only [manyN, if_pos c1]
    rw [m] at hl hr ⊢
    rw [take1 hl]
    simp only [readN, if_pos]
    exact ⟨by rw [may_iff]; omega, by simp only [putL, if_pos c1], by omega, by omega⟩
  by_cases c2 : l.getD 0 0 < 192
  · have m : manyN (l.getD 0 0) = 0 := by simp only [manyN, if_neg c1, if_pos c2]
    rw [m] at hr
    simp [readN] at hr
  by_cases c3 : l.getD 0 0 < 224
  · have m : manyN (l.getD 0 0) = 2 := by simp only [manyN, if_neg c1, if_neg c2, if_pos c3]
    rw [m] at hl hr ⊢
    rw [take2 hl]
    have e : readN 2 l = fromN 128 (addN (l.getD 0 0 - 192) (l.getD 1 0)) := by simp [readN]
    rw [e] at hr ⊢
    obtain ⟨f1, f2, f3⟩ := fromN_nonneg hr
    rw [f3]
    obtain ⟨a1, a2, a3⟩ := addN_nonneg (by omega : 0 ≤ addN (l.getD 0 0 - 192) (l.getD 1 0))
    refine ⟨f2, ?_, by omega, by omega⟩
    rw [a3] at f1 ⊢
    generalize l.getD 0 0 = x0 at *
    generalize l.getD 1 0 = x1 at *
    unfold putL
    rw [if_neg (by omega), if_pos (by omega)]
    congr 1
    · omega
    · congr 1; omega
  by_cases c4 : l.getD 0 0 < 240
  · have m : manyN (l.getD 0 0) = 3 := by simp only [manyN, if_neg c1, if_neg c2, if_neg c3, if_pos c4]
    rw [m] at hl hr ⊢
    rw [take3 hl]
    have e : readN 3 l = fromN 2048 (addN (addN (l.getD 0 0 - 224) (l.getD 1 0)) (l.getD 2 0)) := by simp [readN]
    rw [e] at hr ⊢
    obtain ⟨f1, f2, f3⟩ := fromN_nonneg hr
    rw [f3]
    obtain ⟨a1, a2, a3⟩ := addN_nonneg (by omega : 0 ≤ addN (addN (l.getD 0 0 - 224) (l.getD 1 0)) (l.getD 2 0))
    obtain ⟨a4, a5, a6⟩ := addN_nonneg a1
    refine ⟨f2, ?_, by omega, by omega⟩
    rw [a3, a6] at f1 ⊢
    generalize l.getD 0 0 = x0 at *
    generalize l.getD 1 0 = x1 at *
    generalize l.getD 2 0 = x2 at *
    unfold putL
    rw [if_neg (by omega), if_neg (by omega), if_pos (by omega)]
    congr 1
    · omega
    · congr 1
      · omega
      · congr 1; omega
  by_cases c5 : l.getD 0 0 < 248
  · have m : manyN (l.getD 0 0) = 4 := by simp only [manyN, if_neg c1, if_neg c2, if_neg c3, if_neg c4, if_pos c5]
    rw [m] at hl hr ⊢
    rw [take4 hl]
    have e : readN 4 l = fromN 65536 (addN (addN (addN (l.getD 0 0 - 240) (l.getD 1 0)) (l.getD 2 0)) (l.getD 3 0)) := by simp [readN]
    rw [e] at hr ⊢
    obtain ⟨f1, f2, f3⟩ := fromN_nonneg hr
    rw [f3]
    obtain ⟨a1, a2, a3⟩ := addN_nonneg (by omega : 0 ≤ addN (addN (addN (l.getD 0 0 - 240) (l.getD 1 0)) (l.getD 2 0)) (l.getD 3 0))
    obtain ⟨a4, a5, a6⟩ := addN_nonneg a1
    obtain ⟨a7, a8, a9⟩ := addN_nonneg a4
    refine ⟨f2, ?_, by omega, by omega⟩
    rw [a3, a6, a9] at f1 ⊢
    generalize l.getD 0 0 = x0 at *
    generalize l.getD 1 0 = x1 at *
    generalize l.getD 2 0 = x2 at *
    generalize l.getD 3 0 = x3 at *
    unfold putL
    rw [if_neg (by omega), if_neg (by omega), if_neg (by omega)]
    congr 1
    · omega
    · congr 1
      · omega
      · congr 1
        · omega
        · congr 1; omega
  · have m : manyN (l.getD 0 0) = 0 := by simp only [manyN, if_neg c1, if_neg c2, if_neg c3, if_neg c4, if_neg c5]
    rw [m] at hr
    simp [readN] at hr

/-- the three ways of 'next' -/
theorem next_cases {l : List Int} (hb : isBytes l) :
    (l = [] ∧ nextL l = (-1, 0)) ∨ (l ≠ [] ∧ nextL l = (-1, 1)) ∨
    ∃ r, mayB r = true ∧ nextL l = (r, (putL r).length) ∧ l.take (putL r).length = putL r ∧ (putL r).length ≤ l.length := by
  by_cases h0 : l = []
  · exact .inl ⟨h0, by simp [nextL, h0]⟩
  by_cases h1 : l.length < manyN (l.getD 0 0)
  · exact .inr (.inl ⟨h0, by rw [nextL, if_neg h0, if_pos h1]⟩)
  by_cases h2 : readN (manyN (l.getD 0 0)) l < 0
  · exact .inr (.inl ⟨h0, by rw [nextL, if_neg h0, if_neg h1, if_pos h2]⟩)
  · obtain ⟨a, b, c, d⟩ := read_put hb (by omega) (by omega)
    have hlen : (putL (readN (manyN (l.getD 0 0)) l)).length = manyN (l.getD 0 0) := by rw [b, List.length_take]; omega
    refine .inr (.inr ⟨_, a, by rw [nextL, if_neg h0, if_neg h1, if_neg h2, hlen], ?_, ?_⟩)
    · rw [hlen, b]
    · rw [hlen]; omega

theorem next_bound {l : List Int} (hb : isBytes l) (h : l ≠ []) : 1 ≤ (nextL l).2 ∧ (nextL l).2 ≤ 4 ∧ (nextL l).2 ≤ l.length ∧ -1 ≤ (nextL l).1 ∧ (nextL l).1 ≤ 1114111 := by
  have hl : 1 ≤ l.length := by cases l <;> simp_all
  rcases next_cases hb with ⟨e, _⟩ | ⟨_, e⟩ | ⟨r, a, e, _, d⟩
  · exact absurd e h
  · rw [e]; refine ⟨by simp, by simp, by simpa using hl, by simp, by simp⟩
  · rw [e]; have := putL_len r; rw [may_iff] at a; exact ⟨this.1, this.2, d, by simp; omega, by simp; omega⟩

theorem next_ascii {l : List Int} (hb : isBytes l) (h : l ≠ []) (hc : l.getD 0 0 < 128) : nextL l = (l.getD 0 0, 1) := by
  have b0 := isBytes_getD hb 0
  have hl : 1 ≤ l.length := by cases l <;> simp_all
  have m : manyN (l.getD 0 0) = 1 := by simp only [manyN, if_pos hc]
  have r : readN 1 l = l.getD 0 0 := by simp [readN]
  rw [nextL, if_neg h, m, if_neg (by omega), r, if_neg (by omega)]
theorem putL_head {r : Int} (h : mayB r = true) : (putL r).getD 0 0 < 128 ∨ (193 < (putL r).getD 0 0 ∧ (putL r).getD 0 0 < 245) := by
  rw [may_iff] at h
  unfold putL
  split
  · simp; omega
  split
  · simp; omega
  split
  · simp; omega
  · simp; omega
theorem next_high {l : List Int} (hb : isBytes l) (h : l ≠ []) (hc : 128 ≤ l.getD 0 0) : (193 < l.getD 0 0 ∧ l.getD 0 0 < 245) ∨ (nextL l).1 = -1 := by
  rcases next_cases hb with ⟨e, _⟩ | ⟨_, e⟩ | ⟨r, a, e, t, d⟩
  · exact absurd e h
  · rw [e]; exact .inr rfl
  · have hh := putL_head a
    have : (putL r).getD 0 0 = l.getD 0 0 := by
      rw [← t]
      have := (putL_len r).1
      generalize (putL r).length = k at *
      match l, k, d with
      | x :: l, k + 1, _ => simp
      | [], k + 1, d => simp at d
      | _, 0, _ => omega
    rw [this] at hh
    omega

theorem unitsF_eq {l : List Int} (hb : isBytes l) : ∀ f g, l.length ≤ f → l.length ≤ g → unitsF f l = unitsF g l := by
  intro f
  induction f generalizing l with
  | zero => intro g hf _; have : l = [] := List.eq_nil_of_length_eq_zero (by omega); subst this; cases g <;> simp [unitsF]
  | succ f ih =>
    intro g hf hg
    cases g with
    | zero => have : l = [] := List.eq_nil_of_length_eq_zero (by omega); subst this; simp [unitsF]
    | succ g =>
      by_cases h0 : l = []
      · simp [unitsF, h0]
      · have nb := next_bound hb h0
        simp only [unitsF, if_neg h0]
        rw [ih (isBytes_drop hb _) g (by rw [List.length_drop]; omega) (by rw [List.length_drop]; omega)]
theorem units_nil : units [] = 0 := rfl
theorem units_step {l : List Int} (hb : isBytes l) (h : l ≠ []) : units l = 1 + units (l.drop (nextL l).2) := by
  have nb := next_bound hb h
  have hl : l.length = (l.length - 1) + 1 := by cases l <;> simp_all
  unfold units
  rw [hl]
  simp only [unitsF, if_neg h]
  rw [unitsF_eq (isBytes_drop hb _) (l.length - 1) (l.drop (nextL l).2).length (by rw [List.length_drop]; omega) (Nat.le_refl _)]
theorem units_le {l : List Int} (hb : isBytes l) : units l ≤ l.length ∧ l.length ≤ 4 * units l := by
  generalize hn : l.length = n
  induction n using Nat.strongRecOn generalizing l with
  | _ n ih =>
    by_cases h0 : l = []
    · subst h0; simp [units_nil]; simp at hn; omega
    · have nb := next_bound hb h0
      rw [units_step hb h0]
      have := ih (l.drop (nextL l).2).length (by rw [List.length_drop]; omega) (isBytes_drop hb _) rfl
      rw [List.length_drop] at this
      omega

def lessP : List Int → List Int → Prop
  | _, [] => False
  | [], _ :: _ => True
  | a :: x, b :: y => a < b ∨ (a = b ∧ lessP x y)

theorem lessP_nil (l : List Int) : lessP l [] = False := by cases l <;> rfl
theorem put_less {a b : Int} (ha : mayB a = true) (hb : mayB b = true) : lessP (putL a) (putL b) ↔ a < b := by
  rw [may_iff] at ha hb
  obtain ⟨a0, a1, a2⟩ := ha
  obtain ⟨b0, b1, b2⟩ := hb
  unfold putL
  by_cases h1 : a < 128 <;> by_cases k1 : b < 128
  · simp only [if_pos h1, if_pos k1, lessP, lessP_nil, and_false, or_false]
  · simp only [if_pos h1, if_neg k1]
    by_cases k2 : b < 2048
    · simp only [if_pos k2, lessP, lessP_nil, and_false, or_false]; omega
    by_cases k3 : b < 65536
    · simp only [if_neg k2, if_pos k3, lessP, lessP_nil, and_false, or_false]; omega
    · simp only [if_neg k2, if_neg k3, lessP, lessP_nil, and_false, or_false]; omega
  · simp only [if_neg h1, if_pos k1]
    by_cases h2 : a < 2048
    · simp only [if_pos h2, lessP, lessP_nil, and_false, or_false]; omega
    by_cases h3 : a < 65536
    · simp only [if_neg h2, if_pos h3, lessP, lessP_nil, and_false, or_false]; omega
    · simp only [if_neg h2, if_neg h3, lessP, lessP_nil, and_false, or_false]; omega
  · simp only [if_neg h1, if_neg k1]
    by_cases h2 : a < 2048 <;> by_cases k2 : b < 2048
    · simp only [if_pos h2, if_pos k2, lessP, lessP_nil, and_false, or_false]; omega
    · simp only [if_pos h2, if_neg k2]
      by_cases k3 : b < 65536
      · simp only [if_pos k3, lessP, lessP_nil, and_false, or_false]; omega
      · simp only [if_neg k3, lessP, lessP_nil, and_false, or_false]; omega
    · simp only [if_neg h2, if_pos k2]
      by_cases h3 : a < 65536
      · simp only [if_pos h3, lessP, lessP_nil, and_false, or_false]; omega
      · simp only [if_neg h3, lessP, lessP_nil, and_false, or_false]; omega
    · simp only [if_neg h2, if_neg k2]
      by_cases h3 : a < 65536 <;> by_cases k3 : b < 65536
      · simp only [if_pos h3, if_pos k3, lessP, lessP_nil, and_false, or_false]; omega
      · simp only [if_pos h3, if_neg k3, lessP, lessP_nil, and_false, or_false]; omega
      · simp only [if_neg h3, if_pos k3, lessP, lessP_nil, and_false, or_false]; omega
      · simp only [if_neg h3, if_neg k3, lessP, lessP_nil, and_false, or_false]; omega
theorem put_len_le {a b : Int} (h : a ≤ b) : (putL a).length ≤ (putL b).length := by
  unfold putL
  split
  · split; · simp
    split; · simp
    split <;> simp
  · rw [if_neg (show ¬ b < 128 by omega)]
    split
    · split; · simp
      split <;> simp
    · rw [if_neg (show ¬ b < 2048 by omega)]
      split
      · split <;> simp
      · rw [if_neg (show ¬ b < 65536 by omega)]
        simp

/-- a scalar's bytes cut short are nobody's -/
theorem cut_next {r : Int} (h : mayB r = true) {k : Nat} (h1 : 1 ≤ k) (h2 : k < (putL r).length) : nextL ((putL r).take k) = (-1, 1) := by
  have hb : isBytes ((putL r).take k) := isBytes_take (putL_bytes h) k
  rcases next_cases hb with ⟨e, _⟩ | ⟨_, e⟩ | ⟨q, a, e, t, d⟩
  · have := congrArg List.length e
    rw [List.length_take, List.length_nil] at this
    omega
  · exact e
  · have t' : putL q = (putL r).take (putL q).length := by
      have d' := d
      rw [List.length_take] at d'
      rw [List.take_take, Nat.min_eq_left (by omega)] at t
      exact t.symm
    have n1 := next_put a ((putL r).drop (putL q).length)
    have n2 := next_put h []
    have e2 : putL q ++ (putL r).drop (putL q).length = putL r := by
      have := List.take_append_drop (putL q).length (putL r)
      rw [← t'] at this
      exact this
    rw [e2] at n1
    rw [List.append_nil] at n2
    rw [n2] at n1
    have := congrArg Prod.snd n1
    simp only at this
    rw [List.length_take] at d
    omega
/-- what follows a first byte begins nothing -/
theorem trail_next {c : Int} {l : List Int} (h1 : 128 ≤ c) (h2 : c < 192) : nextL (c :: l) = (-1, 1) := by
  have m : manyN c = 0 := by unfold manyN; rw [if_neg (by omega), if_pos h2]
  unfold nextL
  simp [m, readN]
theorem put_trail {r : Int} (h : mayB r = true) : ∀ z ∈ (putL r).tail, 128 ≤ z ∧ z < 192 := by
  rw [may_iff] at h
  intro z hz
  unfold putL at hz
  split at hz
  · simp at hz
  split at hz
  · simp at hz; omega
  split at hz
  · simp at hz; omega
  · simp at hz; omega
theorem trail_units : ∀ (l : List Int), (∀ z ∈ l, 128 ≤ z ∧ z < 192) → units l = l.length := by
  intro l
  induction l with
  | nil => intro _; rfl
  | cons c l ih =>
    intro h
    have hb : isBytes (c :: l) := fun z hz => by have := h z hz; omega
    have hc := h c List.mem_cons_self
    rw [units_step hb (by simp), trail_next hc.1 hc.2]
    simp only [List.drop_succ_cons, List.drop_zero]
    rw [ih (fun z hz => h z (List.mem_cons_of_mem _ hz)), List.length_cons]; omega
theorem cut_units {r : Int} (h : mayB r = true) {k : Nat} (h1 : 1 ≤ k) (h2 : k < (putL r).length) : units ((putL r).take k) = k := by
  have hb : isBytes ((putL r).take k) := isBytes_take (putL_bytes h) k
  have hne : (putL r).take k ≠ [] := by intro e; have := congrArg List.length e; rw [List.length_take, List.length_nil] at this; omega
  rw [units_step hb hne, cut_next h h1 h2]
  have ht := put_trail h
  have : ((putL r).take k).drop 1 = (putL r).tail.take (k - 1) := by
    rw [List.drop_take, List.drop_one]
  simp only
  rw [this, trail_units _ (fun z hz => ht z (List.mem_of_mem_take hz)), List.length_take, List.length_tail]
  omega
theorem units_put {r : Int} (h : mayB r = true) {s : List Int} (hs : isBytes s) : units (putL r ++ s) = 1 + units s := by
  have hb : isBytes (putL r ++ s) := fun z hz => by rcases List.mem_append.1 hz with h' | h'; exact putL_bytes h z h'; exact hs z h'
  rw [units_step hb (by simp [putL_ne]), next_put h s]
  simp

/-- k is where a unit begins, j units ahead of it -/
def Bd : Nat → List Int → Nat → Prop
  | 0, _, k => k = 0
  | j + 1, l, k => l ≠ [] ∧ ∃ k', k = (nextL l).2 + k' ∧ Bd j (l.drop (nextL l).2) k'

theorem Bd.step : ∀ (j : Nat) (l : List Int) (k : Nat), Bd j l k → l.drop k ≠ [] → Bd (j + 1) l (k + (nextL (l.drop k)).2) := by
  intro j
  induction j with
  | zero =>
    intro l k h hne
    have hk : k = 0 := h
    subst hk
    exact ⟨hne, 0, by simp, rfl⟩
  | succ j ih =>
    intro l k h hne
    obtain ⟨h1, k', rfl, h2⟩ := h
    have := ih _ _ h2 (by rw [List.drop_drop]; exact hne)
    refine ⟨h1, _, ?_, this⟩
    rw [List.drop_drop]; omega

/-- cut behind its first unit, or later, bytes begin by the same unit -/
theorem next_take {l : List Int} (hb : isBytes l) {m : Nat} (hm : (nextL l).2 ≤ m) : nextL (l.take m) = nextL l := by
  rcases next_cases hb with ⟨rfl, e⟩ | ⟨hne, e⟩ | ⟨r, a, e, t, d⟩
  · simp
  · rw [e] at hm ⊢
    have hm' : 1 ≤ m := hm
    have hl : 1 ≤ l.length := by cases l <;> simp_all
    rcases next_cases (isBytes_take hb m) with ⟨e2, _⟩ | ⟨_, e2⟩ | ⟨q, a, e2, t, d⟩
    · have := congrArg List.length e2
      rw [List.length_take, List.length_nil] at this
      omega
    · exact e2
    · exfalso
      rw [List.length_take] at d
      rw [List.take_take, Nat.min_eq_left (by omega)] at t
      have n1 := next_put a (l.drop (putL q).length)
      have e3 : putL q ++ l.drop (putL q).length = l := by
        have := List.take_append_drop (putL q).length l
        rw [t] at this
        exact this
      rw [e3, e] at n1
      have := congrArg Prod.fst n1
      rw [may_iff] at a
      simp only at this
      omega
  · rw [e] at hm ⊢
    have hm' : (putL r).length ≤ m := hm
    have e3 : l.take m = putL r ++ (l.take m).drop (putL r).length := by
      have := List.take_append_drop (putL r).length (l.take m)
      rw [List.take_take, Nat.min_eq_left hm', t] at this
      exact this.symm
    rw [e3]
    exact next_put a _

theorem Bd.units : ∀ (j : Nat) (l : List Int) (k : Nat), isBytes l → Bd j l k → units (l.take k) + units (l.drop k) = units l := by
  intro j
  induction j with
  | zero =>
    intro l k hb h
    have hk : k = 0 := h
    subst hk
    simp [units_nil]
  | succ j ih =>
    intro l k hb h
    obtain ⟨h1, k', rfl, h2⟩ := h
    have nb := next_bound hb h1
    have i := ih _ _ (isBytes_drop hb _) h2
    have hne : l.take ((nextL l).2 + k') ≠ [] := by
      intro e
      have := congrArg List.length e
      rw [List.length_take, List.length_nil] at this
      omega
    rw [units_step hb h1, units_step (isBytes_take hb _) hne, next_take hb (by omega), List.drop_take]
    rw [List.drop_drop] at i
    rw [show (nextL l).2 + k' - (nextL l).2 = k' by omega]
    omega
end Go.Proofs.YtdaadeohamkoiaaGreatDoor.U
