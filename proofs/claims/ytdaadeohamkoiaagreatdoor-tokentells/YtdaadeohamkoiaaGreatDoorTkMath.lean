/- Plain mathematics of layer 5 (token): how a text is read, token by token, and how a token is told. No program is named here. -/
import Derived.Test.YtdaadeohamkoiaaGreatDoorUtfMath
import Derived.Test.YtdaadeohamkoiaaGreatDoorRgMath
namespace Go.Proofs.YtdaadeohamkoiaaGreatDoor.T
set_option linter.unusedSimpArgs false
set_option linter.unusedVariables false

/-! ### Sets, as lists in order -/
def uniL (a b : List (Int × Int)) : List (Int × Int) := G.run (fun n => G.hasB a n || G.hasB b n) none (G.mrg (G.bs a) (G.bs b))
def lessL (a b : List (Int × Int)) : List (Int × Int) := G.run (fun n => G.hasB a n && !G.hasB b n) none (G.mrg (G.bs a) (G.bs b))
def clipR (r : Int × Int) : List (Int × Int) := if max r.1 0 ≤ min r.2 1114111 then [(max r.1 0, min r.2 1114111)] else []
def normL : List (Int × Int) → List (Int × Int)
  | [] => []
  | r :: t => uniL (clipR r) (normL t)
def inN (l : List (Int × Int)) (n : Int) : Bool := G.dom n && G.hasB l n
theorem uni_is {a b : List (Int × Int)} (ha : G.mayB a = true) (hb : G.mayB b = true) : G.Is (uniL a b) (fun n => G.hasB a n || G.hasB b n) := G.merge_is ha hb (fun x y => x || y) rfl
theorem less_is {a b : List (Int × Int)} (ha : G.mayB a = true) (hb : G.mayB b = true) : G.Is (lessL a b) (fun n => G.hasB a n && !G.hasB b n) := G.merge_is ha hb (fun x y => x && !y) rfl
theorem clip_is (r : Int × Int) : G.Is (clipR r) (inN [r]) := by
  unfold clipR
  split
  · next h =>
    constructor
    · show G.mayFrom 0 _ = true
      rw [G.mayFrom_one]
      simp only
      omega
    · intro n
      rw [G.hasB_one]
      unfold inN G.dom
      rw [show [r] = [(r.1, r.2)] from rfl, G.hasB_one, Bool.eq_iff_iff]
      simp only [Bool.and_eq_true, decide_eq_true_eq]
      omega
  · next h =>
    refine ⟨rfl, fun n => ?_⟩
    rw [G.hasB_nil]
    unfold inN G.dom
    rw [show [r] = [(r.1, r.2)] from rfl, G.hasB_one]
    symm
    rw [Bool.eq_false_iff]
    simp only [ne_eq, Bool.and_eq_true, decide_eq_true_eq]
    omega
theorem norm_is (l : List (Int × Int)) : G.Is (normL l) (inN l) := by
  induction l with
  | nil => exact ⟨rfl, fun n => by show G.hasB [] n = _; rw [G.hasB_nil]; unfold inN; rw [G.hasB_nil, Bool.and_false]⟩
  | cons r t ih =>
    refine (uni_is (clip_is r).1 ih.1).congr fun n => ?_
    rw [(clip_is r).2, ih.2]
    unfold inN
    rw [show r :: t = [r] ++ t from rfl, G.hasB_append]
    cases G.dom n <;> simp
theorem in_may {l : List (Int × Int)} (h : G.mayB l = true) (n : Int) : inN l n = G.hasB l n := by
  unfold inN G.dom
  cases e : G.hasB l n with
  | false => simp
  | true => have := G.has_bounds h e; simp [this.1, this.2]
theorem norm_self {l : List (Int × Int)} (h : G.mayB l = true) : normL l = l := (norm_is l).unique (G.Is.self h) (in_may h)
def surr : List (Int × Int) := [(55296, 57343)]
theorem surr_may : G.mayB surr = true := by decide
def allR : List (Int × Int) := [(0, 1114111)]
theorem all_may : G.mayB allR = true := by decide
/-- the set of a Class -/
def classL (no : Bool) (l : List (Int × Int)) : List (Int × Int) := lessL (if no then lessL allR (normL l) else normL l) surr
theorem class_is (no : Bool) (l : List (Int × Int)) : G.Is (classL no l) (fun n => U.mayB n && (if no then !G.hasB l n else G.hasB l n)) := by
  have h1 : G.mayB (if no then lessL allR (normL l) else normL l) = true := by
    cases no
    · exact (norm_is l).1
    · exact (less_is all_may (norm_is l).1).1
  refine (less_is h1 surr_may).congr fun n => ?_
  have e2 : G.hasB surr n = (decide (55296 ≤ n) && decide (n ≤ 57343)) := G.hasB_one _ _ _
  rw [e2]
  have em : U.mayB n = (G.dom n && !(decide (55296 ≤ n) && decide (n ≤ 57343))) := by
    unfold U.mayB G.dom
    rw [Bool.eq_iff_iff]
    simp only [Bool.and_eq_true, decide_eq_true_eq, Bool.not_eq_true', Bool.and_eq_false_iff, decide_eq_false_iff_not]
    omega
  rw [em]
  cases no
  · simp only [Bool.false_eq_true, if_false]
    rw [(norm_is l).2]
    unfold inN
    cases G.dom n <;> cases (decide (55296 ≤ n) && decide (n ≤ 57343)) <;> cases G.hasB l n <;> rfl
  · simp only [if_true]
    rw [(less_is all_may (norm_is l).1).2]
    simp only
    rw [(norm_is l).2]
    have e3 : G.hasB allR n = G.dom n := G.hasB_one _ _ _
    rw [e3]
    unfold inN
    cases G.dom n <;> cases (decide (55296 ≤ n) && decide (n ≤ 57343)) <;> cases G.hasB l n <;> rfl

/-! ### What stands one behind the other, up to what ends it -/
def gatherF {α : Type} (one : List Int → Option (α × Nat)) (stop : Int) : Nat → List Int → Option (List α × Nat)
  | 0, _ => none
  | f + 1, r => if r = [] then none else if r.getD 0 0 = stop then some ([], 1) else
      match one r with
      | none => none
      | some (x, n) => match gatherF one stop f (r.drop n) with
        | none => none
        | some (xs, m) => some (x :: xs, n + m)
def gatherL {α : Type} (one : List Int → Option (α × Nat)) (stop : Int) (r : List Int) : Option (List α × Nat) := gatherF one stop r.length r
/-- each takes a byte at least, and no more than there are -/
def Good {α : Type} (one : List Int → Option (α × Nat)) : Prop := ∀ r x n, U.isBytes r → one r = some (x, n) → 1 ≤ n ∧ n ≤ r.length
/-- and, where something stands behind it, hangs on no more -/
def Ext {α : Type} (one : List Int → Option (α × Nat)) : Prop := ∀ r x n s, U.isBytes r → U.isBytes s → one r = some (x, n) → n < r.length → one (r ++ s) = some (x, n)

theorem gather_fuel {α : Type} {one : List Int → Option (α × Nat)} {stop : Int} (hg : Good one) : ∀ (f g : Nat) (r : List Int), U.isBytes r → r.length ≤ f → r.length ≤ g → gatherF one stop f r = gatherF one stop g r := by
  intro f
  induction f with
  | zero =>
    intro g r hb h1 _
    have : r = [] := List.eq_nil_of_length_eq_zero (by omega)
    subst this
    cases g <;> simp [gatherF]
  | succ f ih =>
    intro g r hb h1 h2
    cases g with
    | zero =>
      have : r = [] := List.eq_nil_of_length_eq_zero (by omega)
      subst this
      simp [gatherF]
    | succ g =>
      simp only [gatherF]
      split
      · rfl
      · split
        · rfl
        · cases e : one r with
          | none => rfl
          | some p =>
            obtain ⟨x, n⟩ := p
            have := hg r x n hb e
            simp only
            rw [ih g (r.drop n) (U.isBytes_drop hb n) (by rw [List.length_drop]; omega) (by rw [List.length_drop]; omega)]
theorem gather_nil {α : Type} {one : List Int → Option (α × Nat)} {stop : Int} : gatherL one stop [] = none := rfl
theorem gather_stop {α : Type} {one : List Int → Option (α × Nat)} {stop : Int} {r : List Int} (h : r ≠ []) (hs : r.getD 0 0 = stop) : gatherL one stop r = some ([], 1) := by
  unfold gatherL
  obtain ⟨k, hk⟩ : ∃ k, r.length = k + 1 := ⟨r.length - 1, by cases r <;> simp_all⟩
  rw [hk]
  simp only [gatherF, if_neg h, if_pos hs]
theorem gather_bad {α : Type} {one : List Int → Option (α × Nat)} {stop : Int} {r : List Int} (h : r ≠ []) (hs : r.getD 0 0 ≠ stop) (ho : one r = none) : gatherL one stop r = none := by
  unfold gatherL
  obtain ⟨k, hk⟩ : ∃ k, r.length = k + 1 := ⟨r.length - 1, by cases r <;> simp_all⟩
  rw [hk]
  simp only [gatherF, if_neg h, if_neg hs, ho]
theorem gather_step {α : Type} {one : List Int → Option (α × Nat)} {stop : Int} (hg : Good one) {r : List Int} (hb : U.isBytes r) (h : r ≠ []) (hs : r.getD 0 0 ≠ stop) {x : α} {n : Nat} (ho : one r = some (x, n)) :
    gatherL one stop r = match gatherL one stop (r.drop n) with | none => none | some (xs, m) => some (x :: xs, n + m) := by
  have hn := hg r x n hb ho
  unfold gatherL
  obtain ⟨k, hk⟩ : ∃ k, r.length = k + 1 := ⟨r.length - 1, by cases r <;> simp_all⟩
  rw [hk]
  simp only [gatherF, if_neg h, if_neg hs, ho]
  rw [gather_fuel hg k (r.drop n).length (r.drop n) (U.isBytes_drop hb n) (by rw [List.length_drop]; omega) (Nat.le_refl _)]
theorem gather_len {α : Type} {one : List Int → Option (α × Nat)} {stop : Int} (hg : Good one) : ∀ (f : Nat) (r : List Int) (xs : List α) (m : Nat), U.isBytes r → r.length ≤ f → gatherL one stop r = some (xs, m) → 1 ≤ m ∧ m ≤ r.length ∧ xs.length + 1 ≤ m := by
  intro f
  induction f with
  | zero =>
    intro r xs m _ h e
    have : r = [] := List.eq_nil_of_length_eq_zero (by omega)
    subst this
    rw [gather_nil] at e; cases e
  | succ f ih =>
    intro r xs m hb h e
    by_cases h0 : r = []
    · subst h0; rw [gather_nil] at e; cases e
    · have hl : 1 ≤ r.length := by cases r <;> simp_all
      by_cases hs : r.getD 0 0 = stop
      · rw [gather_stop h0 hs] at e
        cases e
        exact ⟨by omega, hl, by simp⟩
      · cases ho : one r with
        | none => rw [gather_bad h0 hs ho] at e; cases e
        | some p =>
          obtain ⟨x, n⟩ := p
          have hn := hg r x n hb ho
          rw [gather_step hg hb h0 hs ho] at e
          cases e2 : gatherL one stop (r.drop n) with
          | none => rw [e2] at e; cases e
          | some q =>
            obtain ⟨ys, k⟩ := q
            rw [e2] at e
            simp only [Option.some.injEq, Prod.mk.injEq] at e
            have := ih (r.drop n) ys k (U.isBytes_drop hb n) (by rw [List.length_drop]; omega) e2
            rw [List.length_drop] at this
            obtain ⟨rfl, rfl⟩ := e
            rw [List.length_cons]
            omega
/-- what is read hangs on nothing behind it -/
theorem gather_ext {α : Type} {one : List Int → Option (α × Nat)} {stop : Int} (hg : Good one) (he : Ext one) {s : List Int} (hbs : U.isBytes s) : ∀ (f : Nat) (r : List Int) (xs : List α) (m : Nat), U.isBytes r → r.length ≤ f → gatherL one stop r = some (xs, m) → gatherL one stop (r ++ s) = some (xs, m) := by
  intro f
  induction f with
  | zero =>
    intro r xs m _ h e
    have : r = [] := List.eq_nil_of_length_eq_zero (by omega)
    subst this
    rw [gather_nil] at e; cases e
  | succ f ih =>
    intro r xs m hb h e
    by_cases h0 : r = []
    · subst h0; rw [gather_nil] at e; cases e
    · have hl : 1 ≤ r.length := by cases r <;> simp_all
      have h0s : r ++ s ≠ [] := by simp [h0]
      have hd : (r ++ s).getD 0 0 = r.getD 0 0 := by simp [List.getD, List.getElem?_append_left (show 0 < r.length by omega)]
      have hbrs : U.isBytes (r ++ s) := fun z hz => by
        rcases List.mem_append.1 hz with h | h
        · exact hb z h
        · exact hbs z h
      by_cases hs : r.getD 0 0 = stop
      · rw [gather_stop h0 hs] at e
        rw [gather_stop h0s (hd.trans hs)]; exact e
      · cases ho : one r with
        | none => rw [gather_bad h0 hs ho] at e; cases e
        | some p =>
          obtain ⟨x, n⟩ := p
          have hn := hg r x n hb ho
          rw [gather_step hg hb h0 hs ho] at e
          cases e2 : gatherL one stop (r.drop n) with
          | none => rw [e2] at e; cases e
          | some q =>
            obtain ⟨ys, k⟩ := q
            have hlk := gather_len hg _ _ _ _ (U.isBytes_drop hb n) (Nat.le_refl _) e2
            rw [List.length_drop] at hlk
            rw [gather_step hg hbrs h0s (by rw [hd]; exact hs) (he r x n s hb hbs ho (by omega)), List.drop_append_of_le_length (by omega),
              ih (r.drop n) ys k (U.isBytes_drop hb n) (by rw [List.length_drop]; omega) e2]
            rw [e2] at e
            exact e

/-! ### Letters, digits -/
def isLet (z : Int) : Bool := decide (97 ≤ z) && decide (z ≤ 122)
def isDig (z : Int) : Bool := decide (48 ≤ z) && decide (z ≤ 57)
def isW (z : Int) : Bool := isLet z || isDig z || decide (z = 95)
def tailN : List Int → Nat
  | [] => 0
  | z :: t => if isW z then tailN t + 1 else 0
def wordN (r : List Int) : Nat := if isLet (r.getD 0 0) then tailN (r.drop 1) + 1 else 0
def valI (z : Int) : Int := if isDig z then z - 48 else if 97 ≤ z ∧ z ≤ 102 then z - 87 else -1
def hexI (r : List Int) : Int := if valI (r.getD 0 0) < 0 ∨ valI (r.getD 1 0) < 0 then -1 else 16 * valI (r.getD 0 0) + valI (r.getD 1 0)
/-- digits by sixteen, so many at most: what they tell, behind a number, and how many they are -/
def digF : Nat → Int → List Int → Int × Nat
  | 0, v, _ => (v, 0)
  | _ + 1, v, [] => (v, 0)
  | m + 1, v, z :: t => if 0 ≤ valI z then ((digF m (16 * v + valI z) t).1, (digF m (16 * v + valI z) t).2 + 1) else (v, 0)

/-! ### SIGNs, HEXes, items, pieces -/
def signL (r : List Int) : Option (Int × Nat) :=
  if r = [] then none
  else if r.getD 0 0 ≠ 92 then
    if (U.nextL r).1 < 32 ∨ (U.nextL r).1 = 91 ∨ (U.nextL r).1 = 93 ∨ (U.nextL r).1 = 94 ∨ (U.nextL r).1 = 45 then none else some (U.nextL r)
  else if r.getD 1 0 ≠ 117 then none
  else if (digF 6 0 (r.drop 2)).2 = 0 ∨ U.mayB (digF 6 0 (r.drop 2)).1 = false ∨ r.getD (2 + (digF 6 0 (r.drop 2)).2) 0 ≠ 59 then none
  else some ((digF 6 0 (r.drop 2)).1, (digF 6 0 (r.drop 2)).2 + 3)
def oneL (by' : Bool) (r : List Int) : Option (Int × Nat) := if by' then (if hexI r < 0 then none else some (hexI r, 2)) else signL r
def itemL (by' : Bool) (r : List Int) : Option ((Int × Int) × Nat) :=
  match oneL by' r with
  | none => none
  | some (lo, n) =>
    if (r.drop n).getD 0 0 = 45 then
      match oneL by' (r.drop (n + 1)) with
      | none => none
      | some (to, m) => if to < lo then none else some ((lo, to), n + 1 + m)
    else some ((lo, lo), n)
def pieceL (r : List Int) : Option (Int × Nat) :=
  if r.getD 0 0 = 92 then (if r.getD 1 0 = 120 ∧ 0 ≤ hexI (r.drop 2) then some (hexI (r.drop 2), 4) else none)
  else if r.getD 0 0 < 32 ∨ 126 < r.getD 0 0 then none else some (r.getD 0 0, 1)

/-! ### Tokens -/
abbrev Tk := Int × List Int × List (Int × Int)
def marks : List (List Int) := [[108, 111, 110, 103], [114, 101, 115], [111, 102, 102], [98, 108, 111, 99, 107], [97, 108, 105, 103, 110], [115, 121, 110, 99]]
def signs : List Int := [61, 124, 59, 40, 41, 42, 43, 63, 47, 37]
def hatN (r : List Int) : Nat := if r.getD 1 0 = 94 then 1 else 0
def tokL (r : List Int) : Option (Tk × Nat) :=
  if isLet (r.getD 0 0) then (if 12 < wordN r then none else some ((0, r.take (wordN r), []), wordN r))
  else if r.getD 0 0 = 64 then (if (r.drop 1).take (wordN (r.drop 1)) ∈ marks then some ((5, (r.drop 1).take (wordN (r.drop 1)), []), wordN (r.drop 1) + 1) else none)
  else if r.getD 0 0 ∈ signs then some ((4, [r.getD 0 0], []), 1)
  else if r.getD 0 0 = 34 then
    match gatherL pieceL 34 (r.drop 1) with
    | none => none
    | some (x, n) => if x = [] then none else some ((1, x, []), n + 1)
  else if r.getD 0 0 = 60 then
    match gatherL (itemL true) 62 (r.drop 1) with
    | none => none
    | some (l, n) => some ((3, [], normL l), n + 1)
  else if r.getD 0 0 = 91 then
    match gatherL (itemL false) 93 (r.drop (1 + hatN r)) with
    | none => none
    | some (l, n) => some ((2, [], classL (decide (hatN r = 1)) l), n + 1 + hatN r)
  else none
def isBl (z : Int) : Bool := decide (z = 32) || decide (z = 9) || decide (z = 10) || decide (z = 13)
/-- where nothing can be read, and why; or the tokens, with where they begin -/
def allF : Nat → Nat → Nat → List Int → Sum (Nat × Int) (List (Tk × Nat))
  | 0, _, _, _ => .inr []
  | f + 1, a, c, r => if r = [] then .inr [] else if isBl (r.getD 0 0) then allF f (a + 1) c (r.drop 1) else
      match tokL r with
      | none => .inl (a, 2)
      | some (t, n) => if c = 0 then .inl (a, 7) else
        match allF f (a + n) (c - 1) (r.drop n) with
        | .inl e => .inl e
        | .inr l => .inr ((t, a) :: l)
def allL (s : List Int) : Sum (Nat × Int) (List (Tk × Nat)) := if 3000 < s.length then .inl (0, 7) else allF s.length 0 600 s

/-! ### How a token is told -/
def hexD (d : Int) : Int := if d < 10 then 48 + d else 87 + d
def sixF : Nat → Int → List Int
  | 0, n => [hexD n]
  | f + 1, n => if n < 16 then [hexD n] else sixF f (n / 16) ++ [hexD (n % 16)]
def sixL (n : Int) : List Int := sixF 5 n
def hex2 (n : Int) : List Int := [hexD (n / 16), hexD (n % 16)]
def plainB (n : Int) : Bool := decide (32 ≤ n) && decide (n ≤ 126) && !decide (n = 91 ∨ n = 93 ∨ n = 94 ∨ n = 45 ∨ n = 92)
def showO (by' : Bool) (n : Int) : List Int := if by' then hex2 n else if plainB n then [n] else 92 :: 117 :: (sixL n ++ [59])
def showI (by' : Bool) (r : Int × Int) : List Int := if r.1 < r.2 then showO by' r.1 ++ 45 :: showO by' r.2 else showO by' r.1
def rawB (c : Int) : Bool := !decide (c < 32 ∨ 126 < c ∨ c = 34 ∨ c = 92)
def showP (c : Int) : List Int := if rawB c then [c] else 92 :: 120 :: hex2 c
def textL (t : Tk) : List Int :=
  if t.1 = 5 then 64 :: t.2.1
  else if t.1 = 1 then 34 :: (t.2.1.flatMap showP ++ [34])
  else if t.1 = 2 then 91 :: (t.2.2.flatMap (showI false) ++ [93])
  else if t.1 = 3 then 60 :: (t.2.2.flatMap (showI true) ++ [62])
  else t.2.1
/-- are its parts such that it can be told? -/
def partsB (t : Tk) : Bool := decide (0 ≤ t.1) && decide (t.1 ≤ 5) && G.mayB t.2.2 && t.2.2.all fun r => (decide (t.1 ≠ 2) || (U.mayB r.1 && U.mayB r.2)) && (decide (t.1 ≠ 3) || decide (r.2 ≤ 255))
def mayL (t : Tk) : Bool := partsB t && match allL (textL t) with
  | .inr [(u, _)] => decide (u = t)
  | _ => false

end Go.Proofs.YtdaadeohamkoiaaGreatDoor.T
