/- Sets of numbers as lists of ranges: plain mathematics, of no program. -/
namespace Go.Proofs.YtdaadeohamkoiaaGreatDoor
namespace G

/-- is the number of one of the ranges? -/
def hasB (l : List (Int × Int)) (n : Int) : Bool := l.any fun r => decide (r.1 ≤ n) && decide (n ≤ r.2)

/-- in order, the first from least on -/
def mayFrom (least : Int) : List (Int × Int) → Bool
  | [] => true
  | r :: t => decide (least ≤ r.1) && decide (r.1 ≤ r.2) && decide (r.2 ≤ 1114111) && mayFrom (r.2 + 2) t

def mayB (l : List (Int × Int)) : Bool := mayFrom 0 l

/-- ranges in order of which just those numbers are of which p holds -/
def Is (l : List (Int × Int)) (p : Int → Bool) : Prop := mayB l = true ∧ ∀ n, hasB l n = p n

def dom (n : Int) : Bool := decide (0 ≤ n) && decide (n ≤ 1114111)

theorem hasB_nil (n : Int) : hasB [] n = false := rfl
theorem hasB_cons (r : Int × Int) (t : List (Int × Int)) (n : Int) : hasB (r :: t) n = ((decide (r.1 ≤ n) && decide (n ≤ r.2)) || hasB t n) := by simp [hasB]
theorem hasB_append (a b : List (Int × Int)) (n : Int) : hasB (a ++ b) n = (hasB a n || hasB b n) := by simp [hasB]
theorem hasB_one (x y n : Int) : hasB [(x, y)] n = (decide (x ≤ n) && decide (n ≤ y)) := by simp [hasB]

theorem mayFrom_cons {least : Int} {r : Int × Int} {t : List (Int × Int)} : mayFrom least (r :: t) = true ↔ least ≤ r.1 ∧ r.1 ≤ r.2 ∧ r.2 ≤ 1114111 ∧ mayFrom (r.2 + 2) t = true := by
  simp [mayFrom, and_assoc]

theorem mayFrom_le {a b : Int} {t : List (Int × Int)} (h : mayFrom a t = true) (hb : b ≤ a) : mayFrom b t = true := by
  cases t with
  | nil => rfl
  | cons r t => rw [mayFrom_cons] at *; exact ⟨by omega, h.2⟩

/-- what is of ranges in order is not below where they may begin, nor above the end -/
theorem has_bounds {least : Int} {t : List (Int × Int)} (h : mayFrom least t = true) {n : Int} (hn : hasB t n = true) : least ≤ n ∧ n ≤ 1114111 := by
  induction t generalizing least with
  | nil => simp [hasB] at hn
  | cons r t ih =>
    rw [mayFrom_cons] at h
    rw [hasB_cons] at hn
    simp only [Bool.or_eq_true, Bool.and_eq_true, decide_eq_true_eq] at hn
    rcases hn with hn | hn
    · omega
    · have := ih h.2.2.2 hn; omega

theorem has_low {least : Int} {t : List (Int × Int)} (h : mayFrom least t = true) {n : Int} (hn : n < least) : hasB t n = false := by
  cases e : hasB t n with
  | false => rfl
  | true => have := has_bounds h e; omega

theorem has_high {least : Int} {t : List (Int × Int)} (h : mayFrom least t = true) {n : Int} (hn : 1114111 < n) : hasB t n = false := by
  cases e : hasB t n with
  | false => rfl
  | true => have := has_bounds h e; omega

/-- ranges in order are the only ones of their numbers -/
theorem may_unique {a b : List (Int × Int)} {la lb : Int} (ha : mayFrom la a = true) (hb : mayFrom lb b = true) (h : ∀ n, hasB a n = hasB b n) : a = b := by
  induction a generalizing b la lb with
  | nil =>
    cases b with
    | nil => rfl
    | cons y u =>
      rw [mayFrom_cons] at hb
      have := h y.1
      rw [hasB_nil, hasB_cons] at this
      simp at this; omega
  | cons x t ih =>
    cases b with
    | nil =>
      rw [mayFrom_cons] at ha
      have := h x.1
      rw [hasB_nil, hasB_cons] at this
      simp at this; omega
    | cons y u =>
      obtain ⟨x1, x2⟩ := x
      obtain ⟨y1, y2⟩ := y
      rw [mayFrom_cons] at ha hb
      simp only at ha hb
      obtain ⟨hx0, hx1, hx2, ht⟩ := ha
      obtain ⟨hy0, hy1, hy2, hu⟩ := hb
      have e1 : ∀ n, hasB ((x1, x2) :: t) n = true → x1 ≤ n := by
        intro n hn
        rw [hasB_cons] at hn
        simp only [Bool.or_eq_true, Bool.and_eq_true, decide_eq_true_eq] at hn
        rcases hn with hn | hn
        · omega
        · have := has_bounds ht hn; omega
      have e2 : ∀ n, hasB ((y1, y2) :: u) n = true → y1 ≤ n := by
        intro n hn
        rw [hasB_cons] at hn
        simp only [Bool.or_eq_true, Bool.and_eq_true, decide_eq_true_eq] at hn
        rcases hn with hn | hn
        · omega
        · have := has_bounds hu hn; omega
      have i1 : hasB ((x1, x2) :: t) x1 = true := by rw [hasB_cons]; simp; left; omega
      have i2 : hasB ((y1, y2) :: u) y1 = true := by rw [hasB_cons]; simp; left; omega
      have e3 : x1 = y1 := by
        have := e1 y1 (by rw [h]; exact i2)
        have := e2 x1 (by rw [← h]; exact i1)
        omega
      subst e3
      have e4 : x2 = y2 := by
        have k1 := h (x2 + 1)
        have k2 := h (y2 + 1)
        rw [hasB_cons, hasB_cons, has_low ht (by omega)] at k1
        rw [hasB_cons, hasB_cons, has_low hu (by omega)] at k2
        by_cases c1 : x2 < y2
        · exfalso
          have : ¬ (x2 + 1 ≤ x2) := by omega
          have : x1 ≤ x2 + 1 := by omega
          have : x2 + 1 ≤ y2 := by omega
          simp [*] at k1
        · by_cases c2 : y2 < x2
          · exfalso
            have : ¬ (y2 + 1 ≤ y2) := by omega
            have : x1 ≤ y2 + 1 := by omega
            have : y2 + 1 ≤ x2 := by omega
            simp [*] at k2
          · omega
      subst e4
      have e5 : t = u := by
        refine ih ht hu fun n => ?_
        by_cases c : n < x2 + 2
        · rw [has_low ht c, has_low hu c]
        · have k := h n
          rw [hasB_cons, hasB_cons] at k
          have : ¬ (n ≤ x2) := by omega
          simpa [this] using k
      rw [e5]

theorem Is.unique {a b : List (Int × Int)} {p q : Int → Bool} (ha : Is a p) (hb : Is b q) (h : ∀ n, p n = q n) : a = b :=
  may_unique ha.1 hb.1 fun n => by rw [ha.2, hb.2, h]

theorem Is.congr {a : List (Int × Int)} {p q : Int → Bool} (ha : Is a p) (h : ∀ n, p n = q n) : Is a q := ⟨ha.1, fun n => by rw [ha.2, h]⟩

theorem Is.self {a : List (Int × Int)} (h : mayB a = true) : Is a (hasB a) := ⟨h, fun _ => rfl⟩

theorem Is.dom {a : List (Int × Int)} {p : Int → Bool} (h : Is a p) {n : Int} (hn : p n = true) : 0 ≤ n ∧ n ≤ 1114111 := has_bounds h.1 (by rw [h.2]; exact hn)

theorem mayFrom_length {least : Int} {l : List (Int × Int)} (h : mayFrom least l = true) (h0 : least ≤ 1114113) : 2 * (l.length : Int) ≤ 1114113 - least + 1 := by
  induction l generalizing least with
  | nil => simp; omega
  | cons r t ih =>
    rw [mayFrom_cons] at h
    have := ih h.2.2.2 (by omega)
    simp only [List.length_cons]; push_cast; omega

theorem may_length {l : List (Int × Int)} (h : mayB l = true) : l.length ≤ 557057 := by
  have := mayFrom_length h (by omega); omega

theorem may_mem {least : Int} {l : List (Int × Int)} (h : mayFrom least l = true) {r : Int × Int} (hr : r ∈ l) : least ≤ r.1 ∧ r.1 ≤ r.2 ∧ r.2 ≤ 1114111 := by
  induction l generalizing least with
  | nil => cases hr
  | cons x t ih =>
    rw [mayFrom_cons] at h
    rcases List.mem_cons.1 hr with rfl | hr
    · exact ⟨h.1, h.2.1, h.2.2.1⟩
    · have := ih h.2.2.2 hr; omega

/-- where the next range may begin -/
def endOf (least : Int) : List (Int × Int) → Int
  | [] => least
  | r :: t => endOf (r.2 + 2) t

theorem mayFrom_append {least : Int} {a b : List (Int × Int)} : mayFrom least (a ++ b) = true ↔ mayFrom least a = true ∧ mayFrom (endOf least a) b = true := by
  induction a generalizing least with
  | nil => simp [mayFrom, endOf]
  | cons r t ih => simp only [List.cons_append, mayFrom_cons, endOf, ih]; constructor <;> (intro h; simp_all)

theorem endOf_append (least : Int) (a : List (Int × Int)) (r : Int × Int) : endOf least (a ++ [r]) = r.2 + 2 := by
  induction a generalizing least with
  | nil => rfl
  | cons x t ih => simp [endOf, ih]

theorem mayFrom_one {least : Int} {r : Int × Int} : mayFrom least [r] = true ↔ least ≤ r.1 ∧ r.1 ≤ r.2 ∧ r.2 ≤ 1114111 := by
  rw [mayFrom_cons]; simp [mayFrom]

theorem may_snoc {a : List (Int × Int)} {r : Int × Int} : mayB (a ++ [r]) = true ↔ mayB a = true ∧ endOf 0 a ≤ r.1 ∧ r.1 ≤ r.2 ∧ r.2 ≤ 1114111 := by
  unfold mayB; rw [mayFrom_append, mayFrom_one]

/-- a range that does not touch the last one is put behind -/
theorem join_new {a : List (Int × Int)} {x y lo hi : Int} (h : mayB (a ++ [(x, y)]) = true) (h1 : y + 1 < lo) (h2 : lo ≤ hi) (h3 : hi ≤ 1114111) : mayB ((a ++ [(x, y)]) ++ [(lo, hi)]) = true := by
  rw [may_snoc]; exact ⟨h, by rw [endOf_append]; simp only; omega, h2, h3⟩

/-- one that does widens it -/
theorem join_wide {a : List (Int × Int)} {x y lo hi z : Int} (h : mayB (a ++ [(x, y)]) = true) (h1 : lo ≤ y + 1) (h2 : lo ≤ hi) (h3 : hi ≤ 1114111) (h4 : x ≤ lo) (hz : z = max y hi) :
    mayB (a ++ [(x, z)]) = true ∧ ∀ n, hasB (a ++ [(x, z)]) n = (hasB (a ++ [(x, y)]) n || (decide (lo ≤ n) && decide (n ≤ hi))) := by
  rw [may_snoc] at h ⊢
  simp only at h ⊢
  refine ⟨⟨h.1, h.2.1, by omega, by omega⟩, fun n => ?_⟩
  rw [hasB_append, hasB_append, hasB_one, hasB_one]
  cases hasB a n
  · simp only [Bool.false_or]
    rw [Bool.eq_iff_iff]; simp only [Bool.and_eq_true, Bool.or_eq_true, decide_eq_true_eq]; omega
  · simp

/-! ### Sizes -/
def sizeL : List (Int × Int) → Int
  | [] => 0
  | r :: t => (r.2 - r.1 + 1) + sizeL t

theorem sizeL_append (a b : List (Int × Int)) : sizeL (a ++ b) = sizeL a + sizeL b := by
  induction a with
  | nil => simp [sizeL]
  | cons r t ih => simp [sizeL, ih]; omega

/-- how many numbers below N there are of which p holds -/
def cnt (p : Int → Bool) : Nat → Int
  | 0 => 0
  | k + 1 => cnt p k + if p k then 1 else 0

theorem cnt_congr {p q : Int → Bool} (N : Nat) (h : ∀ n : Int, 0 ≤ n → n < N → p n = q n) : cnt p N = cnt q N := by
  induction N with
  | zero => rfl
  | succ k ih => rw [cnt, cnt, ih (fun n h0 h1 => h n h0 (by omega)), h k (by omega) (by omega)]

theorem cnt_or (p q : Int → Bool) (N : Nat) : cnt (fun n => p n || q n) N + cnt (fun n => p n && q n) N = cnt p N + cnt q N := by
  induction N with
  | zero => rfl
  | succ k ih =>
    simp only [cnt]
    rcases Bool.eq_false_or_eq_true (p k) with h1 | h1 <;> rcases Bool.eq_false_or_eq_true (q k) with h2 | h2 <;> simp [h1, h2] <;> omega

theorem cnt_none (N : Nat) : cnt (fun _ => false) N = 0 := by
  induction N with
  | zero => rfl
  | succ k ih => simp [cnt, ih]

theorem cnt_all (N : Nat) : cnt (fun _ => true) N = N := by
  induction N with
  | zero => rfl
  | succ k ih => simp [cnt, ih]

theorem cnt_run (x y : Int) (N : Nat) (hx : 0 ≤ x) : cnt (fun n => decide (x ≤ n) && decide (n ≤ y)) N = if (N : Int) ≤ x then 0 else if y < x then 0 else if (N : Int) ≤ y then N - x else y - x + 1 := by
  induction N with
  | zero => simp [cnt]; omega
  | succ k ih =>
    rw [cnt, ih]
    simp only [Bool.and_eq_true, decide_eq_true_eq]
    push_cast
    repeat' split
    all_goals omega

theorem size_cnt {l : List (Int × Int)} {least : Int} (h : mayFrom least l = true) (h0 : 0 ≤ least) (N : Nat) (hN : 1114112 ≤ N) : sizeL l = cnt (hasB l) N := by
  induction l generalizing least with
  | nil => rw [show hasB [] = fun _ => false from rfl, cnt_none]; rfl
  | cons r t ih =>
    obtain ⟨x, y⟩ := r
    rw [mayFrom_cons] at h
    simp only at h
    have e := ih h.2.2.2 (by omega)
    have o := cnt_or (fun n => decide (x ≤ n) && decide (n ≤ y)) (hasB t) N
    have z : cnt (fun n => (decide (x ≤ n) && decide (n ≤ y)) && hasB t n) N = 0 := by
      rw [← cnt_none N]
      refine cnt_congr N fun n _ _ => ?_
      by_cases c : n ≤ y
      · rw [has_low h.2.2.2 (by omega)]; simp
      · simp [c]
    have s : cnt (hasB ((x, y) :: t)) N = cnt (fun n => (decide (x ≤ n) && decide (n ≤ y)) || hasB t n) N := cnt_congr N fun n _ _ => hasB_cons _ _ _
    rw [sizeL, e, s]
    rw [z, cnt_run x y N (by omega), if_neg (by omega), if_neg (by omega), if_neg (by omega)] at o
    simp only; omega

/-- as many numbers as there are -/
def size (p : Int → Bool) : Int := cnt p 1114112

theorem Is.size {l : List (Int × Int)} {p : Int → Bool} (h : Is l p) : sizeL l = G.size p := by
  rw [size_cnt h.1 (Int.le_refl _) 1114112 (Nat.le_refl _)]
  exact cnt_congr _ fun n _ _ => h.2 n

theorem sizeL_bounds {l : List (Int × Int)} {least : Int} (h : mayFrom least l = true) (h0 : least ≤ 1114113) : 0 ≤ sizeL l ∧ sizeL l ≤ 1114113 - least := by
  induction l generalizing least with
  | nil => simp [sizeL]; omega
  | cons r t ih =>
    rw [mayFrom_cons] at h
    have := ih h.2.2.2 (by omega)
    simp only [sizeL]; omega

/-! ### Borders, and what is merged by them -/

/-- the numbers at which the answer turns -/
def bs : List (Int × Int) → List Int
  | [] => []
  | r :: t => r.1 :: (r.2 + 1) :: bs t

theorem bs_length (l : List (Int × Int)) : (bs l).length = 2 * l.length := by
  induction l with
  | nil => rfl
  | cons r t ih => simp [bs, ih]; omega

/-- each above the number ahead, from c on, none above 1114112 -/
def up (c : Int) : List Int → Prop
  | [] => True
  | x :: t => c < x ∧ x ≤ 1114112 ∧ up x t

theorem up_le {a b : Int} {t : List Int} (h : up a t) (hb : b ≤ a) : up b t := by
  cases t with
  | nil => trivial
  | cons x t => exact ⟨by have := h.1; omega, h.2⟩

theorem up_mem {c : Int} {t : List Int} (h : up c t) {x : Int} (hx : x ∈ t) : c < x ∧ x ≤ 1114112 := by
  induction t generalizing c with
  | nil => cases hx
  | cons y t ih =>
    obtain ⟨h1, h2, h3⟩ := h
    rcases List.mem_cons.1 hx with rfl | hx
    · exact ⟨h1, h2⟩
    · have := ih h3 hx; omega

theorem bs_up {least : Int} {l : List (Int × Int)} (h : mayFrom least l = true) : up (least - 1) (bs l) := by
  induction l generalizing least with
  | nil => trivial
  | cons r t ih =>
    rw [mayFrom_cons] at h
    refine ⟨by omega, by omega, by omega, by omega, up_le (ih h.2.2.2) (by omega)⟩

/-- where no border lies between, the answer is the same -/
theorem bs_same {least : Int} {l : List (Int × Int)} (h : mayFrom least l = true) {m n : Int} (hmn : m ≤ n) (hb : ∀ x ∈ bs l, ¬ (m < x ∧ x ≤ n)) : hasB l n = hasB l m := by
  induction l generalizing least with
  | nil => rfl
  | cons r t ih =>
    rw [mayFrom_cons] at h
    have b1 := hb r.1 (by simp [bs])
    have b2 := hb (r.2 + 1) (by simp [bs])
    rw [hasB_cons, hasB_cons, ih h.2.2.2 (fun x hx => hb x (by simp [bs, hx]))]
    congr 1
    rw [Bool.eq_iff_iff]; simp only [Bool.and_eq_true, decide_eq_true_eq]; omega

/-- one number ahead of a list that a function tells, among others -/
def ins (x : Int) (f : List Int → List Int) : List Int → List Int
  | [] => x :: f []
  | y :: ys => if x < y then x :: f (y :: ys) else if y < x then y :: ins x f ys else x :: f ys

/-- two rising lists as one, each number once -/
def mrg : List Int → List Int → List Int
  | [] => fun ys => ys
  | x :: xs => ins x (mrg xs)

theorem mrg_left (ys : List Int) : mrg [] ys = ys := rfl
theorem mrg_cons_nil (x : Int) (xs : List Int) : mrg (x :: xs) [] = x :: mrg xs [] := rfl
theorem mrg_cons (x y : Int) (xs ys : List Int) : mrg (x :: xs) (y :: ys) = if x < y then x :: mrg xs (y :: ys) else if y < x then y :: mrg (x :: xs) ys else x :: mrg xs ys := rfl
theorem mrg_nil (xs : List Int) : mrg xs [] = xs := by
  induction xs with
  | nil => rfl
  | cons x xs ih => rw [mrg_cons_nil, ih]

theorem mem_mrg {z : Int} (xs ys : List Int) : z ∈ mrg xs ys ↔ z ∈ xs ∨ z ∈ ys := by
  induction xs generalizing ys with
  | nil => simp [mrg_left]
  | cons x xs ih =>
    induction ys with
    | nil => rw [mrg_nil]; simp
    | cons y ys ihy =>
      rw [mrg_cons]
      split
      · rw [List.mem_cons, ih (y :: ys)]; simp [or_assoc]
      · split
        · rw [List.mem_cons, ihy]; simp only [List.mem_cons]; constructor <;> (rintro (h | h | h) <;> simp_all)
        · have : x = y := by omega
          subst this
          rw [List.mem_cons, ih ys]; simp only [List.mem_cons]; constructor
          · rintro (h | h | h) <;> simp_all
          · rintro ((h | h) | (h | h)) <;> simp_all

theorem up_mrg {c : Int} (xs ys : List Int) (h : up c xs) (k : up c ys) : up c (mrg xs ys) := by
  induction xs generalizing ys c with
  | nil => exact k
  | cons x xs ih =>
    induction ys generalizing c with
    | nil => rw [mrg_nil]; exact h
    | cons y ys ihy =>
      rw [mrg_cons]
      split
      · exact ⟨h.1, h.2.1, ih (y :: ys) h.2.2 ⟨by omega, k.2⟩⟩
      · split
        · exact ⟨k.1, k.2.1, ihy ⟨by omega, h.2⟩ k.2.2⟩
        · have : x = y := by omega
          subst this
          exact ⟨h.1, h.2.1, ih ys h.2.2 k.2.2⟩

/-- what the loop over the borders puts together: nothing begun, or a range begun at lo -/
def run (p : Int → Bool) : Option Int → List Int → List (Int × Int)
  | none, [] => []
  | some lo, [] => [(lo, lo)]
  | none, x :: t => if p x then run p (some x) t else run p none t
  | some lo, x :: t => if p x then run p (some lo) t else (lo, x - 1) :: run p none t

/-- p turns at the numbers of t alone, from c on -/
def turns (p : Int → Bool) (c : Int) (t : List Int) : Prop := ∀ m n, c ≤ m → m ≤ n → (∀ x ∈ t, ¬ (m < x ∧ x ≤ n)) → p n = p m

theorem turns_tail {p : Int → Bool} {c x : Int} {t : List Int} (h : turns p c (x :: t)) (hx : c < x) : turns p x t := fun m n h1 h2 h3 => h m n (by omega) h2 fun y hy => by
  rcases List.mem_cons.1 hy with rfl | hy
  · omega
  · exact h3 y hy

theorem run_none {p : Int → Bool} (hp : ∀ n, 1114111 < n → p n = false) : ∀ (t : List Int) (c : Int), up c t → turns p c t →
    (p c = false → mayFrom (c + 1) (run p none t) = true ∧ ∀ n, hasB (run p none t) n = (decide (c < n) && p n)) ∧
    (∀ lo, lo ≤ c → (∀ m, lo ≤ m → m ≤ c → p m = true) → mayFrom lo (run p (some lo) t) = true ∧ ∀ n, hasB (run p (some lo) t) n = (decide (lo ≤ n) && p n))
  | [], c, _, ht => by
    refine ⟨fun hc => ⟨rfl, fun n => ?_⟩, fun lo hlo hm => ?_⟩
    · show false = _
      by_cases h : c < n
      · rw [ht c n (Int.le_refl _) (by omega) (fun x hx => by cases hx), hc]; simp
      · simp [h]
    · exfalso
      have h1 := hm c hlo (Int.le_refl _)
      have h2 : p (max c 1114112) = p c := ht c _ (Int.le_refl _) (by omega) (fun x hx => by cases hx)
      rw [h1, hp _ (by omega)] at h2
      cases h2
  | x :: t, c, hu, ht => by
    obtain ⟨hcx, hx, hu⟩ := hu
    have ht2 := turns_tail ht hcx
    obtain ⟨ih1, ih2⟩ := run_none hp t x hu ht2
    have flat : ∀ n, c ≤ n → n < x → p n = p c := fun n h1 h2 => ht c n (Int.le_refl _) h1 fun y hy => by
      rcases List.mem_cons.1 hy with rfl | hy
      · omega
      · have := (up_mem hu hy).1; omega
    cases hpx : p x with
    | false =>
      obtain ⟨a1, a2⟩ := ih1 hpx
      refine ⟨fun hc => ?_, fun lo hlo hm => ?_⟩
      · rw [run, hpx]
        refine ⟨mayFrom_le a1 (by omega), fun n => ?_⟩
        simp only [Bool.false_eq_true, if_false]
        rw [a2]
        by_cases h1 : x < n
        · simp [h1, show c < n by omega]
        · by_cases h2 : c < n
          · by_cases h3 : n = x
            · subst h3; simp [hpx]
            · rw [flat n (by omega) (by omega), hc]; simp
          · simp [h1, h2]
      · rw [run, hpx]
        simp only [Bool.false_eq_true, if_false]
        refine ⟨mayFrom_cons.2 ⟨Int.le_refl _, by simp only; omega, by simp only; omega, mayFrom_le a1 (by simp only; omega)⟩, fun n => ?_⟩
        rw [hasB_cons, a2]
        simp only
        by_cases h1 : x < n
        · simp [h1, show ¬ (n ≤ x - 1) by omega, show lo ≤ n by omega]
        · by_cases h2 : n = x
          · subst h2; simp [hpx, show ¬ (n ≤ n - 1) by omega]
          · by_cases h3 : lo ≤ n
            · have : p n = true := by
                by_cases h4 : n ≤ c
                · exact hm n h3 h4
                · rw [flat n (by omega) (by omega)]; exact hm c hlo (Int.le_refl _)
              simp [h1, h3, this, show n ≤ x - 1 by omega]
            · simp [h1, h3]
    | true =>
      refine ⟨fun hc => ?_, fun lo hlo hm => ?_⟩
      · obtain ⟨a1, a2⟩ := ih2 x (Int.le_refl _) (fun m h1 h2 => by rw [show m = x by omega]; exact hpx)
        rw [run, hpx]
        simp only [if_true]
        refine ⟨mayFrom_le a1 (by omega), fun n => ?_⟩
        rw [a2]
        by_cases h1 : x ≤ n
        · simp [h1, show c < n by omega]
        · by_cases h2 : c < n
          · rw [flat n (by omega) (by omega), hc]; simp [h1]
          · simp [h1, h2]
      · obtain ⟨a1, a2⟩ := ih2 lo (by omega) (fun m h1 h2 => by
          by_cases h3 : m ≤ c
          · exact hm m h1 h3
          · by_cases h4 : m = x
            · subst h4; exact hpx
            · rw [flat m (by omega) (by omega)]; exact hm c hlo (Int.le_refl _))
        rw [run, hpx]
        simp only [if_true]
        exact ⟨a1, a2⟩

/-- what is merged of two sets in order, by what is asked of a number -/
theorem merge_is {a b : List (Int × Int)} (ha : mayB a = true) (hb : mayB b = true) (f : Bool → Bool → Bool) (hf : f false false = false) :
    Is (run (fun n => f (hasB a n) (hasB b n)) none (mrg (bs a) (bs b))) (fun n => f (hasB a n) (hasB b n)) := by
  have hp : ∀ n, 1114111 < n → f (hasB a n) (hasB b n) = false := fun n hn => by rw [has_high ha hn, has_high hb hn, hf]
  have h0 : ∀ n, n < 0 → f (hasB a n) (hasB b n) = false := fun n hn => by rw [has_low ha hn, has_low hb hn, hf]
  have hu := up_mrg _ _ (bs_up ha) (bs_up hb)
  have ht : turns (fun n => f (hasB a n) (hasB b n)) (0 - 1) (mrg (bs a) (bs b)) := fun m n h1 h2 h3 => by
    show f _ _ = f _ _
    rw [bs_same ha h2 (fun x hx => h3 x ((mem_mrg _ _).2 (.inl hx))), bs_same hb h2 (fun x hx => h3 x ((mem_mrg _ _).2 (.inr hx)))]
  obtain ⟨r1, r2⟩ := (run_none hp _ _ hu ht).1 (h0 _ (by omega))
  refine ⟨r1, fun n => ?_⟩
  rw [r2]
  by_cases h : (0 : Int) - 1 < n
  · rw [decide_eq_true h]; rfl
  · rw [decide_eq_false h]; exact (h0 n (by omega)).symm

end G
end Go.Proofs.YtdaadeohamkoiaaGreatDoor
