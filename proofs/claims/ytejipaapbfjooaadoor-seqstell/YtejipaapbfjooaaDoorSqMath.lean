/- Plain mathematics of layer 3 (seqs): ranges split into sequences of ranges of bytes; how bytes are of them. No program is named here. -/
import Derived.Test.YtejipaapbfjooaaDoorUtfMath
import Derived.Test.YtejipaapbfjooaaDoorRgMath
namespace Go.Proofs.YtejipaapbfjooaaDoor.Q
set_option linter.unusedSimpArgs false
set_option linter.unusedVariables false

/-- a range, split at multiples of k -/
def cutL (k : Int) (r : Int × Int) : List (Int × Int) :=
  if r.1 / k = r.2 / k then [r] else
  [(r.1, (r.1 + k - 1) / k * k - 1), ((r.1 + k - 1) / k * k, (r.2 + 1) / k * k - 1), ((r.2 + 1) / k * k, r.2)].filter fun p => decide (p.1 ≤ p.2)
def splitL (k : Int) (l : List (Int × Int)) : List (Int × Int) := l.flatMap (cutL k)
/-- the scalars of as many bytes, and where their ranges are split -/
def widthL : List ((Int × Int) × List Int) :=
  [((0, 127), []), ((128, 2047), [64]), ((2048, 55295), [4096, 64]), ((57344, 65535), [4096, 64]), ((65536, 1114111), [262144, 4096, 64])]
def clipW (w r : Int × Int) : List (Int × Int) := if max w.1 r.1 ≤ min w.2 r.2 then [(max w.1 r.1, min w.2 r.2)] else []
def piecesL (w : (Int × Int) × List Int) (r : Int × Int) : List (Int × Int) := w.2.foldl (fun l k => splitL k l) (clipW w.1 r)
def seqL (p : Int × Int) : List (Int × Int) := (U.putL p.1).zip (U.putL p.2)
def oneL (r : Int × Int) : List (Int × Int) := widthL.flatMap fun w => piecesL w r
def partsL (N : List (Int × Int)) : List (Int × Int) := N.flatMap oneL
def ofN (N : List (Int × Int)) : List (List (Int × Int)) := (partsL N).map seqL

/-- how many bytes are of a sequence's ranges, one by one -/
def fitsL : List (Int × Int) → List Int → Nat
  | [], _ => 0
  | _ :: _, [] => 0
  | r :: s, z :: b => if r.1 ≤ z ∧ z ≤ r.2 then fitsL s b + 1 else 0
def matchL : List (List (Int × Int)) → List Int → Nat
  | [], _ => 0
  | s :: t, b => if fitsL s b = s.length then s.length else matchL t b
def partL : List (List (Int × Int)) → List Int → Nat
  | [], _ => 0
  | s :: t, b => max (fitsL s b) (partL t b)
/-- the bytes from a place on -/
def rest (l : List Int) (at' : Int) : List Int := if at' < 0 ∨ (l.length : Int) < at' then [] else l.drop at'.toNat

/-! ### Lists of ranges one behind the other -/
def asc (c d : Int) : List (Int × Int) → Prop
  | [] => True
  | p :: t => c ≤ p.1 ∧ p.1 ≤ p.2 ∧ p.2 ≤ d ∧ asc (p.2 + 1) d t

theorem asc_low {c c' d : Int} {l : List (Int × Int)} (h : asc c d l) (hc : c' ≤ c) : asc c' d l := by
  cases l with
  | nil => trivial
  | cons p t => exact ⟨by have := h.1; omega, h.2⟩
theorem asc_append {c m d : Int} {a b : List (Int × Int)} (ha : asc c m a) (hb : asc (m + 1) d b) (h1 : c ≤ m + 1) (h2 : m ≤ d) : asc c d (a ++ b) := by
  induction a generalizing c with
  | nil => exact asc_low hb h1
  | cons p t ih =>
    have h3 := ha.2.2.1
    exact ⟨ha.1, ha.2.1, by omega, ih ha.2.2.2 (by omega)⟩
theorem asc_flat {c d : Int} {l : List (Int × Int)} {f : Int × Int → List (Int × Int)} (h : asc c d l) (hf : ∀ r ∈ l, asc r.1 r.2 (f r)) : asc c d (l.flatMap f) := by
  induction l generalizing c with
  | nil => trivial
  | cons p t ih =>
    rw [List.flatMap_cons]
    obtain ⟨h1, h2, h3, h4⟩ := h
    exact asc_append (asc_low (hf p List.mem_cons_self) h1) (ih h4 fun r hr => hf r (List.mem_cons_of_mem _ hr)) (by omega) h3
theorem asc_mem {c d : Int} {l : List (Int × Int)} (h : asc c d l) {p : Int × Int} (hp : p ∈ l) : c ≤ p.1 ∧ p.1 ≤ p.2 ∧ p.2 ≤ d := by
  induction l generalizing c with
  | nil => cases hp
  | cons q t ih =>
    rcases List.mem_cons.1 hp with rfl | hp
    · exact ⟨h.1, h.2.1, h.2.2.1⟩
    · have := ih h.2.2.2 hp; have := h.1; have := h.2.1; omega
theorem asc_bound {c d c' d' : Int} {l : List (Int × Int)} (h : asc c d l) (hb : ∀ p ∈ l, c' ≤ p.1 ∧ p.2 ≤ d') : asc c' d' l := by
  induction l generalizing c c' with
  | nil => trivial
  | cons q t ih =>
    have hq := hb q List.mem_cons_self
    refine ⟨hq.1, h.2.1, hq.2, ih h.2.2.2 fun p hp => ?_⟩
    have := asc_mem h.2.2.2 hp
    exact ⟨by omega, (hb p (List.mem_cons_of_mem _ hp)).2⟩
theorem asc_high {c d d' : Int} {l : List (Int × Int)} (h : asc c d l) (hd : d ≤ d') : asc c d' l :=
  asc_bound h fun p hp => by have := asc_mem h hp; omega
theorem asc_has {c d : Int} {l : List (Int × Int)} (h : asc c d l) {n : Int} (hn : G.hasB l n = true) : c ≤ n ∧ n ≤ d := by
  unfold G.hasB at hn
  rw [List.any_eq_true] at hn
  obtain ⟨p, hp, hn⟩ := hn
  have := asc_mem h hp
  simp only [Bool.and_eq_true, decide_eq_true_eq] at hn
  omega
theorem asc_size {c d : Int} {l : List (Int × Int)} (h : asc c d l) (h0 : 0 ≤ c) (N : Nat) (hN : d < N) : G.sizeL l = G.cnt (G.hasB l) N := by
  induction l generalizing c with
  | nil => rw [show G.hasB [] = fun _ => false from rfl, G.cnt_none]; rfl
  | cons r t ih =>
    obtain ⟨x, y⟩ := r
    obtain ⟨h1, h2, h3, h4⟩ := h
    simp only at h1 h2 h3 h4
    have e := ih h4 (by omega)
    have o := G.cnt_or (fun n => decide (x ≤ n) && decide (n ≤ y)) (G.hasB t) N
    have z : G.cnt (fun n => (decide (x ≤ n) && decide (n ≤ y)) && G.hasB t n) N = 0 := by
      rw [← G.cnt_none N]
      refine G.cnt_congr N fun n _ _ => ?_
      by_cases hh : G.hasB t n = true
      · have := asc_has h4 hh
        rw [decide_eq_false (show ¬ n ≤ y by omega)]; simp
      · simp [hh]
    have s : G.cnt (G.hasB ((x, y) :: t)) N = G.cnt (fun n => (decide (x ≤ n) && decide (n ≤ y)) || G.hasB t n) N := G.cnt_congr N fun n _ _ => G.hasB_cons _ _ _
    rw [G.sizeL, e, s]
    rw [z, G.cnt_run x y N (by omega), if_neg (by omega), if_neg (by omega), if_neg (by omega)] at o
    simp only; omega
/-- how many of the ranges a number is of -/
def hits (n : Int) (l : List (Int × Int)) : Nat := l.countP fun r => decide (r.1 ≤ n) && decide (n ≤ r.2)
theorem asc_hits {c d : Int} {l : List (Int × Int)} (h : asc c d l) (n : Int) : hits n l = if G.hasB l n = true then 1 else 0 := by
  induction l generalizing c with
  | nil => rfl
  | cons r t ih =>
    have e := ih h.2.2.2
    unfold hits at e ⊢
    rw [List.countP_cons, e, G.hasB_cons]
    by_cases h1 : (decide (r.1 ≤ n) && decide (n ≤ r.2)) = true
    · have h2 : ¬ G.hasB t n = true := fun hh => by
        have := asc_has h.2.2.2 hh
        simp only [Bool.and_eq_true, decide_eq_true_eq] at h1
        omega
      simp [h1, h2]
    · simp [h1]

theorem hasB_flat (l : List (Int × Int)) (f : Int × Int → List (Int × Int)) (n : Int) : G.hasB (l.flatMap f) n = l.any fun r => G.hasB (f r) n := by
  simp [G.hasB, List.any_flatMap]

/-! ### To split -/
def step (k : Int) : Prop := k = 64 ∨ k = 4096 ∨ k = 262144
theorem mem_cut {k : Int} {r p : Int × Int} (h : p ∈ cutL k r) :
    (r.1 / k = r.2 / k ∧ p = r) ∨ (r.1 / k ≠ r.2 / k ∧ p.1 ≤ p.2 ∧ (p = (r.1, (r.1 + k - 1) / k * k - 1) ∨ p = ((r.1 + k - 1) / k * k, (r.2 + 1) / k * k - 1) ∨ p = ((r.2 + 1) / k * k, r.2))) := by
  unfold cutL at h
  split at h
  · next c => exact .inl ⟨c, by simpa using h⟩
  · next c =>
    rw [List.mem_filter] at h
    refine .inr ⟨c, of_decide_eq_true h.2, ?_⟩
    simpa using h.1
theorem asc_three {c a b d : Int} (h1 : c ≤ a) (h2 : a ≤ b) (h3 : b ≤ d + 1) : asc c d ([(c, a - 1), (a, b - 1), (b, d)].filter fun p => decide (p.1 ≤ p.2)) := by
  by_cases a1 : c ≤ a - 1 <;> by_cases a2 : a ≤ b - 1 <;> by_cases a3 : b ≤ d <;> simp [List.filter_cons, asc, a1, a2, a3] <;> omega
theorem cut_asc {k : Int} (hk : step k) {r : Int × Int} (h0 : 0 ≤ r.1) (h1 : r.1 ≤ r.2) : asc r.1 r.2 (cutL k r) := by
  unfold cutL
  split
  · exact ⟨by omega, h1, by omega, trivial⟩
  · next c =>
    obtain ⟨x, y⟩ := r
    simp only at *
    refine asc_three ?_ ?_ ?_ <;> rcases hk with rfl | rfl | rfl <;> omega
theorem cut_has {k : Int} (hk : step k) {r : Int × Int} (h0 : 0 ≤ r.1) (h1 : r.1 ≤ r.2) (n : Int) : G.hasB (cutL k r) n = (decide (r.1 ≤ n) && decide (n ≤ r.2)) := by
  unfold cutL
  split
  · rw [show r = (r.1, r.2) from rfl, G.hasB_one]
  · next c =>
    obtain ⟨x, y⟩ := r
    simp only at *
    unfold G.hasB
    rw [List.any_filter, Bool.eq_iff_iff]
    simp only [List.any_cons, List.any_nil, Bool.or_false, Bool.and_eq_true, Bool.or_eq_true, decide_eq_true_eq]
    rcases hk with rfl | rfl | rfl <;> omega
/-- the numbers of a range have, by k, all the rests or one first part -/
def even (k : Int) (p : Int × Int) : Prop := p.1 / k = p.2 / k ∨ (p.1 % k = 0 ∧ p.2 % k = k - 1)
theorem cut_even {k : Int} (hk : step k) {r p : Int × Int} (h0 : 0 ≤ r.1) (h1 : r.1 ≤ r.2) (h : p ∈ cutL k r) : even k p := by
  obtain ⟨x, y⟩ := r
  obtain ⟨u, v⟩ := p
  unfold even
  rcases mem_cut h with ⟨c, e⟩ | ⟨c, h2, e | e | e⟩
  · simp only [Prod.mk.injEq] at *; left; rw [e.1, e.2]; exact c
  all_goals
    simp only [Prod.mk.injEq] at *
    rcases hk with rfl | rfl | rfl <;> omega
/-- what is even by more stays so -/
theorem cut_keep {k m : Int} (hk : (k = 64 ∧ m = 4096) ∨ (k = 64 ∧ m = 262144) ∨ (k = 4096 ∧ m = 262144)) {r p : Int × Int} (h0 : 0 ≤ r.1) (h1 : r.1 ≤ r.2) (he : even m r) (h : p ∈ cutL k r) : even m p := by
  obtain ⟨x, y⟩ := r
  obtain ⟨u, v⟩ := p
  unfold even at *
  rcases mem_cut h with ⟨c, e⟩ | ⟨c, h2, e | e | e⟩
  · simp only [Prod.mk.injEq] at *; rw [e.1, e.2]; exact he
  all_goals
    simp only [Prod.mk.injEq] at *
    rcases hk with ⟨rfl, rfl⟩ | ⟨rfl, rfl⟩ | ⟨rfl, rfl⟩ <;> omega

theorem split_asc {k : Int} (hk : step k) {c d : Int} {l : List (Int × Int)} (h0 : 0 ≤ c) (h : asc c d l) : asc c d (splitL k l) :=
  asc_flat h fun r hr => by have := asc_mem h hr; exact cut_asc hk (by omega) this.2.1
theorem split_has {k : Int} (hk : step k) {c d : Int} {l : List (Int × Int)} (h0 : 0 ≤ c) (h : asc c d l) (n : Int) : G.hasB (splitL k l) n = G.hasB l n := by
  unfold splitL
  rw [hasB_flat]
  unfold G.hasB
  rw [Bool.eq_iff_iff, List.any_eq_true, List.any_eq_true]
  constructor
  · rintro ⟨p, hp, e⟩
    have := asc_mem h hp
    have e2 := cut_has hk (r := p) (by omega) this.2.1 n
    unfold G.hasB at e2
    exact ⟨p, hp, by rw [← e2]; exact e⟩
  · rintro ⟨p, hp, e⟩
    have := asc_mem h hp
    have e2 := cut_has hk (r := p) (by omega) this.2.1 n
    unfold G.hasB at e2
    exact ⟨p, hp, by rw [e2]; exact e⟩
theorem split_even {k : Int} (hk : step k) {c d : Int} {l : List (Int × Int)} (h0 : 0 ≤ c) (h : asc c d l) {p : Int × Int} (hp : p ∈ splitL k l) : even k p := by
  obtain ⟨r, hr, hp⟩ := List.mem_flatMap.1 hp
  have := asc_mem h hr
  exact cut_even hk (by omega) this.2.1 hp
theorem split_keep {k m : Int} (hk : (k = 64 ∧ m = 4096) ∨ (k = 64 ∧ m = 262144) ∨ (k = 4096 ∧ m = 262144)) {c d : Int} {l : List (Int × Int)} (h0 : 0 ≤ c) (h : asc c d l) (he : ∀ r ∈ l, even m r) {p : Int × Int} (hp : p ∈ splitL k l) : even m p := by
  obtain ⟨r, hr, hp⟩ := List.mem_flatMap.1 hp
  have := asc_mem h hr
  exact cut_keep hk (by omega) this.2.1 (he r hr) hp

theorem clip_asc (w r : Int × Int) : asc w.1 w.2 (clipW w r) := by
  unfold clipW
  split
  · refine ⟨?_, ?_, ?_, trivial⟩ <;> dsimp only <;> omega
  · trivial
theorem clip_in (w r : Int × Int) : ∀ p ∈ clipW w r, r.1 ≤ p.1 ∧ p.2 ≤ r.2 := by
  unfold clipW
  split
  · intro p hp; simp at hp; subst hp; simp only; omega
  · intro p hp; cases hp
theorem clip_has (w r : Int × Int) (n : Int) : G.hasB (clipW w r) n = ((decide (w.1 ≤ n) && decide (n ≤ w.2)) && (decide (r.1 ≤ n) && decide (n ≤ r.2))) := by
  unfold clipW
  split
  · rw [G.hasB_one, Bool.eq_iff_iff]; simp only [Bool.and_eq_true, decide_eq_true_eq]; omega
  · rw [G.hasB_nil, Bool.eq_iff_iff]; simp only [Bool.and_eq_true, decide_eq_true_eq, Bool.false_eq_true, false_iff]; omega

theorem st64 : step 64 := .inl rfl
theorem st4096 : step 4096 := .inr (.inl rfl)
theorem st262144 : step 262144 := .inr (.inr rfl)

/-- what is true of the pieces of a width -/
structure Fine (w : (Int × Int) × List Int) (r : Int × Int) : Prop where
  hasc : asc w.1.1 w.1.2 (piecesL w r)
  hin : ∀ p ∈ piecesL w r, r.1 ≤ p.1 ∧ p.2 ≤ r.2
  hhas : ∀ n, G.hasB (piecesL w r) n = ((decide (w.1.1 ≤ n) && decide (n ≤ w.1.2)) && (decide (r.1 ≤ n) && decide (n ≤ r.2)))
  heven : ∀ p ∈ piecesL w r, ∀ k ∈ w.2, even k p

theorem split_in {k : Int} (hk : step k) {c d : Int} {l : List (Int × Int)} (h0 : 0 ≤ c) (h : asc c d l) {x y : Int} (hb : ∀ p ∈ l, x ≤ p.1 ∧ p.2 ≤ y) : ∀ p ∈ splitL k l, x ≤ p.1 ∧ p.2 ≤ y := by
  intro p hp
  obtain ⟨r, hr, hp⟩ := List.mem_flatMap.1 hp
  have h1 := asc_mem h hr
  have h2 := hb r hr
  have h3 := asc_mem (cut_asc hk (r := r) (by omega) h1.2.1) hp
  omega

theorem fine0 (w r : Int × Int) (h0 : 0 ≤ w.1) : Fine (w, []) r :=
  ⟨clip_asc w r, clip_in w r, clip_has w r, fun p hp k hk => by cases hk⟩
theorem fine1 (w r : Int × Int) (h0 : 0 ≤ w.1) : Fine (w, [64]) r := by
  have a := clip_asc w r
  refine ⟨split_asc st64 h0 a, split_in st64 h0 a (clip_in w r), fun n => ?_, fun p hp k hk => ?_⟩
  · exact (split_has st64 h0 a n).trans (clip_has w r n)
  · simp at hk; subst hk; exact split_even st64 h0 a hp
theorem fine2 (w r : Int × Int) (h0 : 0 ≤ w.1) : Fine (w, [4096, 64]) r := by
  have a := clip_asc w r
  have a1 := split_asc st4096 h0 a
  refine ⟨split_asc st64 h0 a1, split_in st64 h0 a1 (split_in st4096 h0 a (clip_in w r)), fun n => ?_, fun p hp k hk => ?_⟩
  · exact (split_has st64 h0 a1 n).trans ((split_has st4096 h0 a n).trans (clip_has w r n))
  · simp at hk
    rcases hk with rfl | rfl
    · exact split_keep (.inl ⟨rfl, rfl⟩) h0 a1 (fun q hq => split_even st4096 h0 a hq) hp
    · exact split_even st64 h0 a1 hp
theorem fine3 (w r : Int × Int) (h0 : 0 ≤ w.1) : Fine (w, [262144, 4096, 64]) r := by
  have a := clip_asc w r
  have a1 := split_asc st262144 h0 a
  have a2 := split_asc st4096 h0 a1
  refine ⟨split_asc st64 h0 a2, split_in st64 h0 a2 (split_in st4096 h0 a1 (split_in st262144 h0 a (clip_in w r))), fun n => ?_, fun p hp k hk => ?_⟩
  · exact (split_has st64 h0 a2 n).trans ((split_has st4096 h0 a1 n).trans ((split_has st262144 h0 a n).trans (clip_has w r n)))
  · simp at hk
    rcases hk with rfl | rfl | rfl
    · exact split_keep (.inr (.inl ⟨rfl, rfl⟩)) h0 a2 (fun q hq => split_keep (.inr (.inr ⟨rfl, rfl⟩)) h0 a1 (fun q hq => split_even st262144 h0 a hq) hq) hp
    · exact split_keep (.inl ⟨rfl, rfl⟩) h0 a2 (fun q hq => split_even st4096 h0 a1 hq) hp
    · exact split_even st64 h0 a2 hp

theorem fineW (w : (Int × Int) × List Int) (hw : w ∈ widthL) (r : Int × Int) : Fine w r := by
  simp only [widthL, List.mem_cons, List.not_mem_nil, or_false] at hw
  rcases hw with rfl | rfl | rfl | rfl | rfl
  · exact fine0 _ _ (by decide)
  · exact fine1 _ _ (by decide)
  · exact fine2 _ _ (by decide)
  · exact fine2 _ _ (by decide)
  · exact fine3 _ _ (by decide)

theorem one_eq (r : Int × Int) : oneL r = piecesL ((0, 127), []) r ++ (piecesL ((128, 2047), [64]) r ++ (piecesL ((2048, 55295), [4096, 64]) r ++ (piecesL ((57344, 65535), [4096, 64]) r ++ piecesL ((65536, 1114111), [262144, 4096, 64]) r))) := by
  simp [oneL, widthL]

theorem one_asc (r : Int × Int) : asc r.1 r.2 (oneL r) := by
  have f0 := fine0 (0, 127) r (by decide)
  have f1 := fine1 (128, 2047) r (by decide)
  have f2 := fine2 (2048, 55295) r (by decide)
  have f3 := fine2 (57344, 65535) r (by decide)
  have f4 := fine3 (65536, 1114111) r (by decide)
  have all : asc 0 1114111 (oneL r) := by
    rw [one_eq]
    exact asc_append f0.hasc (asc_append f1.hasc (asc_append (asc_high f2.hasc (d' := 57343) (by decide)) (asc_append f3.hasc f4.hasc (by decide) (by decide)) (by decide) (by decide)) (by decide) (by decide)) (by decide) (by decide)
  refine asc_bound all fun p hp => ?_
  obtain ⟨w, hw, hp⟩ := List.mem_flatMap.1 hp
  exact (fineW w hw r).hin p hp

theorem one_has (r : Int × Int) (n : Int) : G.hasB (oneL r) n = (U.mayB n && (decide (r.1 ≤ n) && decide (n ≤ r.2))) := by
  have f0 := fine0 (0, 127) r (by decide)
  have f1 := fine1 (128, 2047) r (by decide)
  have f2 := fine2 (2048, 55295) r (by decide)
  have f3 := fine2 (57344, 65535) r (by decide)
  have f4 := fine3 (65536, 1114111) r (by decide)
  rw [one_eq]
  simp only [G.hasB_append, f0.hhas, f1.hhas, f2.hhas, f3.hhas, f4.hhas]
  rw [Bool.eq_iff_iff]
  simp only [Bool.or_eq_true, Bool.and_eq_true, decide_eq_true_eq, U.may_iff]
  omega

theorem may_asc {least : Int} {l : List (Int × Int)} (h : G.mayFrom least l = true) : asc least 1114111 l := by
  induction l generalizing least with
  | nil => trivial
  | cons r t ih =>
    rw [G.mayFrom_cons] at h
    exact ⟨h.1, h.2.1, h.2.2.1, asc_low (ih h.2.2.2) (by omega)⟩
theorem parts_asc {N : List (Int × Int)} (h : G.mayB N = true) : asc 0 1114111 (partsL N) := asc_flat (may_asc h) fun r _ => one_asc r
theorem parts_has (N : List (Int × Int)) (n : Int) : G.hasB (partsL N) n = (U.mayB n && G.hasB N n) := by
  unfold partsL
  rw [hasB_flat]
  simp only [one_has]
  unfold G.hasB
  cases U.mayB n <;> simp

/-- a piece, of which width, and even by what that splits at -/
theorem parts_mem {N : List (Int × Int)} {p : Int × Int} (hp : p ∈ partsL N) : p.1 ≤ p.2 ∧ (
    (0 ≤ p.1 ∧ p.2 ≤ 127) ∨ (128 ≤ p.1 ∧ p.2 ≤ 2047 ∧ even 64 p) ∨ (((2048 ≤ p.1 ∧ p.2 ≤ 55295) ∨ (57344 ≤ p.1 ∧ p.2 ≤ 65535)) ∧ even 4096 p ∧ even 64 p) ∨
    (65536 ≤ p.1 ∧ p.2 ≤ 1114111 ∧ even 262144 p ∧ even 4096 p ∧ even 64 p)) := by
  obtain ⟨r, hr, hp⟩ := List.mem_flatMap.1 hp
  obtain ⟨w, hw, hp⟩ := List.mem_flatMap.1 hp
  have f := fineW w hw r
  have b := asc_mem f.hasc hp
  have e := f.heven p hp
  refine ⟨b.2.1, ?_⟩
  simp only [widthL, List.mem_cons, List.not_mem_nil, or_false] at hw
  rcases hw with rfl | rfl | rfl | rfl | rfl
  · exact .inl ⟨b.1, b.2.2⟩
  · exact .inr (.inl ⟨b.1, b.2.2, e 64 (by simp)⟩)
  · exact .inr (.inr (.inl ⟨.inl ⟨b.1, b.2.2⟩, e 4096 (by simp), e 64 (by simp)⟩))
  · exact .inr (.inr (.inl ⟨.inr ⟨b.1, b.2.2⟩, e 4096 (by simp), e 64 (by simp)⟩))
  · exact .inr (.inr (.inr ⟨b.1, b.2.2, e 262144 (by simp), e 4096 (by simp), e 64 (by simp)⟩))

end Go.Proofs.YtejipaapbfjooaaDoor.Q
