/- Parts of the proof of NullTells that stand ahead of it (2: RdMath, FlMath, NlMath). -/
import GoSem.ClaimWide
import Derived.Test.YtnfgobgflcmepaaGreatDoorNullTellsM1
set_option linter.unusedVariables false
set_option linter.unusedSimpArgs false
set_option maxRecDepth 20000
set_option maxHeartbeats 16000000
namespace Go.Proofs.YtnfgobgflcmepaaGreatDoor.R
open Go.Proofs.YtnfgobgflcmepaaGreatDoor.T
abbrev TN := Tk × Nat
abbrev PT := DataW (Int × List Int × List (Int × Int) × Int)
def mk (k : Int) (t : List Int) (R : List (Int × Int)) (L : List PT) (q : Int) : PT := .agg (.held (k, t, R, q) :: L)
def atP : PT → Int
 | .agg (.held h :: _) => h.2.2.2
 | _ => 0
@[simp] theorem at_mk (k : Int) (t : List Int) (R : List (Int × Int)) (L : List PT) (q : Int) : atP (mk k t R L q) = q := rfl
theorem mk_inj {k k' : Int} {t t' : List Int} {R R' : List (Int × Int)} {L L' : List PT} {q q' : Int} (h : mk k t R L q = mk k' t' R' L' q') : k = k' ∧ t = t' ∧ R = R' ∧ L = L' ∧ q = q' := by
 unfold mk at h
 simp at h
 exact ⟨h.1.1, h.1.2.1, h.1.2.2.1, h.2, h.1.2.2.2⟩
abbrev Res (α : Type) := Sum (Nat × Int) (α × List TN)
def e0 : TN := ((-1, [], []), 0)
def hd (r : List TN) : TN := r.headD e0
def kd (r : List TN) : Int := (hd r).1.1
def tx (r : List TN) : List Int := (hd r).1.2.1
def rg (r : List TN) : List (Int × Int) := (hd r).1.2.2
def pl (r : List TN) : Nat := (hd r).2
def isS (r : List TN) (c : Int) : Bool := decide (kd r = 4 ∧ tx r = [c])
def ZV (k : Int) (l : List PT) (q : Int) : PT :=
 match l with
 | [p] => p
 | l => mk k [] [] l q
def oftK (r : List TN) : Option Int := if isS r 42 then some 6 else if isS r 43 then some 7 else if isS r 63 then some 8 else none
def oft (p : PT) (r : List TN) : PT × List TN :=
 match oftK r with
 | some k => (mk k [] [] [p] (atP p), r.tail)
 | none => (p, r)
def vo (grp : List TN → Res PT) (r : List TN) : Option (Res PT) :=
 if kd r = 0 then some (.inr (mk 0 (tx r) [] [] (pl r), r.tail))
 else if kd r = 1 then some (.inr (mk 1 (tx r) [] [] (pl r), r.tail))
 else if kd r = 2 then some (.inr (mk 2 [] (rg r) [] (pl r), r.tail))
 else if kd r = 3 then some (.inr (mk 3 [] (rg r) [] (pl r), r.tail))
 else if isS r 40 then some (grp r)
 else none
def seqF (grp : List TN → Res PT) : Nat → Int → List PT → List TN → Res PT
 | 0, q, acc, r => .inr (ZV 4 acc q, r)
 | f + 1, q, acc, r =>
  match vo grp r with
  | none => .inr (ZV 4 acc q, r)
  | some (.inl e) => .inl e
  | some (.inr (p, r1)) => seqF grp f q (acc ++ [(oft p r1).1]) (oft p r1).2
def seqL (grp : List TN → Res PT) (r : List TN) : Res PT := seqF grp r.length (pl r) [] r
def altF (grp : List TN → Res PT) : Nat → PT → List PT → List TN → Res PT
 | 0, p0, acc, r => .inr (ZV 5 acc (atP p0), r)
 | f + 1, p0, acc, r =>
  if isS r 124 then
   match seqL grp r.tail with
   | .inl e => .inl e
   | .inr (p, r1) => altF grp f p0 (acc ++ [p]) r1
  else .inr (ZV 5 acc (atP p0), r)
def altL (grp : List TN → Res PT) (r : List TN) : Res PT :=
 match seqL grp r with
 | .inl e => .inl e
 | .inr (p, r1) => altF grp r.length p [p] r1
def closeL : Res PT → Res PT
 | .inl e => .inl e
 | .inr (p, r) => if isS r 41 then .inr (p, r.tail) else .inl (pl r, 3)
def jw : Nat → List TN → Res PT
 | 0, r => .inl (pl r, 4)
 | d + 1, r => closeL (altL (jw d) r.tail)
def kK : Nat → List (List Int) → List TN → Res (List (List Int))
 | 0, acc, r => .inl (pl r, 3)
 | f + 1, acc, r =>
  if kd r = 1 then
   if acc.length = 8 then .inl (pl r, 7) else kK f (acc ++ [tx r]) r.tail
  else if acc = [] then .inl (pl r, 3)
  else if isS r 59 then .inr (acc, r.tail) else .inl (pl r, 3)
def keysL (r : List TN) : Res (List (List Int)) := if isS r 37 then kK r.length [] r.tail else .inr ([], r)
def bitOf (t : List Int) : Nat :=
 if t = [108, 111, 110, 103] then 1 else if t = [114, 101, 115] then 2 else if t = [111, 102, 102] then 4
 else if t = [98, 108, 111, 99, 107] then 8 else if t = [97, 108, 105, 103, 110] then 16 else if t = [115, 121, 110, 99] then 32 else 0
def XK : Nat → Nat → List TN → Nat × List TN
 | 0, b, r => (b, r)
 | f + 1, b, r => if kd r = 5 then XK f (b ||| bitOf (tx r)) r.tail else (b, r)
def jv (r : List TN) : Nat × List TN := XK r.length 0 r
def notL (r : List TN) : Res (List (Int × Int)) :=
 if isS r 47 then (if kd r.tail = 2 then .inr (rg r.tail, r.tail.tail) else .inl (pl r.tail, 3)) else .inr ([], r)
abbrev RU := List Int × Int × PT × List (Int × Int) × Int
def kq (n : Nat) (r : List TN) : Res RU :=
 let m := jv r
 if kd m.2 = 0 then
  if n = 16 then .inl (pl m.2, 7)
  else if isS m.2.tail 61 then
   match altL (jw 12) m.2.tail.tail with
   | .inl e => .inl e
   | .inr (p, r1) =>
    match notL r1 with
    | .inl e => .inl e
    | .inr (N, r2) => if isS r2 59 then .inr ((tx m.2, (m.1 : Int), p, N, ((pl m.2 : Nat) : Int)), r2.tail) else .inl (pl r2, 3)
  else .inl (pl m.2.tail, 3)
 else .inl (pl m.2, 3)
def xW : Nat → List RU → List TN → Res (List RU)
 | 0, acc, r => .inl (pl r, 3)
 | f + 1, acc, r =>
  if acc ≠ [] ∧ kd r = -1 then .inr (acc, r)
  else
   match kq acc.length r with
   | .inl e => .inl e
   | .inr (u, r1) => xW f (acc ++ [u]) r1
def YV (r : List TN) : Sum (Nat × Int) (List (List Int) × List RU) :=
 match keysL r with
 | .inl e => .inl e
 | .inr (k, r1) =>
  match xW (r.length + 1) [] r1 with
  | .inl e => .inl e
  | .inr (l, _) => .inr (k, l)
def fileL (s : List Int) : Sum (Nat × Int) (List (List Int) × List RU) :=
 match xw s with
 | .inl e => .inl e
 | .inr ts => YV (ts ++ [((-1, [], []), s.length)])
/-! ### How much is left -/
theorem qz {r : List TN} (h : r ≠ []) : r.tail.length < r.length := by
 cases r with
 | nil => exact absurd rfl h
 | cons x r => simp
theorem xu (p : PT) (r : List TN) : (oft p r).2.length ≤ r.length := by
 unfold oft
 split
 ·simp; try omega
 ·exact Nat.le_refl _
def Ends (r : List TN) : Prop := ∃ i n, r = i ++ [((-1, [], []), n)] ∧ n ≤ 1000000 ∧ ∀ x ∈ i, okT x.1 ∧ x.2 ≤ 1000000
theorem Ends.ne {r : List TN} (h : Ends r) : r ≠ [] := by
 obtain ⟨i, n, rfl, -, -⟩ := h
 simp
theorem Ends.tail {r : List TN} (h : Ends r) (hk : kd r ≠ -1) : Ends r.tail := by
 obtain ⟨i, n, rfl, hn, h⟩ := h
 cases i with
 | nil => exact absurd rfl hk
 | cons x i => exact ⟨i, n, rfl, hn, fun y hy => h y (List.mem_cons_of_mem _ hy)⟩
theorem Ends.pl {r : List TN} (h : Ends r) : pl r ≤ 1000000 := by
 obtain ⟨i, n, rfl, hn, h⟩ := h
 cases i with
 | nil => exact hn
 | cons x i => exact (h x (List.mem_cons_self ..)).2
theorem isS_kd {r : List TN} {c : Int} (h : isS r c = true) : kd r = 4 := (of_decide_eq_true h).1
theorem isS_tx {r : List TN} {c : Int} (h : isS r c = true) : tx r = [c] := (of_decide_eq_true h).2
theorem Ends.sign {r : List TN} (h : Ends r) {c : Int} (hs : isS r c = true) : Ends r.tail := h.tail (by rw [isS_kd hs]; decide)
theorem Ends.oft {r : List TN} (h : Ends r) (p : PT) : Ends (oft p r).2 := by
 unfold R.oft oftK
 by_cases h1 : isS r 42 = true
 ·rw [if_pos h1]; exact h.sign h1
 ·rw [if_neg h1]
  by_cases h2 : isS r 43 = true
  ·rw [if_pos h2]; exact h.sign h2
  ·rw [if_neg h2]
   by_cases h3 : isS r 63 = true
   ·rw [if_pos h3]; exact h.sign h3
   ·rw [if_neg h3]; exact h
end Go.Proofs.YtnfgobgflcmepaaGreatDoor.R
namespace Go.Proofs.YtnfgobgflcmepaaGreatDoor.F
open Go.Proofs.YtnfgobgflcmepaaGreatDoor.T Go.Proofs.YtnfgobgflcmepaaGreatDoor.R
abbrev SY := Int × List (Int × Int) × Int
abbrev PRD := List (List SY) × Int × List (Int × Int)
def kdP : PT → Int
 | .agg (.held h :: _) => h.1
 | _ => 0
def txP : PT → List Int
 | .agg (.held h :: _) => h.2.1
 | _ => []
def rgP : PT → List (Int × Int)
 | .agg (.held h :: _) => h.2.2.1
 | _ => []
def psP : PT → List PT
 | .agg (.held _ :: l) => l
 | _ => []
@[simp] theorem kd_mk (k : Int) (t : List Int) (R : List (Int × Int)) (L : List PT) (q : Int) : kdP (mk k t R L q) = k := rfl
@[simp] theorem tx_mk (k : Int) (t : List Int) (R : List (Int × Int)) (L : List PT) (q : Int) : txP (mk k t R L q) = t := rfl
@[simp] theorem rg_mk (k : Int) (t : List Int) (R : List (Int × Int)) (L : List PT) (q : Int) : rgP (mk k t R L q) = R := rfl
@[simp] theorem ps_mk (k : Int) (t : List Int) (R : List (Int × Int)) (L : List PT) (q : Int) : psP (mk k t R L q) = L := rfl
structure Mk where
 made : List PRD
 left : Int
 pl : Int
 why : Int
def Mk.stop (m : Mk) (q y : Int) : Mk := if m.why = 0 then ⟨m.made, m.left, q, y⟩ else m
def jW (l : List SY) (s : SY) : List SY := if 40 < l.length then l else l ++ [s]
def longB (l : List SY) : Bool := decide (40 < l.length)
def YK (a : List (List SY)) : Bool := decide (1 ≤ a.length) && (decide (a.length ≤ 8) && !(a.any longB))
def setA : List PRD → Nat → List (List SY) → List PRD
 | [], _, _ => []
 | p :: l, 0, a => (a, p.2) :: l
 | p :: l, n + 1, a => p :: setA l n a
theorem setA_len (a : List (List SY)) : ∀ (l : List PRD) (n : Nat), (setA l n a).length = l.length := by
 intro l
 induction l with
 | nil => intro n; rfl
 | cons p l ih =>
  intro n
  cases n with
  | zero => rfl
  | succ n => simp [setA, ih n]
def Mk.fin (m : Mk) (n : Nat) (q : Int) (a : List (List SY)) : Mk :=
 if YK a then ⟨setA m.made n a, m.left, m.pl, m.why⟩ else ⟨setA (m.stop q 7).made n a, (m.stop q 7).left, (m.stop q 7).pl, (m.stop q 7).why⟩
def idx (x : List Int) : List (List Int) → Nat → Option Nat
 | [], _ => none
 | y :: l, i => if x = y then some i else idx x l (i + 1)
def callS (ns : List (List Int)) (m : Mk) (l : List SY) (p : PT) : Mk × List SY :=
 match idx (txP p) ns 0 with
 | some n => (m, jW l (2, [], (n : Int)))
 | none => (m.stop (atP p) 5, jW l (2, [], 0))
def vY : List Int → List SY → List SY
 | [], l => l
 | c :: t, l => if 40 < l.length then l else vY t (jW l (0, [(c, c)], 0))
abbrev PF := Mk → List SY → PT → Mk × List SY
def Za (f : PF) : List PT → Mk → List SY → Mk × List SY
 | [], m, l => (m, l)
 | p :: ps, m, l => if m.why ≠ 0 then (m, l) else Za f ps (f m l p).1 (f m l p).2
def qu (f : PF) : List PT → Mk → List (List SY) → Mk × List (List SY)
 | [], m, a => (m, a)
 | p :: ps, m, a => if m.why ≠ 0 then (m, a) else qu f ps (f m [] p).1 (if a.length ≤ 8 then a ++ [(f m [] p).2] else a)
def xV (f : PF) (p : PT) (m : Mk) : Mk × List SY :=
 match psP p with
 | [x] => f m [] x
 | _ => (m.stop (atP p) 7, [])
def ke (f : PF) (p : PT) (n : Nat) (m : Mk) : Mk × List (List SY) :=
 if kdP p = 5 then qu f (psP p) m []
 else if kdP p = 6 then ((xV f p m).1, [jW (xV f p m).2 (2, [], (n : Int)), []])
 else if kdP p = 7 then ((xV f p m).1, [jW (xV f p m).2 (2, [], (n : Int)), (xV f p m).2])
 else ((xV f p m).1, [(xV f p m).2, []])
def kw (f : PF) (m : Mk) (l : List SY) (p : PT) : Mk × List SY :=
 if m.made.length = 60 then (m.stop (atP p) 7, l)
 else (((ke f p m.made.length ⟨m.made ++ [([], 0, [])], m.left, m.pl, m.why⟩).1).fin m.made.length (atP p) (ke f p m.made.length ⟨m.made ++ [([], 0, [])], m.left, m.pl, m.why⟩).2, jW l (2, [], (m.made.length : Int)))
def jo (ns : List (List Int)) (f : PF) : PF := fun m l p =>
 if kdP p = 0 then callS ns m l p
 else if kdP p = 1 then (m, vY (txP p) l)
 else if kdP p = 2 then (m, jW l (1, rgP p, 0))
 else if kdP p = 3 then (m, jW l (0, rgP p, 0))
 else if kdP p = 4 then Za f (psP p) m l
 else kw f m l p
def zX (ns : List (List Int)) : Nat → Int → PF
 | 0, _ => fun m l _ => (m, l)
 | n + 1, d => fun m l p =>
  if kdP p < 0 ∨ 9 ≤ kdP p ∨ d = 131072 ∨ m.left = 0 then (m.stop (atP p) 7, l)
  else jo ns (zX ns n (d + 1)) ⟨m.made, m.left - 1, m.pl, m.why⟩ l p
def kj (ns : List (List Int)) (n : Nat) (p : PT) (m : Mk) : Mk × List (List SY) :=
 if kdP p = 5 then qu (zX ns n 0) (psP p) m [] else ((zX ns n 0 m [] p).1, [(zX ns n 0 m [] p).2])
def Zz (ns : List (List Int)) (n : Nat) : List RU → Nat → Mk → Mk
 | [], _, m => m
 | r :: l, i, m => if m.why ≠ 0 then m else Zz ns n l (i + 1) ((kj ns n r.2.2.1 m).1.fin i (atP r.2.2.1) (kj ns n r.2.2.1 m).2)
def Yv : List RU → List (List Int) → Option Int
 | [], _ => none
 | r :: l, ns => if r.1 ∈ ns then some r.2.2.2.2 else Yv l (ns ++ [r.1])
def begM (l : List RU) : Mk :=
 match Yv l [] with
 | some q => ⟨[], 2147483647, q, 6⟩
 | none => if l.length = 0 ∨ 60 < l.length then ⟨[], 2147483647, 0, 7⟩ else ⟨l.map fun r => ([], r.2.1, r.2.2.2.1), 2147483647, 0, 0⟩
def Yz (n : Nat) (l : List RU) : Mk := Zz (l.map (·.1)) n l 0 (begM l)
theorem rulesM_bad (ns : List (List Int)) (n : Nat) (l : List RU) (i : Nat) (m : Mk) (h : m.why ≠ 0) : Zz ns n l i m = m := by
 cases l with
 | nil => rfl
 | cons r l => unfold Zz; rw [if_pos h]
abbrev GR := List PRD × List (List Int)
def flatL (n : Nat) (f : List (List Int) × List RU) : Sum (Int × Int) GR :=
 if (Yz n f.2).why = 0 then .inr ((Yz n f.2).made, f.1) else .inl ((Yz n f.2).pl, (Yz n f.2).why)
end Go.Proofs.YtnfgobgflcmepaaGreatDoor.F
namespace Go.Proofs.YtnfgobgflcmepaaGreatDoor.Nl
open Go.Proofs.YtnfgobgflcmepaaGreatDoor.F
def nulS (is : List Bool) (s : SY) : Bool := decide (s.1 = 2) && (decide (0 ≤ s.2.2) && is.getD s.2.2.toNat false)
def qa (is : List Bool) (l : List SY) : Bool := l.all (nulS is)
def stepL (P : List PRD) (is : List Bool) : List Bool := P.map fun p => p.1.any (qa is)
def itL (P : List PRD) : Nat → List Bool
 | 0 => List.replicate P.length false
 | k + 1 => stepL P (itL P k)
def nuL (P : List PRD) : List Bool := itL P P.length
def LeB (is js : List Bool) : Prop := ∀ i : Nat, is.getD i false = true → js.getD i false = true
theorem nulS_iff {is : List Bool} {s : SY} : nulS is s = true ↔ s.1 = 2 ∧ 0 ≤ s.2.2 ∧ is.getD s.2.2.toNat false = true := by
 unfold nulS; simp only [Bool.and_eq_true, decide_eq_true_eq]
theorem nulA_iff {is : List Bool} {l : List SY} : qa is l = true ↔ ∀ s ∈ l, nulS is s = true := by
 unfold qa; exact List.all_eq_true
theorem nulA_mono {is js : List Bool} (h : LeB is js) {l : List SY} (hl : qa is l = true) : qa js l = true := by
 rw [nulA_iff] at hl ⊢
 intro s hs
 have := hl s hs
 rw [nulS_iff] at this ⊢
 exact ⟨this.1, this.2.1, h _ this.2.2⟩
theorem step_len (P : List PRD) (is : List Bool) : (stepL P is).length = P.length := by simp [stepL]
theorem it_len (P : List PRD) (k : Nat) : (itL P k).length = P.length := by
 cases k with
 | zero => simp [itL]
 | succ k => exact step_len _ _
theorem step_at {P : List PRD} {is : List Bool} {i : Nat} : (stepL P is).getD i false = true ↔ ∃ p a, P[i]? = some p ∧ a ∈ p.1 ∧ qa is a = true := by
 unfold stepL
 rw [List.getD_eq_getElem?_getD, List.getElem?_map]
 cases h : P[i]? with
 | none => simp
 | some p => simp
theorem step_mono {P : List PRD} {is js : List Bool} (h : LeB is js) : LeB (stepL P is) (stepL P js) := by
 intro i hi
 rw [step_at] at hi ⊢
 obtain ⟨p, a, h1, h2, h3⟩ := hi
 exact ⟨p, a, h1, h2, nulA_mono h h3⟩
theorem it_up (P : List PRD) : ∀ k, LeB (itL P k) (itL P (k + 1)) := by
 intro k
 induction k with
 | zero =>
  intro i hi
  simp only [itL, List.getD_eq_getElem?_getD, List.getElem?_replicate] at hi
  split at hi <;> simp at hi
 | succ k ih => exact step_mono ih
def cntB (l : List Bool) : Nat := l.countP id
theorem cnt_le (l : List Bool) : cntB l ≤ l.length := List.countP_le_length
theorem cnt_lt : ∀ (is js : List Bool), is.length = js.length → LeB is js → is = js ∨ cntB is < cntB js := by
 intro is
 induction is with
 | nil => intro js h _; left; cases js with
  | nil => rfl
  | cons => simp at h
 | cons x is ih =>
  intro js h hl
  cases js with
  | nil => simp at h
  | cons y js =>
   have h0 := hl 0
   have hr : LeB is js := fun i hi => by have := hl (i + 1); simpa using this (by simpa using hi)
   have hx : cntB (x :: is) = cntB is + (if x then 1 else 0) := by unfold cntB; rw [List.countP_cons]; rfl
   have hy : cntB (y :: js) = cntB js + (if y then 1 else 0) := by unfold cntB; rw [List.countP_cons]; rfl
   rcases ih js (by simpa using h) hr with e | e
   ·subst e
    cases x <;> cases y <;> simp at h0 hx hy ⊢ <;> omega
   ·right
    cases x <;> cases y <;> simp at h0 hx hy ⊢ <;> omega
theorem it_fix (P : List PRD) : ∀ k, (∃ j, j < k ∧ itL P (j + 1) = itL P j) ∨ k ≤ cntB (itL P k) := by
 intro k
 induction k with
 | zero => right; exact Nat.zero_le _
 | succ k ih =>
  rcases ih with ⟨j, hj, e⟩ | h
  ·exact .inl ⟨j, by omega, e⟩
  ·rcases cnt_lt (itL P k) (itL P (k + 1)) (by rw [it_len, it_len]) (it_up P k) with e | e
   ·exact .inl ⟨k, by omega, e.symm⟩
   ·right; omega
theorem it_stay {P : List PRD} {j : Nat} (h : itL P (j + 1) = itL P j) : ∀ k, itL P (j + k) = itL P j := by
 intro k
 induction k with
 | zero => rfl
 | succ k ih =>
  show stepL P (itL P (j + k)) = _
  rw [ih]; exact h
theorem nu_fix (P : List PRD) : stepL P (nuL P) = nuL P := by
 obtain ⟨j, hj, e⟩ : ∃ j, j ≤ P.length ∧ itL P (j + 1) = itL P j := by
  rcases it_fix P (P.length + 1) with ⟨j, hj, e⟩ | h
  ·exact ⟨j, by omega, e⟩
  ·have := cnt_le (itL P (P.length + 1)); rw [it_len] at this; omega
 have h1 := it_stay e (P.length - j)
 have h2 := it_stay e (P.length + 1 - j)
 rw [show j + (P.length - j) = P.length by omega] at h1
 rw [show j + (P.length + 1 - j) = P.length + 1 by omega] at h2
 show itL P (P.length + 1) = itL P P.length
 rw [h1, h2]
theorem nu_len (P : List PRD) : (nuL P).length = P.length := it_len _ _
def isN (P : List PRD) (i : Int) : Prop := 0 ≤ i ∧ (nuL P).getD i.toNat false = true
theorem nulS_nu {P : List PRD} {s : SY} : nulS (nuL P) s = true ↔ s.1 = 2 ∧ isN P s.2.2 := nulS_iff
theorem nu_closed {P : List PRD} {i : Nat} {p : PRD} {a : List SY} (hp : P[i]? = some p) (ha : a ∈ p.1) (h : ∀ s ∈ a, s.1 = 2 ∧ isN P s.2.2) : isN P (i : Int) := by
 refine ⟨by omega, ?_⟩
 rw [Int.toNat_natCast, ← nu_fix]
 exact step_at.2 ⟨p, a, hp, ha, nulA_iff.2 fun s hs => nulS_nu.2 (h s hs)⟩
theorem nu_least {P : List PRD} (C : Int → Prop) (hC : ∀ (i : Nat) (p : PRD) (a : List SY), P[i]? = some p → a ∈ p.1 → (∀ s ∈ a, s.1 = 2 ∧ C s.2.2) → C (i : Int)) : ∀ i, isN P i → C i := by
 have key : ∀ k (i : Nat), (itL P k).getD i false = true → C (i : Int) := by
  intro k
  induction k with
  | zero =>
   intro i hi
   simp only [itL, List.getD_eq_getElem?_getD, List.getElem?_replicate] at hi
   split at hi <;> simp at hi
  | succ k ih =>
   intro i hi
   obtain ⟨p, a, h1, h2, h3⟩ := step_at.1 hi
   refine hC i p a h1 h2 fun s hs => ?_
   have := nulS_iff.1 (nulA_iff.1 h3 s hs)
   refine ⟨this.1, ?_⟩
   have := ih _ this.2.2
   rwa [Int.toNat_of_nonneg (by omega)] at this
 intro i hi
 have := key _ _ hi.2
 rwa [Int.toNat_of_nonneg hi.1] at this
/-! ### What is found, as it is known -/
def inE (E : List Int) (s : SY) : Bool := decide (s.1 = 2) && decide (s.2.2 ∈ E)
theorem inE_iff {E : List Int} {s : SY} : inE E s = true ↔ s.1 = 2 ∧ s.2.2 ∈ E := by unfold inE; simp only [Bool.and_eq_true, decide_eq_true_eq]
def jx (E : List Int) : List SY → List SY
 | [] => []
 | s :: l => if inE E s = true then jx E l else s :: l
theorem beh_drop (E : List Int) : ∀ l : List SY, ∃ k, k ≤ l.length ∧ jx E l = l.drop k ∧ ∀ s ∈ l.take k, inE E s = true := by
 intro l
 induction l with
 | nil => exact ⟨0, Nat.le_refl _, rfl, fun s hs => by simp at hs⟩
 | cons x l ih =>
  unfold jx
  by_cases h : inE E x = true
  ·rw [if_pos h]
   obtain ⟨k, hk, e, ha⟩ := ih
   refine ⟨k + 1, by simp; omega, by simpa using e, fun s hs => ?_⟩
   simp at hs
   rcases hs with rfl | hs
   ·exact h
   ·exact ha s hs
  ·rw [if_neg h]
   exact ⟨0, Nat.zero_le _, rfl, fun s hs => by simp at hs⟩
theorem beh_head {E : List Int} : ∀ {l : List SY} {s : SY} {t : List SY}, jx E l = s :: t → inE E s = false := by
 intro l
 induction l with
 | nil => intro s t h; cases h
 | cons x l ih =>
  intro s t h
  unfold jx at h
  by_cases hx : inE E x = true
  ·rw [if_pos hx] at h; exact ih h
  ·rw [if_neg hx] at h
   injection h with h1 h2
   subst h1
   simpa using hx
theorem beh_nil {E : List Int} : ∀ {l : List SY}, jx E l = [] ↔ ∀ s ∈ l, inE E s = true := by
 intro l
 induction l with
 | nil => simp [jx]
 | cons x l ih =>
  unfold jx
  by_cases hx : inE E x = true
  ·rw [if_pos hx, ih]; simp [hx]
  ·rw [if_neg hx]; simp [hx]
def kY (E : List Int) : List SY → List Int
 | [] => []
 | s :: l => if s.1 = 2 then s.2.2 :: (if s.2.2 ∈ E then kY E l else []) else []
abbrev RS := Int × List SY
def xZ : List PRD → Int → List RS
 | [], _ => []
 | p :: l, n => p.1.map (fun a => (n, a)) ++ xZ l (n + 1)
def Rest (P : List PRD) (E : List Int) (r : RS) : Prop := ∃ (i : Nat) (p : PRD) (pre : List SY), r.1 = (i : Int) ∧ P[i]? = some p ∧ pre ++ r.2 ∈ p.1 ∧ ∀ s ∈ pre, inE E s = true
theorem inE_mono {E : List Int} (x : Int) {s : SY} (h : inE E s = true) : inE (E ++ [x]) s = true := by
 rw [inE_iff] at h ⊢; exact ⟨h.1, List.mem_append_left _ h.2⟩
theorem Rest.more {P : List PRD} {E : List Int} {r : RS} (h : Rest P E r) (x : Int) : Rest P (E ++ [x]) r := by
 obtain ⟨i, p, pre, h1, h2, h3, h4⟩ := h
 exact ⟨i, p, pre, h1, h2, h3, fun s hs => inE_mono x (h4 s hs)⟩
theorem Rest.beh {P : List PRD} {E : List Int} {r : RS} (h : Rest P E r) : Rest P E (r.1, jx E r.2) := by
 obtain ⟨i, p, pre, h1, h2, h3, h4⟩ := h
 obtain ⟨k, hk, e, ha⟩ := beh_drop E r.2
 refine ⟨i, p, pre ++ r.2.take k, h1, h2, ?_, fun s hs => ?_⟩
 ·show pre ++ r.2.take k ++ jx E r.2 ∈ p.1
  rw [e, List.append_assoc, List.take_append_drop]; exact h3
 ·rcases List.mem_append.1 hs with hs | hs
  ·exact h4 s hs
  ·exact ha s hs
def Done (P : List PRD) (E : List Int) (next : List RS) (wait : Int → List RS) (i : Nat) (a : List SY) : Prop :=
 (i : Int) ∈ E ∨ (∃ pre left, a = pre ++ left ∧ (∀ s ∈ pre, inE E s = true) ∧ ((i : Int), left) ∈ next) ∨
  (∃ pre s left, a = pre ++ s :: left ∧ (∀ s ∈ pre, inE E s = true) ∧ (s.1 = 2 → s.2.2 ∉ E ∧ ((i : Int), s :: left) ∈ wait s.2.2))
structure Fd (P : List PRD) (E : List Int) (next : List RS) (wait : Int → List RS) : Prop where
 nx : ∀ r ∈ next, Rest P E r
 wt : ∀ m, ∀ r ∈ wait m, Rest P E r
 tr : ∀ x ∈ E, isN P x
 dn : ∀ (i : Nat) (p : PRD) (a : List SY), P[i]? = some p → a ∈ p.1 → Done P E next wait i a
def setW (wait : Int → List RS) (m : Int) (l : List RS) : Int → List RS := fun x => if x = m then l else wait x
theorem Fd.tru {P : List PRD} {E : List Int} {next : List RS} {wait : Int → List RS} (h : Fd P E next wait) {s : SY} (hs : inE E s = true) : s.1 = 2 ∧ isN P s.2.2 := by
 rw [inE_iff] at hs; exact ⟨hs.1, h.tr _ hs.2⟩
theorem Fd.known {P : List PRD} {E : List Int} {next : List RS} {wait : Int → List RS} {r : RS} (h : Fd P E (next ++ [r]) wait) (hr : r.1 ∈ E) : Fd P E next wait := by
 refine ⟨fun x hx => h.nx x (List.mem_append_left _ hx), h.wt, h.tr, fun i p a hp ha => ?_⟩
 rcases h.dn i p a hp ha with h1 | ⟨pre, left, e, h1, h2⟩ | h1
 ·exact .inl h1
 ·rcases List.mem_append.1 h2 with h2 | h2
  ·exact .inr (.inl ⟨pre, left, e, h1, h2⟩)
  ·simp at h2
   refine .inl ?_
   rw [← h2] at hr; exact hr
 ·exact .inr (.inr h1)
theorem Fd.found {P : List PRD} {E : List Int} {next : List RS} {wait : Int → List RS} {r : RS} (h : Fd P E (next ++ [r]) wait) (hr : jx E r.2 = []) : isN P r.1 := by
 obtain ⟨i, p, pre, h1, h2, h3, h4⟩ := h.nx r (by simp)
 rw [h1]
 refine nu_closed h2 h3 fun s hs => ?_
 rcases List.mem_append.1 hs with hs | hs
 ·exact h.tru (h4 s hs)
 ·exact h.tru (beh_nil.1 hr s hs)
theorem Fd.put {P : List PRD} {E : List Int} {next : List RS} {wait : Int → List RS} {r : RS} (h : Fd P E (next ++ [r]) wait) (hr : jx E r.2 = []) : Fd P (E ++ [r.1]) (next ++ wait r.1) wait := by
 have hn := h.found hr
 refine ⟨fun x hx => ?_, fun m x hx => (h.wt m x hx).more _, fun x hx => ?_, fun i p a hp ha => ?_⟩
 ·rcases List.mem_append.1 hx with hx | hx
  ·exact (h.nx x (List.mem_append_left _ hx)).more _
  ·exact (h.wt _ x hx).more _
 ·rcases List.mem_append.1 hx with hx | hx
  ·exact h.tr x hx
  ·simp at hx; subst hx; exact hn
 ·rcases h.dn i p a hp ha with h1 | ⟨pre, left, e, h1, h2⟩ | ⟨pre, s, left, e, h0, h1⟩
  ·exact .inl (List.mem_append_left _ h1)
  ·rcases List.mem_append.1 h2 with h2 | h2
   ·exact .inr (.inl ⟨pre, left, e, fun s hs => inE_mono _ (h1 s hs), List.mem_append_left _ h2⟩)
   ·simp at h2
    refine .inl (List.mem_append_right _ ?_)
    rw [← h2]; simp
  ·have h0' : ∀ s ∈ pre, inE (E ++ [r.1]) s = true := fun s hs => inE_mono _ (h0 s hs)
   by_cases hs : s.1 = 2
   ·obtain ⟨h2, h3⟩ := h1 hs
    by_cases hx : s.2.2 = r.1
    ·exact .inr (.inl ⟨pre, s :: left, e, h0', List.mem_append_right _ (by rw [← hx]; exact h3)⟩)
    ·refine .inr (.inr ⟨pre, s, left, e, h0', fun _ => ⟨fun c => ?_, h3⟩⟩)
     rcases List.mem_append.1 c with c | c
     ·exact h2 c
     ·simp at c; exact hx c
   ·exact .inr (.inr ⟨pre, s, left, e, h0', fun c => absurd c hs⟩)
theorem Fd.stop {P : List PRD} {E : List Int} {next : List RS} {wait : Int → List RS} {r : RS} {s : SY} {t : List SY} (h : Fd P E (next ++ [r]) wait) (hr : jx E r.2 = s :: t) (hs : s.1 ≠ 2) : Fd P E next wait := by
 refine ⟨fun x hx => h.nx x (List.mem_append_left _ hx), h.wt, h.tr, fun i p a hp ha => ?_⟩
 rcases h.dn i p a hp ha with h1 | ⟨pre, left, e, h1, h2⟩ | h1
 ·exact .inl h1
 ·rcases List.mem_append.1 h2 with h2 | h2
  ·exact .inr (.inl ⟨pre, left, e, h1, h2⟩)
  ·simp at h2
   obtain ⟨k, hk, e2, hb⟩ := beh_drop E left
   have e3 : jx E left = s :: t := by rw [← hr, ← h2]
   refine .inr (.inr ⟨pre ++ left.take k, s, t, ?_, fun x hx => ?_, fun c => absurd c hs⟩)
   ·rw [List.append_assoc, ← e3, e2, List.take_append_drop]; exact e
   ·rcases List.mem_append.1 hx with hx | hx
    ·exact h1 x hx
    ·exact hb x hx
 ·exact .inr (.inr h1)
theorem Fd.wait {P : List PRD} {E : List Int} {next : List RS} {wait : Int → List RS} {r : RS} {s : SY} {t : List SY} (h : Fd P E (next ++ [r]) wait) (hr : jx E r.2 = s :: t) (hs : s.1 = 2) : Fd P E next (setW wait s.2.2 (wait s.2.2 ++ [(r.1, jx E r.2)])) := by
 have hE : s.2.2 ∉ E := fun c => by
  have := beh_head hr
  rw [inE_iff.2 ⟨hs, c⟩] at this; cases this
 refine ⟨fun x hx => h.nx x (List.mem_append_left _ hx), fun m x hx => ?_, h.tr, fun i p a hp ha => ?_⟩
 ·unfold setW at hx
  split at hx
  ·rcases List.mem_append.1 hx with hx | hx
   ·exact h.wt _ x hx
   ·simp at hx; subst hx; exact (h.nx r (by simp)).beh
  ·exact h.wt m x hx
 ·rcases h.dn i p a hp ha with h1 | ⟨pre, left, e, h1, h2⟩ | ⟨pre, s', left, e, h0, h1⟩
  ·exact .inl h1
  ·rcases List.mem_append.1 h2 with h2 | h2
   ·exact .inr (.inl ⟨pre, left, e, h1, h2⟩)
   ·simp at h2
    obtain ⟨k, hk, e2, hb⟩ := beh_drop E left
    have e3 : jx E left = s :: t := by rw [← hr, ← h2]
    refine .inr (.inr ⟨pre ++ left.take k, s, t, ?_, fun x hx => ?_, fun _ => ⟨hE, ?_⟩⟩)
    ·rw [List.append_assoc, ← e3, e2, List.take_append_drop]; exact e
    ·rcases List.mem_append.1 hx with hx | hx
     ·exact h1 x hx
     ·exact hb x hx
    ·unfold setW
     rw [if_pos rfl, ← h2]
     exact List.mem_append_right _ (by simp [e3])
  ·refine .inr (.inr ⟨pre, s', left, e, h0, fun c => ?_⟩)
   obtain ⟨g1, g2⟩ := h1 c
   refine ⟨g1, ?_⟩
   unfold setW
   split
   ·rename_i hx
    rw [hx] at g2
    exact List.mem_append_left _ g2
   ·exact g2
theorem Fd.done {P : List PRD} {E : List Int} {wait : Int → List RS} (h : Fd P E [] wait) (x : Int) : x ∈ E ↔ isN P x := by
 refine ⟨h.tr x, nu_least (fun i => i ∈ E) (fun i p a hp ha hs => ?_) x⟩
 rcases h.dn i p a hp ha with h1 | ⟨pre, left, e, h1, h2⟩ | ⟨pre, s, left, e, h0, h1⟩
 ·exact h1
 ·simp at h2
 ·have := hs s (by rw [e]; simp)
  exact absurd this.2 (h1 this.1).1
theorem rests_mem : ∀ (P : List PRD) (n : Nat) (r : RS), r ∈ xZ P (n : Int) ↔ ∃ (i : Nat) (p : PRD), P[i]? = some p ∧ r.1 = ((n + i : Nat) : Int) ∧ r.2 ∈ p.1 := by
 intro P
 induction P with
 | nil => intro n r; simp [xZ]
 | cons p P ih =>
  intro n r
  unfold xZ
  rw [List.mem_append, show (n : Int) + 1 = ((n + 1 : Nat) : Int) by omega, ih]
  constructor
  ·rintro (h | ⟨i, q, h1, h2, h3⟩)
   ·obtain ⟨a, ha, rfl⟩ := List.mem_map.1 h
    exact ⟨0, p, rfl, rfl, ha⟩
   ·exact ⟨i + 1, q, by simpa using h1, by rw [h2]; congr 1; omega, h3⟩
  ·rintro ⟨i, q, h1, h2, h3⟩
   cases i with
   | zero =>
    simp at h1; subst h1
    exact .inl (List.mem_map.2 ⟨r.2, h3, by rw [Nat.add_zero] at h2; rw [← h2]⟩)
   | succ i => exact .inr ⟨i, q, by simpa using h1, by rw [h2]; congr 1; omega, h3⟩
theorem Fd.start (P : List PRD) : Fd P [] (xZ P 0) (fun _ => []) := by
 refine ⟨fun r hr => ?_, fun m r hr => (by cases hr), fun x hx => (by cases hx), fun i p a hp ha => ?_⟩
 ·obtain ⟨i, p, h1, h2, h3⟩ := (rests_mem P 0 r).1 hr
  exact ⟨i, p, [], by rw [h2]; congr 1; omega, h1, h3, fun s hs => by cases hs⟩
 ·refine .inr (.inl ⟨[], a, rfl, fun s hs => (by cases hs), (rests_mem P 0 _).2 ⟨i, p, hp, ?_, ha⟩⟩)
  simp
theorem rests_len (P : List PRD) (k : Nat) (h : ∀ p ∈ P, p.1.length ≤ k) : ∀ n, (xZ P n).length ≤ k * P.length := by
 induction P with
 | nil => intro n; simp [xZ]
 | cons p P ih =>
  intro n
  have h1 := ih (fun q hq => h q (List.mem_cons_of_mem _ hq)) (n + 1)
  have h2 := h p List.mem_cons_self
  unfold xZ
  rw [List.length_append, List.length_map, List.length_cons, Nat.mul_add]
  omega
/-! ### How many wait, and how many are not known -/
def wsum (E : List Int) (wait : Int → List RS) : Nat → Nat
 | 0 => 0
 | n + 1 => wsum E wait n + if (n : Int) ∈ E then 0 else (wait (n : Int)).length
def unk (E : List Int) : Nat → Nat
 | 0 => 0
 | n + 1 => unk E n + if (n : Int) ∈ E then 0 else 1
theorem wsum_nil (E : List Int) : ∀ n, wsum E (fun _ => []) n = 0 := by
 intro n
 induction n with
 | zero => rfl
 | succ n ih => unfold wsum; rw [ih]; simp
theorem mem_put {E : List Int} {x n : Nat} (h : n ≠ x) : ((n : Int) ∈ E ++ [(x : Int)]) ↔ (n : Int) ∈ E := by
 rw [List.mem_append]
 constructor
 ·rintro (h' | h')
  ·exact h'
  ·simp at h'; omega
 ·exact .inl
theorem lt_step {x n : Nat} (h : n ≠ x) (a : Nat) : (if x < n + 1 then a else 0) = if x < n then a else 0 := by
 by_cases hl : x < n
 ·rw [if_pos hl, if_pos (by omega)]
 ·rw [if_neg hl, if_neg (by omega)]
theorem lt_self (n a : Nat) : (if n < n + 1 then a else 0) = a := if_pos (by omega)
theorem lt_irr (n a : Nat) : (if n < n then a else 0) = 0 := if_neg (by omega)
theorem wsum_put {E : List Int} {wait : Int → List RS} {x : Nat} (hx : (x : Int) ∉ E) : ∀ n, wsum (E ++ [(x : Int)]) wait n + (if x < n then (wait (x : Int)).length else 0) = wsum E wait n := by
 intro n
 induction n with
 | zero => simp [wsum]
 | succ n ih =>
  unfold wsum
  by_cases h : n = x
  ·subst h
   rw [lt_irr] at ih
   rw [lt_self, if_pos (by simp), if_neg hx]
   omega
  ·have hm := mem_put (E := E) h
   rw [lt_step h]
   by_cases hn : (n : Int) ∈ E
   ·rw [if_pos (hm.2 hn), if_pos hn]; omega
   ·rw [if_neg (fun c => hn (hm.1 c)), if_neg hn]; omega
theorem wsum_set {E : List Int} {wait : Int → List RS} {x : Nat} {l : List RS} (hx : (x : Int) ∉ E) : ∀ n, wsum E (setW wait x l) n + (if x < n then (wait (x : Int)).length else 0) = wsum E wait n + (if x < n then l.length else 0) := by
 intro n
 induction n with
 | zero => simp [wsum]
 | succ n ih =>
  unfold wsum
  by_cases h : n = x
  ·subst h
   rw [lt_irr, lt_irr] at ih
   have e : setW wait n l (n : Int) = l := by unfold setW; rw [if_pos rfl]
   rw [lt_self, lt_self, if_neg hx, if_neg hx, e]
   omega
  ·have e : setW wait x l (n : Int) = wait (n : Int) := by unfold setW; rw [if_neg (by omega)]
   rw [lt_step h, lt_step h, e]
   omega
theorem wsum_le {E : List Int} {wait : Int → List RS} {x n : Nat} (hx : (x : Int) ∉ E) (hn : x < n) : (wait (x : Int)).length ≤ wsum E wait n := by
 have := wsum_put (wait := wait) hx n
 rw [if_pos hn] at this
 omega
theorem unk_put {E : List Int} {x : Nat} (hx : (x : Int) ∉ E) : ∀ n, unk (E ++ [(x : Int)]) n + (if x < n then 1 else 0) = unk E n := by
 intro n
 induction n with
 | zero => simp [unk]
 | succ n ih =>
  unfold unk
  by_cases h : n = x
  ·subst h
   rw [lt_irr] at ih
   rw [lt_self, if_pos (by simp), if_neg hx]
   omega
  ·have hm := mem_put (E := E) h
   rw [lt_step h]
   by_cases hn : (n : Int) ∈ E
   ·rw [if_pos (hm.2 hn), if_pos hn]; omega
   ·rw [if_neg (fun c => hn (hm.1 c)), if_neg hn]; omega
def okN (P : List PRD) : Prop := ∀ p ∈ P, ∀ a ∈ p.1, ∀ s ∈ a, s.1 = 2 → 0 ≤ s.2.2 ∧ s.2.2 < P.length
theorem Rest.non {P : List PRD} {E : List Int} {r : RS} (h : Rest P E r) (ok : okN P) {s : SY} (hs : s ∈ r.2) (h2 : s.1 = 2) : 0 ≤ s.2.2 ∧ s.2.2 < P.length := by
 obtain ⟨i, p, pre, -, h3, h4, -⟩ := h
 exact ok p (List.mem_of_getElem? h3) _ h4 s (List.mem_append_right _ hs) h2
theorem Rest.of {P : List PRD} {E : List Int} {r : RS} (h : Rest P E r) : ∃ i : Nat, r.1 = (i : Int) ∧ i < P.length := by
 obtain ⟨i, p, pre, h1, h3, -, -⟩ := h
 exact ⟨i, h1, (List.getElem?_eq_some_iff.1 h3).1⟩
end Go.Proofs.YtnfgobgflcmepaaGreatDoor.Nl
