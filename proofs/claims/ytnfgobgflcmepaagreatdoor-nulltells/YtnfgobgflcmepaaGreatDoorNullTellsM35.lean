/- Parts of the proof of NullTells that stand ahead of it (35: NlGram, NlGrM, NlMay, NlEmp, NlAll, NlRefM, NlFew, NlRefY). -/
import Derived.Test.YtnfgobgflcmepaaGreatDoorNullTellsM19
import Derived.Test.YtnfgobgflcmepaaGreatDoorNullTellsM34
import Derived.Test.YtnfgobgflcmepaaGreatDoorNullTellsM29
set_option linter.unusedVariables false
set_option linter.unusedSimpArgs false
set_option maxRecDepth 20000
set_option maxHeartbeats 16000000
namespace Go.Proofs.YtnfgobgflcmepaaGreatDoor.Nl
open Go.RowKit Go.Shelf Go.Proofs.YtnfgobgflcmepaaGreatDoor.T Go.Proofs.YtnfgobgflcmepaaGreatDoor.R Go.Proofs.YtnfgobgflcmepaaGreatDoor.F
theorem gram_ok {P : List PRD} (h : yo P = true) : 1 ≤ P.length ∧ P.length ≤ 60 ∧ (∀ p ∈ P, p.1.length ≤ 8) ∧ (∀ p ∈ P, ∀ a ∈ p.1, a.length ≤ 40) ∧ okN P ∧ (∀ p ∈ P, ∀ a ∈ p.1, ∀ s ∈ a, zW s.2.2) := by
 unfold yo at h
 simp only [Bool.and_eq_true, decide_eq_true_eq, List.all_eq_true] at h
 obtain ⟨h1, h2, h3⟩ := h
 have key : ∀ p ∈ P, p.1.length ≤ 8 ∧ (∀ a ∈ p.1, a.length ≤ 40) ∧ ∀ a ∈ p.1, ∀ s ∈ a, jJ s P.length = true := by
  intro p hp
  have := h3 p hp
  unfold qj YK at this
  simp only [Bool.and_eq_true, decide_eq_true_eq, List.all_eq_true, Bool.not_eq_true', List.any_eq_false, longB] at this
  obtain ⟨⟨-, h8, h40⟩, -, -, -, hs⟩ := this
  exact ⟨h8, fun a ha => by have := h40 a ha; simp at this; omega, fun a ha s hs' => hs a ha s hs'⟩
 have sy : ∀ p ∈ P, ∀ a ∈ p.1, ∀ s ∈ a, (s.1 = 2 → 0 ≤ s.2.2 ∧ s.2.2 < P.length) ∧ zW s.2.2 := by
  intro p hp a ha s hs
  have := (key p hp).2.2 a ha s hs
  unfold jJ at this
  split at this
  ·rename_i h0
   simp only [Bool.and_eq_true, decide_eq_true_eq] at this
   exact ⟨fun c => by omega, by rw [this.1]; unfold zW; omega⟩
  ·split at this
   ·rename_i h0
    simp only [Bool.and_eq_true, decide_eq_true_eq] at this
    exact ⟨fun c => by omega, by rw [this.1]; unfold zW; omega⟩
   ·split at this
    ·simp only [Bool.and_eq_true, decide_eq_true_eq] at this
     exact ⟨fun _ => ⟨this.1, this.2.1⟩, by have := this.1; have := this; unfold zW; omega⟩
    ·cases this
 exact ⟨h1, h2, fun p hp => (key p hp).1, fun p hp => (key p hp).2.1, fun p hp a ha s hs => (sy p hp a ha s hs).1, fun p hp a ha s hs => (sy p hp a ha s hs).2⟩
theorem beh_nul {P : List PRD} {E : List Int} (hE : ∀ x, x ∈ E ↔ isN P x) (l : List SY) : (jx E l).length = 0 ↔ qa (nuL P) l = true := by
 rw [List.length_eq_zero_iff, beh_nil, nulA_iff]
 constructor
 ·intro h s hs
  have := inE_iff.1 (h s hs)
  exact nulS_nu.2 ⟨this.1, (hE _).1 this.2⟩
 ·intro h s hs
  have := nulS_nu.1 (h s hs)
  exact inE_iff.2 ⟨this.1, (hE _).2 this.2⟩
def emptyB (g : GR) (l : List SY) : Bool := yo g.1 && qa (nuL g.1) l
def SyM (w : World) (v : Value) (l : List SY) : Prop := ∃ a c, v = .slice a l.length c ∧ l.length ≤ c ∧ c ≤ maxLen ∧
 ∀ j s, l[j]? = some s → ∃ g off x k, a = some ⟨g, off, none⟩ ∧ g < w.heap.size ∧ w.cell? ⟨g, off + 3 * j, none⟩ = some (.int .i64 s.1) ∧ w.cell? ⟨g, off + 3 * j + 1, none⟩ = some (.slice x s.2.1.length k) ∧ w.cell? ⟨g, off + 3 * j + 2, none⟩ = some (.int .i64 s.2.2) ∧ Rs w x s.2.1.length k s.2.1
def AltM (w : World) (v : Value) (A : List (List SY)) : Prop := ∃ a c, v = .slice a A.length c ∧ A.length ≤ c ∧ c ≤ maxLen ∧
 ∀ j l, A[j]? = some l → ∃ g off u, a = some ⟨g, off, none⟩ ∧ g < w.heap.size ∧ w.cell? ⟨g, off + j, none⟩ = some u ∧ SyM w u l
def NotM (w : World) (v : Value) (N : List (Int × Int)) : Prop := ∃ a c, v = .slice a N.length c ∧ Rs w a N.length c N
def PrM (w : World) (v : Value) (P : List PRD) : Prop := ∃ a c, v = .slice a P.length c ∧ P.length ≤ c ∧ c ≤ maxLen ∧
 ∀ j p, P[j]? = some p → ∃ g off u u2, a = some ⟨g, off, none⟩ ∧ g < w.heap.size ∧ w.cell? ⟨g, off + 3 * j, none⟩ = some u ∧ w.cell? ⟨g, off + 3 * j + 1, none⟩ = some (.int .i64 p.2.1) ∧ w.cell? ⟨g, off + 3 * j + 2, none⟩ = some u2 ∧ AltM w u p.1 ∧ NotM w u2 p.2.2
def GrM (w : World) (v : Value) (g : GR) : Prop := ∃ a c aK cK, v = .agg #[.slice a g.1.length c, .slice aK g.2.length cK] ∧ PrM w (.slice a g.1.length c) g.1 ∧ g.2.length ≤ cK ∧ cK ≤ maxLen
theorem SyM.later {w X : World} {v : Value} {l : List SY} (h : SyM w v l) (k : Below w.heap.size w X) : SyM X v l := by
 obtain ⟨a, c, e, h1, h2, h3⟩ := h
 refine ⟨a, c, e, h1, h2, fun j s hj => ?_⟩
 obtain ⟨g, off, x, kk, ha, hg, q0, q1, q2, hr⟩ := h3 j s hj
 exact ⟨g, off, x, kk, ha, Nat.lt_of_lt_of_le hg k.size, (k.cell (p := ⟨g, off + 3 * j, none⟩) hg).trans q0, (k.cell (p := ⟨g, off + 3 * j + 1, none⟩) hg).trans q1, (k.cell (p := ⟨g, off + 3 * j + 2, none⟩) hg).trans q2, hr.later k (Nat.le_refl _)⟩
theorem AltM.later {w X : World} {v : Value} {A : List (List SY)} (h : AltM w v A) (k : Below w.heap.size w X) : AltM X v A := by
 obtain ⟨a, c, e, h1, h2, h3⟩ := h
 refine ⟨a, c, e, h1, h2, fun j l hj => ?_⟩
 obtain ⟨g, off, u, ha, hg, q0, hs⟩ := h3 j l hj
 exact ⟨g, off, u, ha, Nat.lt_of_lt_of_le hg k.size, (k.cell (p := ⟨g, off + j, none⟩) hg).trans q0, hs.later k⟩
theorem NotM.later {w X : World} {v : Value} {N : List (Int × Int)} (h : NotM w v N) (k : Below w.heap.size w X) : NotM X v N := by
 obtain ⟨a, c, e, hr⟩ := h
 exact ⟨a, c, e, hr.later k (Nat.le_refl _)⟩
theorem PrM.later {w X : World} {v : Value} {P : List PRD} (h : PrM w v P) (k : Below w.heap.size w X) : PrM X v P := by
 obtain ⟨a, c, e, h1, h2, h3⟩ := h
 refine ⟨a, c, e, h1, h2, fun j p hj => ?_⟩
 obtain ⟨g, off, u, u2, ha, hg, q0, q1, q2, hA, hN⟩ := h3 j p hj
 exact ⟨g, off, u, u2, ha, Nat.lt_of_lt_of_le hg k.size, (k.cell (p := ⟨g, off + 3 * j, none⟩) hg).trans q0, (k.cell (p := ⟨g, off + 3 * j + 1, none⟩) hg).trans q1, (k.cell (p := ⟨g, off + 3 * j + 2, none⟩) hg).trans q2, hA.later k, hN.later k⟩
theorem GrM.later {w X : World} {v : Value} {g : GR} (h : GrM w v g) (k : Below w.heap.size w X) : GrM X v g := by
 obtain ⟨a, c, aK, cK, e, hp, hk⟩ := h
 exact ⟨a, c, aK, cK, e, hp.later k, hk⟩
theorem SyM.form {w : World} {x : Option Addr} {n c : Nat} {l : List SY} (h : SyM w (.slice x n c) l) : n = l.length ∧ l.length ≤ c ∧ c ≤ maxLen := by
 obtain ⟨a, c', e, h1, h2, -⟩ := h
 injection e with e1 e2 e3
 subst e3
 exact ⟨e2, h1, h2⟩
theorem AltM.form {w : World} {v : Value} {A : List (List SY)} (h : AltM w v A) : ∃ a c, v = .slice a A.length c ∧ A.length ≤ c ∧ c ≤ maxLen := by
 obtain ⟨a, c, e, h1, h2, -⟩ := h
 exact ⟨a, c, e, h1, h2⟩
theorem drop_of {α : Type} {l : List α} {j : Nat} (h : j < l.length) : l.drop j = l[j] :: l.drop (j + 1) ∧ l[j] ∈ l := ⟨List.drop_eq_getElem_cons h, List.getElem_mem h⟩
theorem AltM.at {w : World} {a : Option Addr} {c : Nat} {A : List (List SY)} (h : AltM w (.slice a A.length c) A) (k : Nat) (hk : k < A.length) : ∃ g off x cc l, a = some ⟨g, off, none⟩ ∧ g < w.heap.size ∧ w.cell? ⟨g, off + k, none⟩ = some (.slice x l.length cc) ∧ A.drop k = l :: A.drop (k + 1) ∧ SyM w (.slice x l.length cc) l := by
 obtain ⟨a', c', e, -, -, h3⟩ := h
 injection e with e1 e2 e3
 subst e1
 obtain ⟨g, off, u, ha, hg, q0, hs⟩ := h3 k A[k] (by simp [hk])
 obtain ⟨x, cc, rfl, -⟩ := id hs
 exact ⟨g, off, x, cc, A[k], ha, hg, q0, (drop_of hk).1, hs⟩
theorem symM_at {w : World} {x : Option Addr} {cc n : Nat} {l : List SY} (h : SyM w (.slice x n cc) l) (j : Nat) (hj : j < l.length) : ∃ g off s a c, x = some ⟨g, off, none⟩ ∧ g < w.heap.size ∧ w.cell? ⟨g, off + 3 * j, none⟩ = some (.int .i64 s.1) ∧ w.cell? ⟨g, off + 3 * j + 1, none⟩ = some (.slice a s.2.1.length c) ∧ w.cell? ⟨g, off + 3 * j + 2, none⟩ = some (.int .i64 s.2.2) ∧ Rs w a s.2.1.length c s.2.1 ∧ True ∧ l.drop j = s :: l.drop (j + 1) ∧ s ∈ l := by
 obtain ⟨a', c', e, -, -, h3⟩ := h
 injection e with e1 e2 e3
 subst e1
 obtain ⟨g, off, y, k, ha, hg, q0, q1, q2, hr⟩ := h3 j l[j] (by simp [hj])
 exact ⟨g, off, l[j], y, k, ha, hg, q0, q1, q2, hr, trivial, (drop_of hj).1, (drop_of hj).2⟩
theorem prodM_at {w : World} {a : Option Addr} {c : Nat} {P : List PRD} (h : PrM w (.slice a P.length c) P) (j : Nat) (hj : j < P.length) : ∃ g off x0 n0 k0 x2 n2 k2 p, a = some ⟨g, off, none⟩ ∧ g < w.heap.size ∧ w.cell? ⟨g, off + 3 * j, none⟩ = some (.slice x0 n0 k0) ∧ w.cell? ⟨g, off + 3 * j + 1, none⟩ = some (.int .i64 p.2.1) ∧ w.cell? ⟨g, off + 3 * j + 2, none⟩ = some (.slice x2 n2 k2) ∧ AltM w (.slice x0 n0 k0) p.1 ∧ NotM w (.slice x2 n2 k2) p.2.2 ∧ P.drop j = p :: P.drop (j + 1) ∧ p ∈ P := by
 obtain ⟨a', c', e, -, -, h3⟩ := h
 injection e with e1 e2 e3
 subst e1
 obtain ⟨g, off, u, u2, ha, hg, q0, q1, q2, hA, hN⟩ := h3 j P[j] (by simp [hj])
 obtain ⟨x0, k0, rfl, -⟩ := id hA
 obtain ⟨x2, k2, rfl, -⟩ := id hN
 exact ⟨g, off, x0, _, k0, x2, _, k2, P[j], ha, hg, q0, q1, q2, hA, hN, (drop_of hj).1, (drop_of hj).2⟩
/-! ### What came of flat, and what package null reads -/
theorem syM_of {D : Nat → Prop} {w : World} {v : Value} {l : List SY} (h : SymsV D w v l) : SyM w v l := by
 obtain ⟨a, c, cs, rfl, hr, hs⟩ := id h
 refine ⟨a, c, rfl, hr.1, hr.2.1, fun j s hj => ?_⟩
 obtain ⟨g, off, x, k, ha, hg, q0, q1, q2, hrs⟩ := sym_get h hj
 exact ⟨g, off, x, k, ha, hg, q0, q1, q2, hrs⟩
theorem altM_of {D : Nat → Prop} {w : World} {v : Value} {A : List (List SY)} (h : AltV D w v A) : AltM w v A := by
 obtain ⟨a, c, cs, rfl, hr, hs⟩ := id h
 refine ⟨a, c, rfl, hr.1, hr.2.1, fun j l hj => ?_⟩
 obtain ⟨g, off, x, k, ha, hg, q0, hsy⟩ := alt_get h hj
 exact ⟨g, off, _, ha, hg, q0, syM_of hsy⟩
theorem grM_of {D : Nat → Prop} {w : World} {v : Value} {g : GR} (h : GramV D w v g) (hK : ∀ a n c l, Ss D w a n c l → n ≤ c ∧ c ≤ maxLen) : GrM w v g := by
 obtain ⟨a, c, cs, aK, cK, rfl, hr, hp, hs⟩ := h
 refine ⟨a, c, aK, cK, rfl, ⟨a, c, rfl, hr.1, hr.2.1, fun j p hj => ?_⟩, hK _ _ _ _ hs⟩
 obtain ⟨g', off, x0, k0, x2, k2, ha, hg, q0, q1, q2, hA, hN⟩ := prod_get hr hp hj
 obtain ⟨y, cy, e, hrs, -⟩ := id hN
 exact ⟨g', off, _, _, ha, hg, q0, q1, q2, altM_of hA, ⟨y, cy, e, hrs⟩⟩
theorem SyM.syl {w : World} {v : Value} {l : List SY} (h : SyM w v l) (hf : ∀ s ∈ l, zW s.2.2) : SyL w w.heap.size v l := by
 obtain ⟨a, c, e, h1, h2, h3⟩ := h
 refine ⟨a, c, e, h1, h2, fun j s hj => ?_⟩
 obtain ⟨g, off, x, k, ha, hg, q0, q1, q2, -⟩ := h3 j s hj
 exact ⟨hf s (List.mem_of_getElem? hj), g, off, x, _, k, ha, hg, q0, q1, q2⟩
theorem PrM.prl {w : World} {v : Value} {P : List PRD} (h : PrM w v P) (hf : ∀ p ∈ P, ∀ a ∈ p.1, ∀ s ∈ a, zW s.2.2) : PrL w w.heap.size v P := by
 obtain ⟨a, c, e, h1, h2, h3⟩ := h
 refine ⟨a, c, e, h1, h2, fun j p hj => ?_⟩
 obtain ⟨g, off, u, u2, ha, hg, q0, q1, q2, hA, hN⟩ := h3 j p hj
 obtain ⟨x2, k2, rfl, -⟩ := hN
 refine ⟨g, off, u, _, x2, _, k2, ha, hg, q0, q1, q2, ?_⟩
 obtain ⟨aA, cA, eA, hA1, hA2, hA3⟩ := hA
 refine ⟨aA, cA, eA, hA1, hA2, fun j' l hj' => ?_⟩
 obtain ⟨g', off', u', ha', hg', q0', hs⟩ := hA3 j' l hj'
 exact ⟨g', off', u', ha', hg', q0', hs.syl (hf p (List.mem_of_getElem? hj) l (List.mem_of_getElem? hj'))⟩
theorem ixFuncM_l (a : Option Addr) (c : Nat) (A : List (List SY)) (w : World) (h : AltM w (.slice a A.length c) A) (hl : A.length ≤ 1000000) :
  Calls Tryz.prog 181 #[.slice a A.length c, .func (.func 127) #[] #[]] w fun e w' => e = .returned (.int .i64 (ixL A 0)) ∧ w' = w := by
 have hc : A.length ≤ c ∧ c ≤ maxLen := by obtain ⟨a', c', e, h1, h2⟩ := h.form; injection e with e1 e2 e3; subst e3; exact ⟨h1, h2⟩
 obtain ⟨hc1, hc2⟩ := hc
 unfold maxLen at hc2
 have HV := zx h
 have CT := zx (fun x n cc W => tooLong_l x n cc W)
 clear h
 generalize hn : A.length = n at *
 have HN := zx hn
 clear hn
 go_enter Tryz.func181, Tryz.ntmps181
 go_wp2_with fail
 go_loopw [8] (fun i wr => ∃ k : Nat, k ≤ n ∧ i = .int .i64 (k : Int) ∧ Hid (ixL A 0 = ixL (A.drop k) k) ∧ wr = w) (fun i _ => n - (intOf i).toNat)
 case atStart => exact ⟨0, Nat.zero_le _, rfl, rfl, rfl⟩
 case round =>
  obtain ⟨k, hk, rfl, hA, hw⟩ := hrel
  subst hw
  by_cases hlt : k < n
  ·have HV1 := zy HV
   rw [← zy HN] at HV1
   obtain ⟨g, off, x, cc, l, rfl, hg, hcell, hd, -⟩ := HV1.at k (by rw [zy HN]; exact hlt)
   clear HV1
   by_cases h40 : 40 < l.length
   ·have hb : decide ((40 : Int) < (l.length : Int)) = true := decide_eq_true (by omega)
    have FIN : Hid (ixL A 0 = (k : Int)) := by show _ = _; rw [zy hA, hd]; unfold ixL; rw [if_pos h40]
    clear hd h40 hA
    go_wp2_with fail
    refine (zy CT _ _ _ _).mono ?_
    rintro e w1 ⟨rfl, hw1⟩
    subst hw1
    clear CT
    rw [hb]
    go_wp2_with fail
    go_ret
    exact ⟨ret_int (zy FIN).symm, rfl⟩
   ·have hb : decide ((40 : Int) < (l.length : Int)) = false := decide_eq_false (by omega)
    have NXT : Hid (ixL A 0 = ixL (A.drop (k + 1)) (k + 1)) := by show _ = _; rw [zy hA, hd]; conv => lhs; unfold ixL; rw [if_neg h40]
    clear hd h40 hA
    go_wp2_with fail
    refine (zy CT _ _ _ _).mono ?_
    rintro e w1 ⟨rfl, hw1⟩
    subst hw1
    rw [hb]
    go_wp2_with fail
    go_roundw
    case rel => exact ⟨k + 1, by omega, by simp, NXT, trivial⟩
    case measure => simp only [intOf]; omega
  ·obtain rfl : k = n := by omega
   have FIN : Hid (ixL A 0 = -1) := by
    show _ = _
    rw [zy hA, List.drop_eq_nil_of_le (by rw [zy HN]; exact Nat.le_refl _)]
    rfl
   go_wp2_with fail
   go_ret
   exact ⟨ret_int (zy FIN).symm, rfl⟩
theorem contFM_l (a : Option Addr) (c : Nat) (A : List (List SY)) (w : World) (h : AltM w (.slice a A.length c) A) (hl : A.length ≤ 1000000) :
  Calls Tryz.prog 143 #[.slice a A.length c, .func (.func 127) #[] #[]] w fun e w' => e = .returned (.bool (A.any longB)) ∧ w' = w := by
 have C := zx (ixFuncM_l a c A w h hl)
 rw [← ixL_any A 0]
 clear h
 generalize ixL A 0 = r at *
 generalize A.length = n at *
 go_enter Tryz.func143, Tryz.ntmps143
 go_wp2_with fail
 refine (zy C).mono ?_
 rintro e w1 ⟨rfl, hw1⟩
 subst hw1
 clear C
 go_wp2_with fail
 go_ret
 exact ⟨rfl, rfl⟩
theorem ffitsM_l (v : Value) (A : List (List SY)) (w : World) (h : AltM w v A) :
  Calls Tryz.prog 95 #[v] w fun e w' => e = .returned (.bool (YK A)) ∧ w' = w := by
 obtain ⟨a, c, rfl, -, -⟩ := h.form
 have C := zx (fun h8 : A.length ≤ 8 => contFM_l a c A w h (by omega))
 unfold YK
 clear h
 generalize A.any longB = r at *
 generalize A.length = n at *
 by_cases h1 : 1 ≤ n
 ·by_cases h8 : n ≤ 8
  ·have b1 : decide ((1 : Int) ≤ (n : Int)) = true := decide_eq_true (by omega)
   have b8 : decide ((n : Int) ≤ 8) = true := decide_eq_true (by omega)
   have C := zx (zy C h8)
   rw [decide_eq_true h1, decide_eq_true h8]
   go_enter Tryz.func95, Tryz.ntmps95
   go_wp2_with fail
   refine (zy C).mono ?_
   rintro e w1 ⟨rfl, hw1⟩
   subst hw1
   clear C
   go_wp2_with fail
   go_ret
   exact ⟨by simp, rfl⟩
  ·have b1 : decide ((1 : Int) ≤ (n : Int)) = true := decide_eq_true (by omega)
   have b8 : decide ((n : Int) ≤ 8) = false := decide_eq_false (by omega)
   rw [decide_eq_true h1, decide_eq_false h8]
   clear C
   go_enter Tryz.func95, Tryz.ntmps95
   go_wp2_with fail
   go_ret
   exact ⟨rfl, rfl⟩
 ·have b1 : decide ((1 : Int) ≤ (n : Int)) = false := decide_eq_false (by omega)
  rw [decide_eq_false h1]
  clear C
  go_enter Tryz.func95, Tryz.ntmps95
  go_wp2_with fail
  go_ret
  exact ⟨rfl, rfl⟩
theorem mayProdM_l (p : PRD) (v0 v2 : Value) (many : Int) (w : World) (ha : AltM w v0 p.1) (hn : NotM w v2 p.2.2) :
  Calls Tryz.prog 55 #[.agg #[v0, .int .i64 p.2.1, v2], .int .i64 many] w fun e w' => e = .returned (.bool (qj p many)) ∧ Below w.heap.size w w' := by
 have B1 : ∀ o, Below w.heap.size w (w.alloc o) := fun o => Below.new1 o
 obtain ⟨A, mk, N⟩ := p
 simp only at ha hn ⊢
 obtain ⟨aN, cN, rfl, rN⟩ := hn
 have CF := zx (fun W (bW : Below w.heap.size w W) => ffitsM_l v0 A W (ha.later bW))
 have CM := zx (fun W (bW : Below w.heap.size w W) => rgMay_any aN N.length cN N W (rN.later bW (Nat.le_refl _)))
 obtain ⟨a0, c0, rfl, hc0, hc1⟩ := ha.form
 unfold maxLen at hc1
 have HA := zx ha
 clear ha rN
 unfold qj
 simp only
 generalize hTT : (A.all fun l => l.all fun s => jJ s many) = TT at *
 have HTT := zx hTT
 clear hTT
 generalize YK A = fb at *
 generalize G.zQ N = mb at *
 generalize N.length = nN at *
 generalize hnA : A.length = nA at *
 have HNA := zx hnA
 clear hnA
 cases fb with
 | false =>
  clear CM
  go_enter Tryz.func55, Tryz.ntmps55
  go_wp2_with fail
  refine (zy CF _ (B1 _)).mono ?_
  rintro e w1 ⟨rfl, hw1⟩
  subst hw1
  clear CF
  go_wp2_with fail
  go_ret
  exact ⟨by simp, B1 _⟩
 | true =>
  by_cases h0 : 0 ≤ mk
  ·by_cases h63 : mk ≤ 63
   ·have b1 : decide (mk < 0) = false := decide_eq_false (by omega)
    have b2 : decide (63 < mk) = false := decide_eq_false (by omega)
    rw [decide_eq_true h0, decide_eq_true h63]
    clear h0 h63
    cases mb with
    | false =>
     go_enter Tryz.func55, Tryz.ntmps55
     go_wp2_with fail
     refine (zy CF _ (B1 _)).mono ?_
     rintro e w1 ⟨rfl, hw1⟩
     subst hw1
     clear CF
     go_wp2_with fail
     refine (zy CM _ (B1 _)).mono ?_
     rintro e w1 ⟨rfl, b1⟩
     clear CM
     go_wp2_with fail
     go_ret
     exact ⟨by simp, zw (B1 _) b1⟩
    | true =>
     go_enter Tryz.func55, Tryz.ntmps55
     go_wp2_with fail
     refine (zy CF _ (B1 _)).mono ?_
     rintro e w1 ⟨rfl, hw1⟩
     subst hw1
     clear CF
     go_wp2_with fail
     refine (zy CM _ (B1 _)).mono ?_
     rintro e w1 ⟨rfl, b1⟩
     clear CM
     have BB := zx (zw (B1 _) b1)
     have s1 := (zy BB).size
     obtain ⟨⟨x0, x1, x2⟩, -⟩ := qZ (zV b1)
     clear b1
     go_wp2_with fail
     go_loopw [32] (fun i wr => ∃ (j : Nat), j ≤ nA ∧ i = .int .i64 (j : Int) ∧ Hid ((A.all fun l => l.all fun s => jJ s many) = ((A.drop j).all fun l => l.all fun s => jJ s many)) ∧ Hid (Below w.heap.size w wr) ∧ w.heap.size ≤ wr.heap.size) (fun i _ => nA - (intOf i).toNat)
     case atStart => exact ⟨0, Nat.zero_le _, rfl, rfl, BB, s1⟩
     case round =>
      obtain ⟨j, hj, rfl, hO, hBo, hso⟩ := hrel
      by_cases hlt2 : j < nA
      ·have HA1 := (zy HA).later (zy hBo)
       rw [← zy HNA] at HA1
       obtain ⟨g, off, x, cc, l, rfl, hg, q, hd, hsv⟩ := HA1.at j (by rw [zy HNA]; exact hlt2)
       have HD2 := zx hd
       have HSV := zx hsv
       obtain ⟨-, hcc1, hcc2⟩ := hsv.form
       unfold maxLen at hcc2
       clear HA1 hd hsv
       generalize hWr : wr = W4 at *
       clear hWr
       go_wp2_with fail
       go_loopw [38] (fun i wr => ∃ (k : Nat), k ≤ l.length ∧ i = .int .i64 (k : Int) ∧ Hid (l.all (fun s => jJ s many) = (l.drop k).all fun s => jJ s many) ∧ Hid (Below W4.heap.size W4 wr) ∧ W4.heap.size ≤ wr.heap.size) (fun i _ => l.length - (intOf i).toNat)
       case atStart => exact ⟨0, Nat.zero_le _, rfl, rfl, Below.refl _ _, Nat.le_refl _⟩
       case round =>
        obtain ⟨k, hk, rfl, hI, hB2, hs2⟩ := hrel
        by_cases hlt3 : k < l.length
        ·obtain ⟨gs, os, s, a3, c3, rfl, hgs, q0, q1, q2, rs3, ty3, hd3, hm3⟩ := symM_at ((zy HSV).later (zy hB2)) k hlt3
         have HD3 := zx hd3
         have CY := zx (fun W (bW : Below wr.heap.size wr W) => maySym_l s a3 c3 many W (rs3.later bW (Nat.le_refl _)))
         have k3 : k * 3 = 3 * k := by omega
         have STEP : Hid (l.all (fun s => jJ s many) = (jJ s many && (l.drop (k + 1)).all fun s => jJ s many)) := by show _ = _; rw [zy hI, zy HD3]; rfl
         clear rs3 ty3 hd3 hm3 hI
         generalize s.1 = s1 at *
         generalize s.2.2 = s2 at *
         generalize s.2.1.length = s3 at *
         have BN := fun o => Below.new1 (w := wr) o
         cases hsb : jJ s many with
         | false =>
          rw [hsb] at CY
          have FIN : Hid (TT = false) := by
           show _ = _
           rw [← zy HTT, zy hO, zy HD2]
           simp only [List.all_cons]
           rw [zy STEP, hsb]; rfl
          clear hsb STEP
          go_wp2_with fail
          refine (zy CY _ (BN _)).mono ?_
          rintro e w4 ⟨rfl, b4⟩
          clear CY
          go_wp2_with fail
          go_ret
          exact ⟨by rw [zy FIN]; simp, (zy hBo).trans ((zy hB2).mono hso |>.trans ((zw (BN _) b4).mono (Nat.le_trans hso (zy hB2).size)))⟩
         | true =>
          rw [hsb] at CY
          have NXT : Hid (l.all (fun s => jJ s many) = (l.drop (k + 1)).all fun s => jJ s many) := by show _ = _; rw [zy STEP, hsb]; rfl
          clear hsb STEP
          go_wp2_with fail
          refine (zy CY _ (BN _)).mono ?_
          rintro e w4 ⟨rfl, b4⟩
          clear CY
          have B4 := zx (zw (zy hB2) (zw (BN _) b4))
          have s4 := (zy B4).size
          clear b4
          go_wp2_with fail
          go_roundw
          case rel => exact ⟨k + 1, by omega, by simp, NXT, B4, s4⟩
          case measure => simp [intOf]; omega
        ·obtain rfl : k = l.length := by omega
         have NXT : Hid (TT = ((A.drop (j + 1)).all fun l => l.all fun s => jJ s many)) := by
          show _ = _
          rw [← zy HTT, zy hO, zy HD2]
          simp only [List.all_cons]
          rw [zy hI, List.drop_eq_nil_of_le (Nat.le_refl _)]; rfl
         have B5 := zx ((zy hBo).trans ((zy hB2).mono hso))
         have s5 := (zy B5).size
         go_wp2_with fail
         go_roundw
         case rel => exact ⟨j + 1, by omega, by simp, by show _ = _; rw [zy HTT]; exact zy NXT, B5, s5⟩
         case measure => simp [intOf]; omega
      ·obtain rfl : j = nA := by omega
       have FIN : Hid (TT = true) := by
        show _ = _
        rw [← zy HTT, zy hO, List.drop_eq_nil_of_le (by rw [zy HNA]; exact Nat.le_refl _)]; rfl
       go_wp2_with fail
       go_ret
       exact ⟨by rw [zy FIN]; simp, zy hBo⟩
   ·have b1 : decide (mk < 0) = false := decide_eq_false (by omega)
    have b2 : decide (63 < mk) = true := decide_eq_true (by omega)
    rw [decide_eq_true h0, decide_eq_false h63]
    clear CM h0 h63
    go_enter Tryz.func55, Tryz.ntmps55
    go_wp2_with fail
    refine (zy CF _ (B1 _)).mono ?_
    rintro e w1 ⟨rfl, hw1⟩
    subst hw1
    clear CF
    go_wp2_with fail
    go_ret
    exact ⟨by simp, B1 _⟩
  ·have b1 : decide (mk < 0) = true := decide_eq_true (by omega)
   rw [decide_eq_false h0]
   clear CM h0
   go_enter Tryz.func55, Tryz.ntmps55
   go_wp2_with fail
   refine (zy CF _ (B1 _)).mono ?_
   rintro e w1 ⟨rfl, hw1⟩
   subst hw1
   clear CF
   go_wp2_with fail
   go_ret
   exact ⟨by simp, B1 _⟩
theorem fMayM_l (v : Value) (g : GR) (w : World) (h : GrM w v g) :
  Calls Tryz.prog 28 #[v] w fun e w' => e = .returned (.bool (yo g.1)) ∧ Below w.heap.size w w' := by
 have B1 : ∀ o, Below w.heap.size w (w.alloc o) := fun o => Below.new1 o
 obtain ⟨a, c, aK, cK, rfl, hp, -⟩ := h
 obtain ⟨P, K⟩ := g
 simp only at hp ⊢
 obtain ⟨hc1, hc2⟩ : P.length ≤ c ∧ c ≤ maxLen := by obtain ⟨a1, c1, e1, h1, h2, -⟩ := hp; injection e1 with _ _ e1; subst e1; exact ⟨h1, h2⟩
 unfold maxLen at hc2
 have HP := zx hp
 clear hp
 unfold yo
 generalize hn : P.length = n at *
 have HN := zx hn
 clear hn
 generalize K.length = nK at *
 generalize hTT : (P.all fun p => qj p n) = TT at *
 have HTT := zx hTT
 clear hTT
 by_cases h1 : 1 ≤ n
 ·by_cases h60 : n ≤ 60
  ·have b1 : decide ((n : Int) < 1) = false := decide_eq_false (by omega)
   have b2 : decide (60 < (n : Int)) = false := decide_eq_false (by omega)
   rw [decide_eq_true h1, decide_eq_true h60]
   clear h1 h60
   go_enter Tryz.func28, Tryz.ntmps28
   go_wp2_with fail
   go_loopw [18] (fun i wr => ∃ (j : Nat), j ≤ n ∧ i = .int .i64 (j : Int) ∧ Hid ((P.all fun p => qj p n) = (P.drop j).all fun p => qj p n) ∧ Hid (Below w.heap.size w wr) ∧ w.heap.size ≤ wr.heap.size) (fun i _ => n - (intOf i).toNat)
   case atStart => exact ⟨0, Nat.zero_le _, rfl, rfl, B1 _, by simp⟩
   case round =>
    obtain ⟨j, hj, rfl, hO, hB, hs⟩ := hrel
    by_cases hlt : j < n
    ·obtain ⟨g, off, x0, n0, k0, x2, n2, k2, p, rfl, hg, q0, q1, q2, ha, hn, hd, hm⟩ := prodM_at (by have := (zy HP).later (zy hB); rw [← zy HN] at this; exact this) j (by rw [zy HN]; exact hlt)
     have CP := zx (fun W (bW : Below wr.heap.size wr W) => mayProdM_l p _ _ (n : Int) W (ha.later bW) (hn.later bW))
     have STEP : Hid ((P.all fun p => qj p n) = (qj p n && (P.drop (j + 1)).all fun p => qj p n)) := by show _ = _; rw [zy hO, hd]; rfl
     have j3 : j * 3 = 3 * j := by omega
     clear ha hn hd hm hO
     generalize p.2.1 = mk at *
     have BN := fun o => Below.new1 (w := wr) o
     cases hpb : qj p n with
     | false =>
      rw [hpb] at CP
      have FIN : Hid (TT = false) := by show _ = _; rw [← zy HTT, zy STEP, hpb]; rfl
      clear hpb STEP
      go_wp2_with fail
      refine (zy CP _ (BN _)).mono ?_
      rintro e w4 ⟨rfl, b4⟩
      clear CP
      go_wp2_with fail
      go_ret
      exact ⟨by rw [zy FIN]; simp, zw (zy hB) (zw (BN _) b4)⟩
     | true =>
      rw [hpb] at CP
      have NXT : Hid ((P.all fun p => qj p n) = (P.drop (j + 1)).all fun p => qj p n) := by show _ = _; rw [zy STEP, hpb]; rfl
      clear hpb STEP
      go_wp2_with fail
      refine (zy CP _ (BN _)).mono ?_
      rintro e w4 ⟨rfl, b4⟩
      clear CP
      have B4 := zx (zw (zy hB) (zw (BN _) b4))
      have s4 := (zy B4).size
      clear b4
      go_wp2_with fail
      go_roundw
      case rel => exact ⟨j + 1, by omega, by simp, NXT, B4, s4⟩
      case measure => simp [intOf]; omega
    ·obtain rfl : j = n := by omega
     have FIN : Hid (TT = true) := by
      show _ = _
      rw [← zy HTT, zy hO, List.drop_eq_nil_of_le (by rw [zy HN]; exact Nat.le_refl _)]; rfl
     go_wp2_with fail
     go_ret
     exact ⟨by rw [zy FIN]; simp, zy hB⟩
  ·have b1 : decide ((n : Int) < 1) = false := decide_eq_false (by omega)
   have b2 : decide (60 < (n : Int)) = true := decide_eq_true (by omega)
   rw [decide_eq_true h1, decide_eq_false h60]
   clear h1 h60
   go_enter Tryz.func28, Tryz.ntmps28
   go_wp2_with fail
   go_ret
   exact ⟨by simp, B1 _⟩
 ·have b1 : decide ((n : Int) < 1) = true := decide_eq_true (by omega)
  rw [decide_eq_false h1]
  clear h1
  go_enter Tryz.func28, Tryz.ntmps28
  go_wp2_with fail
  go_ret
  exact ⟨by simp, B1 _⟩
theorem nEmpty_l (v lv : Value) (g : GR) (l : List SY) (w : World) (h : GrM w v g) (hl : SyL w w.heap.size lv l) :
  Calls Tryz.prog 27 #[v, lv] w fun e w' => e = .returned (.bool (emptyB g l)) ∧ Below w.heap.size w w' := by
 have CM := zx (fun W (bW : Below w.heap.size w W) => fMayM_l v g W (h.later bW))
 obtain ⟨a, c, aK, cK, rfl, hp, -⟩ := id h
 obtain ⟨xl, cl, rfl, -⟩ := id hl
 unfold emptyB
 obtain ⟨P, K⟩ := g
 simp only at CM hp ⊢
 generalize K.length = nK at *
 cases hg : yo P with
 | false =>
  rw [hg] at CM
  clear h hp hl hg
  generalize P.length = nP at *
  generalize l.length = nl at *
  go_enter Tryz.func27, Tryz.ntmps27
  go_wp2_with fail
  refine (zy CM _ (Below.new1 _)).mono ?_
  rintro e w1 ⟨rfl, b1⟩
  clear CM
  go_wp2_with fail
  go_ret
  exact ⟨rfl, zJ (Below.new1 _) b1⟩
 | true =>
  rw [hg] at CM
  obtain ⟨-, h60, h8, -, ok, hf⟩ := gram_ok hg
  have HP := zx (hp.prl hf)
  have HL := zx hl
  have CE := zx (fun W (bW : Below w.heap.size w W) => emptyOf_l w.heap.size _ P W ((zy HP).later bW) bW.size h60 h8 ok)
  have CB := zx (fun b E W (bW : Below w.heap.size w W) (hS : SetV W b E) => behind_l w.heap.size b E _ l W hS ((zy HL).later bW) bW.size)
  clear h hp hl hg h60 h8 ok hf HP HL
  rw [Bool.true_and]
  have HB := zx (fun E (hE : ∀ x, x ∈ E ↔ isN P x) => beh_nul hE l)
  generalize P.length = nP at *
  generalize l.length = nl at *
  generalize qa (nuL P) l = r at *
  go_enter Tryz.func27, Tryz.ntmps27
  go_wp2_with fail
  refine (zy CM _ (Below.new1 _)).mono ?_
  rintro e w1 ⟨rfl, b1⟩
  clear CM
  obtain ⟨y0, y1, -, -⟩ := yZ (nkept b1)
  have B1 := zx (zJ (Below.new1 _) b1)
  clear b1
  go_wp2_with fail
  refine (zy CE _ (zy B1)).mono ?_
  rintro e w2 ⟨b, E, rfl, hS, hE, -, b2⟩
  clear CE
  have B2 := zx (zJ (zy B1) b2)
  have C2 := zx (zy CB b E w2 (zy B2) hS)
  have H2 := zx (zy HB E hE)
  clear CB HB hS hE b2 y0 y1
  go_wp2_with fail
  refine (zy C2).mono ?_
  rintro e w3 ⟨v3, rfl, ⟨x3, c3, rfl, -⟩, b3⟩
  clear C2
  have B3 := zx (zJ (zy B2) b3)
  clear b3
  have H3 := zy H2
  clear H2
  generalize (jx E l).length = n3 at *
  by_cases h0 : n3 = 0
  ·subst h0
   obtain rfl : r = true := H3.1 rfl
   clear H3
   go_wp2_with fail
   go_ret
   exact ⟨rfl, zy B3⟩
  ·have hr : r = false := by
    cases r with
    | false => rfl
    | true => exact absurd (H3.2 rfl) h0
   subst hr
   have bk : ((n3 : Int) == 0) = false := by simpa using h0
   clear H3 h0
   go_wp2_with fail
   go_ret
   exact ⟨rfl, zy B3⟩
theorem bool_info : (Tryz.prog.info? 4).map (fun i => (i.zero, i.size, i.bytes)) = some (some (.bool false), 1, 1) := by kernel_rfl
theorem made_bool (n : Nat) : (madeCells #[.bool false] (n * 1)).toList = List.replicate n (Value.bool false) := by
 apply List.ext_getElem?
 intro j
 rw [Nat.mul_one]
 by_cases hj : j < n
 ·simp [madeCells, hj, Nat.mod_one]
 ·simp [madeCells, hj]
def BoV (w : World) (base : Nat) (v : Value) (l : List Bool) : Prop := w.ownsRow base 4 1 v l.length (l.map Value.bool)
theorem BoV.nil (w : World) (base : Nat) : BoV w base (.slice none 0 0) [] := World.ownsRow_nil w base _ _
theorem BoV.later {w X : World} {base : Nat} {v : Value} {l : List Bool} (h : BoV w base v l) (k : Below w.heap.size w X) : BoV X base v l := own_stay h k
theorem BoV.at {w : World} {base : Nat} {v : Value} {l : List Bool} (h : BoV w base v l) : ∃ a c, v = .slice a l.length c ∧ l.length ≤ c ∧ c ≤ maxLen ∧ ∀ j b, l[j]? = some b → ∃ g, a = some ⟨g, 0, none⟩ ∧ g < w.heap.size ∧ w.cell? ⟨g, j, none⟩ = some (.bool b) := by
 rcases id h.2 with ⟨rfl, h0⟩ | ⟨g, cap, cur, rfl, hb, hg, hn, hm, hsz, ht⟩
 ·refine ⟨none, 0, by rw [h0], by omega, Nat.zero_le _, fun j b hj => ?_⟩
  have := (List.getElem?_eq_some_iff.1 hj).1; omega
 ·refine ⟨_, cap, rfl, hn, hm, fun j b hj => ⟨g, rfl, (Array.getElem?_eq_some_iff.1 hg).1, ?_⟩⟩
  have := World.ownsRow.cells h (g := g) rfl j (.bool b) (by rw [List.getElem?_map, hj]; rfl)
  rwa [Addr.add_lit, Nat.zero_add] at this
def Xv (l : List Bool) (k : Nat) : List Bool := l.take k ++ List.replicate (l.length - k) false
theorem fill_len (l : List Bool) (k : Nat) (h : k ≤ l.length) : (Xv l k).length = l.length := by unfold Xv; simp; omega
theorem fill_set (l : List Bool) (k : Nat) (h : k < l.length) : (Xv l k).set k (l.getD k false) = Xv l (k + 1) := by
 apply List.ext_getElem?
 intro j
 unfold Xv
 rw [List.getElem?_set]
 have hl : (l.take k ++ List.replicate (l.length - k) false).length = l.length := by simp; omega
 by_cases e : k = j
 ·subst e
  rw [if_pos rfl, hl, if_pos h, List.getElem?_append_left (by simp; omega), List.getElem?_take_of_lt (by omega)]
  simp [List.getD, h]
 ·rw [if_neg e]
  by_cases hj : j < k
  ·rw [List.getElem?_append_left (by simp; omega), List.getElem?_append_left (by simp; omega), List.getElem?_take_of_lt hj, List.getElem?_take_of_lt (by omega)]
  ·rw [List.getElem?_append_right (by simp; omega), List.getElem?_append_right (by simp; omega)]
   simp only [List.length_take, List.getElem?_replicate]
   by_cases h2 : j < l.length
   ·rw [if_pos (by omega), if_pos (by omega)]
   ·rw [if_neg (by omega), if_neg (by omega)]
def xw (g : GR) : List Bool := if yo g.1 = true then nuL g.1 else []
theorem nu_at {P : List PRD} {E : List Int} (hE : ∀ x, x ∈ E ↔ isN P x) (k : Nat) : decide ((k : Int) ∈ E) = (nuL P).getD k false := by
 cases h : (nuL P).getD k false with
 | true => exact decide_eq_true ((hE _).2 ⟨by omega, by rw [Int.toNat_natCast]; exact h⟩)
 | false =>
  refine decide_eq_false fun c => ?_
  have := ((hE _).1 c).2
  rw [Int.toNat_natCast, h] at this
  cases this
theorem nAll_l (v : Value) (g : GR) (w : World) (h : GrM w v g) :
  Calls Tryz.prog 21 #[v] w fun e w' => ∃ v', e = .returned v' ∧ BoV w' w.heap.size v' (xw g) ∧ Below w.heap.size w w' := by
 have CM := zx (fun W (bW : Below w.heap.size w W) => fMayM_l v g W (h.later bW))
 obtain ⟨a, c, aK, cK, rfl, hp, -⟩ := id h
 unfold xw
 obtain ⟨P, K⟩ := g
 simp only at CM hp ⊢
 generalize K.length = nK at *
 cases hg : yo P with
 | false =>
  rw [hg] at CM
  clear h hp hg
  generalize P.length = nP at *
  go_enter Tryz.func21, Tryz.ntmps21
  go_wp2_with fail
  refine (zy CM _ (Below.new1 _)).mono ?_
  rintro e w1 ⟨rfl, b1⟩
  clear CM
  go_wp2_with fail
  go_ret
  exact ⟨_, rfl, BoV.nil _ _, zJ (Below.new1 _) b1⟩
 | true =>
  rw [hg] at CM
  obtain ⟨-, h60, h8, -, ok, hf⟩ := gram_ok hg
  obtain ⟨ti, hi0, hz0, hz1, hz2⟩ := info_parts bool_info
  have HP := zx (hp.prl hf)
  have CE := zx (fun W (bW : Below w.heap.size w W) => emptyOf_l w.heap.size _ P W ((zy HP).later bW) bW.size h60 h8 ok)
  clear h hp hg h8 ok hf HP
  have HN := zx (fun E (hE : ∀ x, x ∈ E ↔ isN P x) => nu_at hE)
  have hnl := nu_len P
  rw [if_pos rfl]
  generalize hNL : nuL P = NL at *
  generalize hnP : P.length = nP at *
  have HNL := zx hnl
  have hcap : nP ≤ 60 := h60
  clear hNL hnP hnl
  go_enter Tryz.func21, Tryz.ntmps21
  go_wp2_with fail
  refine (zy CM _ (Below.new1 _)).mono ?_
  rintro e w1 ⟨rfl, b1⟩
  clear CM
  obtain ⟨y0, y1, -, -⟩ := yZ (nkept b1)
  have B1 := zx (zJ (Below.new1 _) b1)
  have hk1 := nkept b1
  clear b1
  go_wp2_with fail
  refine (zy CE _ (zy B1)).mono ?_
  rintro e w2 ⟨b, E, rfl, hS, hE, -, b2⟩
  clear CE y0 y1
  have hk2 := (b2.block _ (Array.getElem?_eq_some_iff.1 hk1).1).trans hk1
  obtain ⟨y0, y1, -, -⟩ := yZ hk2
  have B2 := zx (zJ (zy B1) b2)
  have s2 := (zy B2).size
  have HN2 := zx (zy HN E hE)
  have HS := zx hS
  clear HN hS hE b2 hk1 hk2
  go_wp2_with (at_make; refine wpList_make_full _ rfl _ _ 49 rfl w.heap.size 4 ti _ 1 Tryz.underlying49 hi0 hz0 hz1 .i64 .i64 _ _ nP rfl rfl rfl rfl (by rw [hz2]; omega) (by unfold maxLen; omega) (zy B2).size ?_; intro w3 hown hg3)
  rw [show (Value.bool false).cells = #[.bool false] from rfl, made_bool] at hown
  have b3 : Below w2.heap.size w2 w3 := ⟨hg3.os, hg3.tape, hg3.output, hg3.size, fun k hk => hg3.block k hk (by simp)⟩
  have B3 := zx (zJ (zy B2) b3)
  have HO : Hid (w3.ownsRow w.heap.size 4 1 (.slice (some ⟨w2.heap.size, 0, none⟩) nP nP) nP ((Xv NL 0).map Value.bool)) := by
   show w3.ownsRow _ _ _ _ _ _
   have e : (Xv NL 0).map Value.bool = List.replicate nP (Value.bool false) := by
    unfold Xv; rw [List.take_zero, List.nil_append, Nat.sub_zero, zy HNL, List.map_replicate]
   rw [e]; exact hown
  have HS3 := zx ((zy HS).later b3 (zy HS).lt)
  have sl := (zy HS).lt
  have hgm : w2.heap.size < w3.heap.size := by
   rcases hown.2 with ⟨e, _⟩ | ⟨g, cap, cur, e, hb, hg, _⟩
   ·cases e
   ·injection e with e; injection e with e; injection e with e; subst e; exact (Array.getElem?_eq_some_iff.1 hg).1
  clear hown hg3 b3 y0 y1 HS B2
  generalize hgm2 : w2.heap.size = gm at *
  clear hgm2
  go_wp2_with fail
  go_loopw [18] (fun i wr => ∃ (k : Nat), k ≤ nP ∧ i = .int .i64 (k : Int) ∧ Hid (wr.ownsRow w.heap.size 4 1 (.slice (some ⟨gm, 0, none⟩) nP nP) nP ((Xv NL k).map Value.bool)) ∧ Hid (SetV wr b E) ∧ Hid (Below w.heap.size w wr) ∧ b < gm ∧ gm < wr.heap.size) (fun i _ => nP - (intOf i).toNat)
  case atStart => exact ⟨0, Nat.zero_le _, rfl, HO, HS3, B3, sl, hgm⟩
  case round =>
   obtain ⟨k, hk, rfl, hO, hSr, hB, hbg, hgr⟩ := hrel
   clear HO HS3 B3 hgm sl
   by_cases hlt : k < nP
   ·have CH := zx (nhas_l b E (k : Int) wr (zy hSr) (by unfold zW; omega))
    rw [zy HN2 k] at CH
    have FS := zx (fill_set NL k (by rw [zy HNL]; exact hlt))
    have FL := fill_len NL k (by rw [zy HNL]; omega)
    rw [zy HNL] at FL
    generalize NL.getD k false = r at *
    go_wp2_with fail
    refine (zy CH).mono ?_
    rintro e w4 ⟨rfl, b4⟩
    clear CH
    have o4 := own_stay (zy hO) b4
    obtain ⟨g4, e4, q4, f4⟩ := Yo o4 (j := k) (u := ((Xv NL k).map Value.bool)[k]'(by rw [List.length_map, FL]; exact hlt)) (List.getElem?_eq_getElem _)
    have e4' : gm = g4 := by simpa [Value.ownBlock] using e4
    subst e4'
    have HO4 : Hid ((w4.setCell ⟨gm, k, none⟩ (.bool r)).ownsRow w.heap.size 4 1 (.slice (some ⟨gm, 0, none⟩) nP nP) nP ((Xv NL (k + 1)).map Value.bool)) := by
     have := own_set o4 (g := gm) rfl (j := k) (by rw [List.length_map, FL]; exact hlt) (.bool r)
     rw [← List.map_set, zy FS] at this
     exact this
    have BS4 := zx (((zy hSr).later b4 (zy hSr).lt).keep (X := w4.setCell ⟨gm, k, none⟩ (.bool r)) (Below.heap_setCell w4 ⟨gm, k, none⟩ _ b (by simp only; omega)))
    have hwg : w.heap.size ≤ gm := (o4.lt gm rfl).1
    have B4 := zx ((zJ (zy hB) b4).setCell (p := ⟨gm, k, none⟩) hwg (.bool r))
    have s4 : gm < w4.heap.size := Nat.lt_of_lt_of_le hgr b4.size
    clear o4 b4 hO hSr hB e4 FS
    go_wp2_with fail
    go_roundw
    case rel => exact ⟨k + 1, by omega, by simp, HO4, BS4, B4, hbg, by simpa using s4⟩
    case measure => simp [intOf]; omega
   ·obtain rfl : k = nP := by omega
    go_wp2_with fail
    go_ret
    refine ⟨_, rfl, ?_, zy hB⟩
    unfold BoV
    have e : Xv NL k = NL := by
     unfold Xv
     rw [zy HNL, Nat.sub_self, List.take_of_length_le (by rw [zy HNL]; exact Nat.le_refl _)]
     exact List.append_nil _
    rw [zy HNL]
    have := zy hO
    rw [e] at this
    exact this
end Go.Proofs.YtnfgobgflcmepaaGreatDoor.Nl
namespace Go.Proofs.YtnfgobgflcmepaaGreatDoor.Nl
open Go.Proofs.YtnfgobgflcmepaaGreatDoor.F
def orS (is : List Bool) (i : Nat) (b : Bool) : List Bool := is.set i (is.getD i false || b)
theorem orS_len (is : List Bool) (i : Nat) (b : Bool) : (orS is i b).length = is.length := by simp [orS]
theorem orS_up (is : List Bool) (i : Nat) (b : Bool) : LeB is (orS is i b) := by
 intro k hk
 unfold orS
 rw [List.getD_eq_getElem?_getD, List.getElem?_set]
 by_cases e : i = k
 ·subst e
  have hl : i < is.length := by
   rcases Nat.lt_or_ge i is.length with h | h
   ·exact h
   ·rw [List.getD_eq_getElem?_getD, List.getElem?_eq_none h] at hk; simp at hk
  rw [if_pos rfl, if_pos hl, hk]; rfl
 ·rw [if_neg e, ← List.getD_eq_getElem?_getD]; exact hk
theorem orS_at {is : List Bool} {i : Nat} {b : Bool} (hi : i < is.length) (hb : b = true) : (orS is i b).getD i false = true := by
 unfold orS
 rw [List.getD_eq_getElem?_getD, List.getElem?_set, if_pos rfl, if_pos hi, hb]; simp
theorem orS_le {is js : List Bool} {i : Nat} {b : Bool} (h : LeB is js) (hb : b = true → js.getD i false = true) : LeB (orS is i b) js := by
 intro k hk
 unfold orS at hk
 rw [List.getD_eq_getElem?_getD, List.getElem?_set] at hk
 by_cases e : i = k
 ·subst e
  rw [if_pos rfl] at hk
  by_cases hl : i < is.length
  ·rw [if_pos hl] at hk
   simp only [Option.getD_some, Bool.or_eq_true] at hk
   rcases hk with hk | hk
   ·exact h _ hk
   ·exact hb hk
  ·rw [if_neg hl] at hk; simp at hk
 ·rw [if_neg e, ← List.getD_eq_getElem?_getD] at hk; exact h _ hk
theorem leB_eq {is js : List Bool} (hl : is.length = js.length) (h1 : LeB is js) (h2 : LeB js is) : is = js := by
 refine List.ext_getElem hl fun i ha hb => ?_
 have e1 := h1 i
 have e2 := h2 i
 rw [List.getD_eq_getElem?_getD, List.getD_eq_getElem?_getD, List.getElem?_eq_getElem ha, List.getElem?_eq_getElem hb] at e1 e2
 simp only [Option.getD_some] at e1 e2
 rw [Bool.eq_iff_iff]
 exact ⟨e1, e2⟩
structure RdI (P : List PRD) (k i j : Nat) (is : List Bool) : Prop where
 len : is.length = P.length
 lo : LeB (itL P k) is
 hi : LeB is (nuL P)
 past : ∀ x : Nat, x < i → (itL P (k + 1)).getD x false = true → is.getD x false = true
 here : ∀ p, P[i]? = some p → ∀ a ∈ p.1.take j, qa (itL P k) a = true → is.getD i false = true
theorem RdI.first (P : List PRD) : RdI P 0 0 0 (List.replicate P.length false) :=
 ⟨by simp, fun i h => h, fun i h => by
  rw [List.getD_eq_getElem?_getD, List.getElem?_replicate] at h
  split at h <;> simp at h, fun x hx => absurd hx (by omega), fun p _ a ha => by simp at ha⟩
theorem RdI.alt {P : List PRD} {k i j : Nat} {is : List Bool} (h : RdI P k i j is) {p : PRD} {a : List SY} (hp : P[i]? = some p) (ha : p.1[j]? = some a) : RdI P k i (j + 1) (orS is i (qa is a)) := by
 have hil : i < is.length := by rw [h.len]; exact (List.getElem?_eq_some_iff.1 hp).1
 refine ⟨by rw [orS_len]; exact h.len, fun x hx => orS_up _ _ _ x (h.lo x hx), orS_le h.hi fun hb => ?_, fun x hx hs => orS_up _ _ _ x (h.past x hx hs), fun q hq b hb hn => ?_⟩
 ·have h1 := nulA_mono h.hi hb
  have h2 := nu_closed hp (List.mem_of_getElem? ha) (fun s hs => nulS_nu.1 (nulA_iff.1 h1 s hs))
  have := h2.2
  rwa [Int.toNat_natCast] at this
 ·obtain rfl : q = p := Option.some.inj (hq.symm.trans hp)
  rw [List.take_succ_eq_append_getElem (List.getElem?_eq_some_iff.1 ha).1] at hb
  rcases List.mem_append.1 hb with hb | hb
  ·exact orS_up _ _ _ i (h.here q hq b hb hn)
  ·simp at hb
   have e : q.1[j]'(List.getElem?_eq_some_iff.1 ha).1 = a := (List.getElem?_eq_some_iff.1 ha).2
   rw [e] at hb
   subst hb
   exact orS_at hil (nulA_mono h.lo hn)
theorem RdI.next {P : List PRD} {k i : Nat} {is : List Bool} {p : PRD} (hp : P[i]? = some p) (h : RdI P k i p.1.length is) : RdI P k (i + 1) 0 is := by
 refine ⟨h.len, h.lo, h.hi, fun x hx hs => ?_, fun q _ a ha => by simp at ha⟩
 by_cases e : x = i
 ·subst e
  obtain ⟨q, a, h1, h2, h3⟩ := step_at.1 hs
  obtain rfl : q = p := Option.some.inj (h1.symm.trans hp)
  exact h.here q hp a (by rw [List.take_length]; exact h2) h3
 ·exact h.past x (by omega) hs
theorem RdI.round {P : List PRD} {k : Nat} {is : List Bool} (h : RdI P k P.length 0 is) : RdI P (k + 1) 0 0 is := by
 refine ⟨h.len, fun x hx => ?_, h.hi, fun x hx => absurd hx (by omega), fun q _ a ha => by simp at ha⟩
 by_cases e : x < P.length
 ·exact h.past x e hx
 ·rw [List.getD_eq_getElem?_getD, List.getElem?_eq_none (by rw [it_len]; omega)] at hx; simp at hx
theorem RdI.done {P : List PRD} {is : List Bool} (h : RdI P P.length 0 0 is) : is = nuL P :=
 leB_eq (by rw [h.len, nu_len]) h.hi h.lo
end Go.Proofs.YtnfgobgflcmepaaGreatDoor.Nl
namespace Go.Proofs.YtnfgobgflcmepaaGreatDoor.Nl
open Go.RowKit Go.Shelf Go.Proofs.YtnfgobgflcmepaaGreatDoor.T Go.Proofs.YtnfgobgflcmepaaGreatDoor.R Go.Proofs.YtnfgobgflcmepaaGreatDoor.F
def AnyB (e : Ending) : Prop := ∃ r, e = .returned (.bool r)
theorem anyB (r : Bool) : AnyB (.returned (.bool r)) := ⟨r, rfl⟩
theorem few_l (a : Option Addr) (c nK cK : Nat) (aK : Option Addr) (P : List PRD) (w : World) (h : PrL w w.heap.size (.slice a P.length c) P) :
  Calls Tryz.prog 19 #[.agg #[.slice a P.length c, .slice aK nK cK]] w fun e w' => AnyB e ∧ Below w.heap.size w w' := by
 obtain ⟨a0, c0, e0, hc1, hc2, -⟩ := id h
 injection e0 with e1 e2 e3
 subst e1; subst e3
 unfold maxLen at hc2
 have HP := zx h
 clear h e2
 have B1 : Below w.heap.size w (w.alloc (.cells #[.slice a P.length c, .slice aK nK cK] 32)) := Below.new1 _
 have G0 := heap_alloc_new w (.cells #[.slice a P.length c, .slice aK nK cK] 32)
 by_cases h62 : 62 < P.length
 ·have b1 : decide (62 < (P.length : Int)) = true := decide_eq_true (by omega)
  generalize P.length = nP at *
  clear h62 HP G0
  go_enter Tryz.func19, Tryz.ntmps19
  go_wp2_with fail
  go_ret
  exact ⟨anyB _, B1⟩
 ·have b1 : decide (62 < (P.length : Int)) = false := decide_eq_false (by omega)
  by_cases h12 : 12 < nK
  ·have b2 : decide (12 < (nK : Int)) = true := decide_eq_true (by omega)
   generalize P.length = nP at *
   clear h62 h12 HP G0
   go_enter Tryz.func19, Tryz.ntmps19
   go_wp2_with fail
   go_ret
   exact ⟨anyB _, B1⟩
  ·have b2 : decide (12 < (nK : Int)) = false := decide_eq_false (by omega)
   clear h12
   go_enter Tryz.func19, Tryz.ntmps19
   go_wp2_with fail
   have HB1 := zx B1
   have HG0 := zx G0
   have sz : (w.alloc (.cells #[.slice a P.length c, .slice aK nK cK] 32)).heap.size = w.heap.size + 1 := by simp
   clear B1 G0
   generalize (w.alloc (.cells #[.slice a P.length c, .slice aK nK cK] 32)) = W1 at *
   obtain ⟨y0, y1, -, -⟩ := yZ (zy HG0)
   go_loop [3, 4] (fun n i => ∃ (z : Int) (j : Nat), j ≤ P.length ∧ n = .int .i64 z ∧ i = .int .i64 (j : Int)) (fun _ i => P.length - (intOf i).toNat)
   case atStart => exact ⟨0, 0, Nat.zero_le _, rfl, rfl⟩
   case round =>
    obtain ⟨z, j, hj, rfl, rfl⟩ := hrel
    by_cases hlt : j < P.length
    ·obtain ⟨a', c', e, -, -, h3⟩ := (zy HP).later (zy HB1)
     injection e with e1 e2 e3
     subst e1; subst e3
     obtain ⟨g, off, u, m, x, n', kk, rfl, hg, q0, q1, q2, hA⟩ := h3 j P[j] (by simp [hlt])
     obtain ⟨aA, cA, rfl, hA1, hA2, hA3⟩ := hA
     have HA3 := zx hA3
     unfold maxLen at hA2
     have j3 : j * 3 = 3 * j := by omega
     clear h3 e2 hA3
     generalize P[j] = p at *
     go_wp2_with fail
     go_loop [3, 5] (fun n i => ∃ (z : Int) (k : Nat), k ≤ p.1.length ∧ n = .int .i64 z ∧ i = .int .i64 (k : Int)) (fun _ i => p.1.length - (intOf i).toNat)
     case atStart => exact ⟨z, 0, Nat.zero_le _, rfl, rfl⟩
     case round =>
      obtain ⟨z1, k, hk, rfl, rfl⟩ := hrel
      by_cases hlt2 : k < p.1.length
      ·obtain ⟨g2, off2, u2, rfl, hg2, r0, hsy⟩ := zy HA3 k p.1[k] (by simp [hlt2])
       obtain ⟨a5, c5, rfl, hs1, hs2, hs3⟩ := hsy
       have HS3 := zx hs3
       unfold maxLen at hs2
       clear hs3
       generalize p.1[k] = l at *
       go_wp2_with fail
       go_loop [3, 6] (fun n i => ∃ (z : Int) (m : Nat), m ≤ l.length ∧ n = .int .i64 z ∧ i = .int .i64 (m : Int)) (fun _ i => l.length - (intOf i).toNat)
       case atStart => exact ⟨_, 0, Nat.zero_le _, rfl, rfl⟩
       case round =>
        obtain ⟨z2, m5, hm5, rfl, rfl⟩ := hrel
        by_cases hlt3 : m5 < l.length
        ·obtain ⟨hf, g5, off5, x5, n5, k5, rfl, hg5, t0, t1, t2⟩ := zy HS3 m5 l[m5] (by simp [hlt3])
         have m3 : m5 * 3 = 3 * m5 := by omega
         by_cases hz : z2 < 1000
         ·go_wp2_with fail
          go_round
          case rel => exact ⟨_, m5 + 1, by omega, rfl, by simp⟩
          case measure => simp [intOf]; omega
         ·go_wp2_with fail
          go_round
          case rel => exact ⟨_, k + 1, by omega, rfl, by simp⟩
          case measure => simp [intOf]; omega
        ·obtain rfl : m5 = l.length := by omega
         go_wp2_with fail
         go_round
         case rel => exact ⟨_, k + 1, by omega, rfl, by simp⟩
         case measure => simp [intOf]; omega
      ·obtain rfl : k = p.1.length := by omega
       go_wp2_with fail
       all_goals first
        | (go_ret; exact ⟨anyB _, zy HB1⟩)
        | (go_round; (case rel => exact ⟨_, j + 1, by omega, rfl, by simp⟩); (case measure => (simp [intOf]; omega)))
    ·obtain rfl : j = P.length := by omega
     go_wp2_with fail
     go_ret
     exact ⟨anyB _, zy HB1⟩
def allB (l : List (Int × Int)) : Bool := l.all fun r => decide (r.2 ≤ 255)
theorem last_ge : ∀ (l : List (Int × Int)) (least : Int), G.zu least l = true → ∀ r ∈ l, r.2 ≤ (l.getD (l.length - 1) (0, 0)).2 := by
 intro l
 induction l with
 | nil => intro _ _ r hr; cases hr
 | cons x t ih =>
  intro least h r hr
  unfold G.zu at h
  simp only [Bool.and_eq_true, decide_eq_true_eq] at h
  cases t with
  | nil => simp at hr; subst hr; simp
  | cons y t =>
   have h4 := h.2
   have e : ((x :: y :: t).getD ((x :: y :: t).length - 1) (0, 0)).2 = ((y :: t).getD ((y :: t).length - 1) (0, 0)).2 := by simp [List.getD_eq_getElem?_getD]
   rw [e]
   rcases List.mem_cons.1 hr with rfl | hr
   ·have := ih _ h4 y List.mem_cons_self
    unfold G.zu at h4
    simp only [Bool.and_eq_true, decide_eq_true_eq] at h4
    omega
   ·exact ih _ h4 r hr
theorem by_all {l : List (Int × Int)} (h : G.zQ l = true) : byB l = allB l := by
 unfold byB
 rw [Bool.eq_iff_iff]
 simp only [Bool.or_eq_true, decide_eq_true_eq, allB, List.all_eq_true]
 constructor
 ·intro hh r hr
  rcases hh with hh | hh
  ·have := List.eq_nil_of_length_eq_zero hh; subst this; cases hr
  ·have := last_ge l 0 h r hr; omega
 ·intro hh
  by_cases h0 : l.length = 0
  ·exact .inl h0
  ·refine .inr (hh _ ?_)
   rw [List.getD_eq_getElem?_getD, List.getElem?_eq_getElem (by omega)]
   exact List.getElem_mem (by omega)
theorem symB_no {k N many : Int} {R : List (Int × Int)} (h2 : k ≠ 2) : jJ (k, R, N) many = ((!decide (k = 0) || allB R) && ((decide (k = 0) || decide (k = 1)) && (G.zQ R && decide (N = 0)))) := by
 unfold jJ
 simp only [h2, if_false]
 by_cases h0 : k = 0
 ·rw [if_pos h0]
  cases hm : G.zQ R with
  | false => simp
  | true => rw [by_all hm]; cases allB R <;> simp [h0]
 ·rw [if_neg h0]
  by_cases h1 : k = 1
  ·rw [if_pos h1]; subst h1; simp [Bool.and_comm]
  ·rw [if_neg h1]; simp [h0, h1]
theorem allB_take {l : List (Int × Int)} {j : Nat} (h : j < l.length) : allB (l.take (j + 1)) = (allB (l.take j) && decide ((l.getD j (0, 0)).2 ≤ 255)) := by
 unfold allB
 rw [List.take_succ_eq_append_getElem h, List.all_append, List.getD_eq_getElem?_getD, List.getElem?_eq_getElem h]; simp
theorem allB_no {l : List (Int × Int)} {j : Nat} (h : j < l.length) (hb : ¬ (l.getD j (0, 0)).2 ≤ 255) : allB l = false := by
 unfold allB
 rw [Bool.eq_false_iff]
 intro c
 rw [List.all_eq_true] at c
 have := c _ (List.getElem_mem h)
 rw [List.getD_eq_getElem?_getD, List.getElem?_eq_getElem h] at hb
 simp at this hb; omega
theorem sym8_l (s : SY) (a : Option Addr) (c : Nat) (many : Int) (w : World) (h : Rs w a s.2.1.length c s.2.1) :
  Calls Tryz.prog 90 #[.agg #[.int .i64 s.1, .slice a s.2.1.length c, .int .i64 s.2.2], .int .i64 many] w fun e w' => e = .returned (.bool (jJ s many)) ∧ Below w.heap.size w w' := by
 have B1 : ∀ o, Below w.heap.size w (w.alloc o) := fun o => Below.new1 o
 have CM := zx (fun W (bW : Below w.heap.size w W) => rgRefMay_any a s.2.1.length c s.2.1 W (h.later bW (Nat.le_refl _)))
 obtain ⟨k, R, N⟩ := s
 simp only at h CM ⊢
 have hc := h.hcap
 have hm := h.hmax
 unfold maxLen at hm
 have HR := zx h
 clear h
 by_cases hk2 : k = 2
 ·have bk : (k == 2) = true := by simp [hk2]
  have FIN : Hid (jJ (k, R, N) many = (decide (0 ≤ N) && (decide (N < many) && decide (R.length = 0)))) := by show _ = _; unfold jJ; simp [hk2]
  clear hk2 HR
  generalize hrm : G.zQ R = rm at *
  clear hrm
  generalize jJ (k, R, N) many = sb at *
  generalize R.length = n at *
  go_enter Tryz.func90, Tryz.ntmps90
  go_wp2_with fail
  refine (zy CM _ (B1 _)).mono ?_
  rintro e w1 ⟨rfl, b1⟩
  clear CM
  obtain ⟨⟨x0, x1, x2⟩, -⟩ := qZ (zV b1)
  have BB := zx (zw (B1 _) b1)
  clear b1
  by_cases h0 : 0 ≤ N
  ·have b0 : decide (0 ≤ N) = true := decide_eq_true h0
   by_cases hn : N < many
   ·have bn : decide (N < many) = true := decide_eq_true hn
    by_cases hz : n = 0
    ·have bz : ((n : Int) == 0) = true := by simp [hz]
     have bz2 : (n == 0) = true := by simp [hz]
     have FB : Hid (sb = true) := by show _ = _; rw [zy FIN]; simp [h0, hn, hz]
     clear FIN h0 hn hz
     go_wp2_with fail
     go_ret
     exact ⟨zZ (zy FB).symm, zy BB⟩
    ·have bz : ((n : Int) == 0) = false := by simp; omega
     have bz2 : (n == 0) = false := by simp [hz]
     have FB : Hid (sb = false) := by show _ = _; rw [zy FIN]; simp [hz]
     clear FIN h0 hn hz
     go_wp2_with fail
     go_ret
     exact ⟨zZ (zy FB).symm, zy BB⟩
   ·have bn : decide (N < many) = false := decide_eq_false hn
    have FB : Hid (sb = false) := by show _ = _; rw [zy FIN]; simp [hn]
    clear FIN h0 hn
    go_wp2_with fail
    go_ret
    exact ⟨zZ (zy FB).symm, zy BB⟩
  ·have b0 : decide (0 ≤ N) = false := decide_eq_false h0
   have FB : Hid (sb = false) := by show _ = _; rw [zy FIN]; simp [h0]
   clear FIN h0
   go_wp2_with fail
   go_ret
   exact ⟨zZ (zy FB).symm, zy BB⟩
 ·have bk : (k == 2) = false := by simp [hk2]
  have FIN := zx (symB_no (k := k) (N := N) (many := many) (R := R) hk2)
  generalize hrm : G.zQ R = rm at *
  clear hrm hk2
  generalize jJ (k, R, N) many = sb at *
  go_enter Tryz.func90, Tryz.ntmps90
  go_wp2_with fail
  refine (zy CM _ (B1 _)).mono ?_
  rintro e w1 ⟨rfl, b1⟩
  clear CM
  obtain ⟨⟨x0, x1, x2⟩, -⟩ := qZ (zV b1)
  have BB := zx (zw (B1 _) b1)
  clear b1
  go_wp2_with fail
  go_loopw [6] (fun v wr => ∃ (j : Nat), j ≤ R.length ∧ v = .int .i64 (j : Int) ∧ Hid (k = 0 → allB (R.take j) = true) ∧ Hid (Below w1.heap.size w1 wr)) (fun v _ => R.length - (intOf v).toNat)
  case atStart => exact ⟨0, Nat.zero_le _, rfl, fun _ => rfl, Below.refl _ _⟩
  case round =>
   obtain ⟨j, hj, rfl, hA, hB⟩ := hrel
   have B0 := zw (zy BB) (zy hB)
   have y0 : ∀ d, (wr.drewN d).cell? ⟨w.heap.size, 0, none⟩ = some (.int .i64 k) := fun d => ((zy hB).cell (p := ⟨w.heap.size, 0, none⟩) (zY x0)).trans x0
   have y1 : ∀ d, (wr.drewN d).cell? ⟨w.heap.size, 1, none⟩ = some (.slice a R.length c) := fun d => ((zy hB).cell (p := ⟨w.heap.size, 1, none⟩) (zY x1)).trans x1
   have y2 : ∀ d, (wr.drewN d).cell? ⟨w.heap.size, 2, none⟩ = some (.int .i64 N) := fun d => ((zy hB).cell (p := ⟨w.heap.size, 2, none⟩) (zY x2)).trans x2
   have z0 := y0 0
   have z1 := y1 0
   have z2 := y2 0
   simp only [World.drewN_zero] at z0 z1 z2
   by_cases hlt : j < R.length
   ·obtain ⟨g, off, rfl, q1, q2⟩ := (zy HR).hcell j hlt
    have hg : g < w.heap.size := zY q2
    have j2 : j * 2 = 2 * j := by omega
    rw [j2] at q2
    have r2 : ∀ d, (wr.drewN d).cell? ⟨g, off + 2 * j + 1, none⟩ = some (.int .i64 (R.getD j (0, 0)).2) := fun d => (B0.cell (p := ⟨g, off + 2 * j + 1, none⟩) hg).trans q2
    have t2 := r2 0
    simp only [World.drewN_zero] at t2
    have ST := zx (allB_take (l := R) hlt)
    have NO := zx (fun hb => allB_no (l := R) (j := j) hlt hb)
    clear q1 q2
    generalize (R.getD j (0, 0)).2 = H at *
    by_cases hk0 : k = 0
    ·have b0 : (k == 0) = true := by simp [hk0]
     by_cases hH : H ≤ 255
     ·have bH : decide (255 < H) = false := decide_eq_false (by omega)
      have NX : Hid (k = 0 → allB (R.take (j + 1)) = true) := fun _ => by rw [zy ST, zy hA hk0]; simp [hH]
      clear ST NO hA hk0 B0 hH
      go_wp2_with fail
      all_goals try go_quiet (fail)
      all_goals try go_wp2_with fail
      first | exact ⟨⟨j + 1, by omega, by simp, NX, hB⟩, by simp [intOf]; omega⟩ | exact ⟨⟨j + 1, by omega, by simp, NX, (zy hB).trans zk⟩, by simp [intOf]; omega⟩
     ·have bH : decide (255 < H) = true := decide_eq_true (by omega)
      have FB : Hid (sb = false) := by show _ = _; rw [zy FIN, zy NO hH]; simp [hk0]
      clear ST NO hA hk0 hH FIN
      go_wp2_with fail
      all_goals try go_quiet (fail)
      all_goals try go_wp2_with fail
      go_ret
      first | exact ⟨zZ (zy FB).symm, B0⟩ | exact ⟨zZ (zy FB).symm, B0.trans zk⟩
    ·have b0 : (k == 0) = false := by simp [hk0]
     have NX : Hid (k = 0 → allB (R.take (j + 1)) = true) := fun e => absurd e hk0
     clear ST NO hA hk0 B0
     go_wp2_with fail
     all_goals try go_quiet (fail)
     all_goals try go_wp2_with fail
     first | exact ⟨⟨j + 1, by omega, by simp, NX, hB⟩, by simp [intOf]; omega⟩ | exact ⟨⟨j + 1, by omega, by simp, NX, (zy hB).trans zk⟩, by simp [intOf]; omega⟩
   ·obtain rfl : j = R.length := by omega
    have FB : Hid (sb = ((decide (k = 0) || decide (k = 1)) && (rm && decide (N = 0)))) := by
     show _ = _
     rw [zy FIN]
     by_cases hk0 : k = 0
     ·have := zy hA hk0
      rw [List.take_length] at this
      rw [this]; simp [hk0]
     ·simp [hk0]
    clear FIN hA
    rcases (show (k = 0 ∧ k ≠ 1) ∨ (k ≠ 0 ∧ k = 1) ∨ (k ≠ 0 ∧ k ≠ 1) by omega) with ⟨hk0, hk1⟩ | ⟨hk0, hk1⟩ | ⟨hk0, hk1⟩
    ·by_cases hN : N = 0
     ·have b0 : (k == 0) = true := by simp; omega
      have b1 : (k == 1) = false := by simp; omega
      have bn : (N == 0) = true := by simp; omega
      cases rm with
      | false =>
       have FC : Hid (sb = false) := by show _ = _; rw [zy FB]; simp
       clear FB hN hk0 hk1
       go_wp2_with fail
       all_goals try go_quiet (fail)
       all_goals try go_wp2_with fail
       go_ret
       first | exact ⟨zZ (zy FC).symm, B0⟩ | exact ⟨zZ (zy FC).symm, B0.trans zk⟩
      | true =>
       have FC : Hid (sb = true) := by show _ = _; rw [zy FB]; simp [hk0, hk1, hN]
       clear FB hN hk0 hk1
       go_wp2_with fail
       all_goals try go_quiet (fail)
       all_goals try go_wp2_with fail
       go_ret
       first | exact ⟨zZ (zy FC).symm, B0⟩ | exact ⟨zZ (zy FC).symm, B0.trans zk⟩
     ·have b0 : (k == 0) = true := by simp; omega
      have b1 : (k == 1) = false := by simp; omega
      have bn : (N == 0) = false := by simp; omega
      cases rm with
      | false =>
       have FC : Hid (sb = false) := by show _ = _; rw [zy FB]; simp
       clear FB hN hk0 hk1
       go_wp2_with fail
       all_goals try go_quiet (fail)
       all_goals try go_wp2_with fail
       go_ret
       first | exact ⟨zZ (zy FC).symm, B0⟩ | exact ⟨zZ (zy FC).symm, B0.trans zk⟩
      | true =>
       have FC : Hid (sb = false) := by show _ = _; rw [zy FB]; simp [hk0, hk1, hN]
       clear FB hN hk0 hk1
       go_wp2_with fail
       all_goals try go_quiet (fail)
       all_goals try go_wp2_with fail
       go_ret
       first | exact ⟨zZ (zy FC).symm, B0⟩ | exact ⟨zZ (zy FC).symm, B0.trans zk⟩
    ·by_cases hN : N = 0
     ·have b0 : (k == 0) = false := by simp; omega
      have b1 : (k == 1) = true := by simp; omega
      have bn : (N == 0) = true := by simp; omega
      cases rm with
      | false =>
       have FC : Hid (sb = false) := by show _ = _; rw [zy FB]; simp
       clear FB hN hk0 hk1
       go_wp2_with fail
       all_goals try go_quiet (fail)
       all_goals try go_wp2_with fail
       go_ret
       first | exact ⟨zZ (zy FC).symm, B0⟩ | exact ⟨zZ (zy FC).symm, B0.trans zk⟩
      | true =>
       have FC : Hid (sb = true) := by show _ = _; rw [zy FB]; simp [hk0, hk1, hN]
       clear FB hN hk0 hk1
       go_wp2_with fail
       all_goals try go_quiet (fail)
       all_goals try go_wp2_with fail
       go_ret
       first | exact ⟨zZ (zy FC).symm, B0⟩ | exact ⟨zZ (zy FC).symm, B0.trans zk⟩
     ·have b0 : (k == 0) = false := by simp; omega
      have b1 : (k == 1) = true := by simp; omega
      have bn : (N == 0) = false := by simp; omega
      cases rm with
      | false =>
       have FC : Hid (sb = false) := by show _ = _; rw [zy FB]; simp
       clear FB hN hk0 hk1
       go_wp2_with fail
       all_goals try go_quiet (fail)
       all_goals try go_wp2_with fail
       go_ret
       first | exact ⟨zZ (zy FC).symm, B0⟩ | exact ⟨zZ (zy FC).symm, B0.trans zk⟩
      | true =>
       have FC : Hid (sb = false) := by show _ = _; rw [zy FB]; simp [hk0, hk1, hN]
       clear FB hN hk0 hk1
       go_wp2_with fail
       all_goals try go_quiet (fail)
       all_goals try go_wp2_with fail
       go_ret
       first | exact ⟨zZ (zy FC).symm, B0⟩ | exact ⟨zZ (zy FC).symm, B0.trans zk⟩
    ·by_cases hN : N = 0
     ·have b0 : (k == 0) = false := by simp; omega
      have b1 : (k == 1) = false := by simp; omega
      have bn : (N == 0) = true := by simp; omega
      cases rm with
      | false =>
       have FC : Hid (sb = false) := by show _ = _; rw [zy FB]; simp
       clear FB hN hk0 hk1
       go_wp2_with fail
       all_goals try go_quiet (fail)
       all_goals try go_wp2_with fail
       go_ret
       first | exact ⟨zZ (zy FC).symm, B0⟩ | exact ⟨zZ (zy FC).symm, B0.trans zk⟩
      | true =>
       have FC : Hid (sb = false) := by show _ = _; rw [zy FB]; simp [hk0, hk1, hN]
       clear FB hN hk0 hk1
       go_wp2_with fail
       all_goals try go_quiet (fail)
       all_goals try go_wp2_with fail
       go_ret
       first | exact ⟨zZ (zy FC).symm, B0⟩ | exact ⟨zZ (zy FC).symm, B0.trans zk⟩
     ·have b0 : (k == 0) = false := by simp; omega
      have b1 : (k == 1) = false := by simp; omega
      have bn : (N == 0) = false := by simp; omega
      cases rm with
      | false =>
       have FC : Hid (sb = false) := by show _ = _; rw [zy FB]; simp
       clear FB hN hk0 hk1
       go_wp2_with fail
       all_goals try go_quiet (fail)
       all_goals try go_wp2_with fail
       go_ret
       first | exact ⟨zZ (zy FC).symm, B0⟩ | exact ⟨zZ (zy FC).symm, B0.trans zk⟩
      | true =>
       have FC : Hid (sb = false) := by show _ = _; rw [zy FB]; simp [hk0, hk1, hN]
       clear FB hN hk0 hk1
       go_wp2_with fail
       all_goals try go_quiet (fail)
       all_goals try go_wp2_with fail
       go_ret
       first | exact ⟨zZ (zy FC).symm, B0⟩ | exact ⟨zZ (zy FC).symm, B0.trans zk⟩
end Go.Proofs.YtnfgobgflcmepaaGreatDoor.Nl
