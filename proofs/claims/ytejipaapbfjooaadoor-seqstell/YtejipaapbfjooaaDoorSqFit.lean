/- Plain mathematics of layer 3 (seqs): how bytes are of a set's sequences. No program is named here. -/
import Derived.Test.YtejipaapbfjooaaDoorSqMath
namespace Go.Proofs.YtejipaapbfjooaaDoor.Q
set_option linter.unusedSimpArgs false
set_option linter.unusedVariables false

theorem fits_le (s : List (Int × Int)) (b : List Int) : fitsL s b ≤ s.length ∧ fitsL s b ≤ b.length := by
  induction s generalizing b with
  | nil => simp [fitsL]
  | cons r s ih =>
    cases b with
    | nil => simp [fitsL]
    | cons z b =>
      have := ih b
      simp only [fitsL, List.length_cons]
      split <;> omega
theorem fits_nil (s : List (Int × Int)) : fitsL s [] = 0 := by cases s <;> rfl

/-- all of the bytes are of the ranges -/
def all2 : List (Int × Int) → List Int → Prop
  | [], [] => True
  | r :: s, z :: b => (r.1 ≤ z ∧ z ≤ r.2) ∧ all2 s b
  | _, _ => False
theorem all2_length {s : List (Int × Int)} {b : List Int} (h : all2 s b) : s.length = b.length := by
  induction s generalizing b with
  | nil => cases b <;> simp_all [all2]
  | cons r s ih =>
    cases b with
    | nil => simp [all2] at h
    | cons z b => simp [ih h.2]
theorem fits_all {s : List (Int × Int)} {b : List Int} : fitsL s b = s.length ↔ ∃ c d, b = c ++ d ∧ all2 s c := by
  induction s generalizing b with
  | nil => exact ⟨fun _ => ⟨[], b, rfl, trivial⟩, fun _ => rfl⟩
  | cons r s ih =>
    cases b with
    | nil =>
      simp only [fitsL, List.length_cons]
      constructor
      · intro h; omega
      · rintro ⟨c, d, e, h⟩
        have := all2_length h
        have := congrArg List.length e
        simp at *; omega
    | cons z b =>
      simp only [fitsL, List.length_cons]
      constructor
      · intro h
        split at h
        · next c =>
          have h' : fitsL s b = s.length := by omega
          obtain ⟨x, y, e, hx⟩ := ih.1 h'
          exact ⟨z :: x, y, by rw [e]; rfl, c, hx⟩
        · omega
      · rintro ⟨c, d, e, h⟩
        cases c with
        | nil => simp [all2] at h
        | cons z' c =>
          simp at e
          obtain ⟨rfl, rfl⟩ := e
          rw [if_pos h.1, ih.2 ⟨c, d, rfl, h.2⟩]
theorem all2_fits {s : List (Int × Int)} {b : List Int} (h : all2 s b) (k : Nat) : fitsL s (b.take k) = min k s.length := by
  induction s generalizing b k with
  | nil => simp [fitsL]
  | cons r s ih =>
    cases b with
    | nil => simp [all2] at h
    | cons z b =>
      cases k with
      | zero => simp [fitsL]
      | succ k =>
        rw [List.take_succ_cons]
        simp only [fitsL, List.length_cons]
        rw [if_pos h.1, ih h.2]; omega

theorem put1 {r : Int} (h : r ≤ 127) : U.putL r = [r] := by unfold U.putL; rw [if_pos (by omega)]
theorem put2 {r : Int} (h0 : 128 ≤ r) (h : r ≤ 2047) : U.putL r = [192 + r / 64, 128 + r % 64] := by unfold U.putL; rw [if_neg (by omega), if_pos (by omega)]
theorem put3 {r : Int} (h0 : 2048 ≤ r) (h : r ≤ 65535) : U.putL r = [224 + r / 4096, 128 + r / 64 % 64, 128 + r % 64] := by unfold U.putL; rw [if_neg (by omega), if_neg (by omega), if_pos (by omega)]
theorem put4 {r : Int} (h0 : 65536 ≤ r) : U.putL r = [240 + r / 262144, 128 + r / 4096 % 64, 128 + r / 64 % 64, 128 + r % 64] := by unfold U.putL; rw [if_neg (by omega), if_neg (by omega), if_neg (by omega)]

/-- the product of a sequence's ranges -/
def prodL : List (Int × Int) → Int
  | [] => 1
  | r :: s => (r.2 - r.1 + 1) * prodL s

/-- what is told of a piece's sequence -/
structure Told (p : Int × Int) : Prop where
  hmay : ∀ r, p.1 ≤ r → r ≤ p.2 → U.mayB r = true
  hput : ∀ r, p.1 ≤ r → r ≤ p.2 → all2 (seqL p) (U.putL r)
  hget : ∀ c, all2 (seqL p) c → ∃ r, p.1 ≤ r ∧ r ≤ p.2 ∧ c = U.putL r
  hlen : 1 ≤ (seqL p).length ∧ (seqL p).length ≤ 4
  hbyte : ∀ r ∈ seqL p, 0 ≤ r.1 ∧ r.1 ≤ r.2 ∧ r.2 ≤ 255
  hprod : prodL (seqL p) = p.2 - p.1 + 1
  hsame : (U.putL p.1).length = (U.putL p.2).length

theorem told1 {p : Int × Int} (h : p.1 ≤ p.2) (h0 : 0 ≤ p.1) (h1 : p.2 ≤ 127) : Told p := by
  obtain ⟨x, y⟩ := p
  simp only at *
  have e : seqL (x, y) = [(x, y)] := by simp [seqL, put1 h1, put1 (show x ≤ 127 by omega)]
  refine ⟨fun r a b => by rw [U.may_iff]; simp only at *; omega, fun r a b => ?_, fun c hc => ?_, by rw [e]; simp, fun r hr => by rw [e] at hr; simp at hr; subst hr; simp only; omega, by rw [e]; simp [prodL], by rw [put1 h1, put1 (show x ≤ 127 by omega)]; rfl⟩
  · simp only at a b
    rw [e, put1 (by omega)]; exact ⟨⟨a, b⟩, trivial⟩
  · rw [e] at hc
    match c, hc with
    | [z], hc => simp only [all2, and_true] at hc; exact ⟨z, hc.1, hc.2, (put1 (by omega)).symm⟩

theorem dig2 (x : Int) : ∃ a b, x / 64 = a ∧ x % 64 = b ∧ x = 64 * a + b ∧ 0 ≤ b ∧ b ≤ 63 := ⟨_, _, rfl, rfl, by omega, by omega, by omega⟩
theorem dig3 (x : Int) : ∃ a b c, x / 4096 = a ∧ x / 64 % 64 = b ∧ x % 64 = c ∧ x = 4096 * a + 64 * b + c ∧ (0 ≤ b ∧ b ≤ 63) ∧ (0 ≤ c ∧ c ≤ 63) := ⟨_, _, _, rfl, rfl, rfl, by omega, by omega, by omega⟩
theorem dig4 (x : Int) : ∃ a b c d, x / 262144 = a ∧ x / 4096 % 64 = b ∧ x / 64 % 64 = c ∧ x % 64 = d ∧ x = 262144 * a + 4096 * b + 64 * c + d ∧ (0 ≤ b ∧ b ≤ 63) ∧ (0 ≤ c ∧ c ≤ 63) ∧ (0 ≤ d ∧ d ≤ 63) := ⟨_, _, _, _, rfl, rfl, rfl, rfl, by omega, by omega, by omega, by omega⟩

theorem told2 {p : Int × Int} (h : p.1 ≤ p.2) (h0 : 128 ≤ p.1) (h1 : p.2 ≤ 2047) (e1 : even 64 p) : Told p := by
  obtain ⟨x, y⟩ := p
  unfold even at e1
  simp only at *
  have px := put2 h0 (show x ≤ 2047 by omega)
  have py := put2 (show 128 ≤ y by omega) h1
  obtain ⟨a, b, ea, eb, ex, hb⟩ := dig2 x
  obtain ⟨A, B, eA, eB, ey, hB⟩ := dig2 y
  rw [ea, eb] at px
  rw [eA, eB] at py
  rw [ea, eb, eA, eB] at e1
  have e : seqL (x, y) = [(192 + a, 192 + A), (128 + b, 128 + B)] := by simp [seqL, px, py]
  have F : (a = A ∧ b ≤ B) ∨ (a ≤ A ∧ b = 0 ∧ B = 63) := by omega
  clear e1 ea eb eA eB
  refine ⟨fun r u v => by rw [U.may_iff]; simp only at *; omega, fun r u v => ?_, fun c hc => ?_, by rw [e]; simp, fun r hr => ?_, ?_, by rw [px, py]; rfl⟩
  · simp only at u v
    obtain ⟨f, g, ef, eg, er, hg⟩ := dig2 r
    rw [e, put2 (by omega) (by omega), ef, eg]
    clear ef eg
    refine ⟨?_, ?_, trivial⟩ <;> dsimp only <;> omega
  · rw [e] at hc
    match c, hc with
    | [z0, z1], hc =>
      simp only [all2, and_true] at hc
      have b0 : x ≤ (z0 - 192) * 64 + (z1 - 128) := by omega
      have b1 : (z0 - 192) * 64 + (z1 - 128) ≤ y := by omega
      have c0 : 0 ≤ z1 - 128 ∧ z1 - 128 ≤ 63 := by omega
      refine ⟨_, b0, b1, ?_⟩
      rw [put2 (by omega) (by omega), show ((z0 - 192) * 64 + (z1 - 128)) / 64 = z0 - 192 by omega, show ((z0 - 192) * 64 + (z1 - 128)) % 64 = z1 - 128 by omega]
      simp only [List.cons.injEq, and_true]; omega
  · rw [e] at hr
    simp at hr
    rcases hr with rfl | rfl <;> dsimp only <;> omega
  · rw [e]
    simp only [prodL, Int.mul_one]
    rcases F with ⟨f1, f2⟩ | ⟨f1, f2, f3⟩
    · rw [show 192 + A - (192 + a) + 1 = 1 by omega]; omega
    · rw [show 128 + B - (128 + b) + 1 = 64 by omega]; omega

theorem told3 {p : Int × Int} (h : p.1 ≤ p.2) (hb : (2048 ≤ p.1 ∧ p.2 ≤ 55295) ∨ (57344 ≤ p.1 ∧ p.2 ≤ 65535)) (e2 : even 4096 p) (e1 : even 64 p) : Told p := by
  obtain ⟨x, y⟩ := p
  unfold even at e1 e2
  simp only at *
  have h0 : 2048 ≤ x := by omega
  have h1 : y ≤ 65535 := by omega
  have px := put3 h0 (show x ≤ 65535 by omega)
  have py := put3 (show 2048 ≤ y by omega) h1
  obtain ⟨a, b, c, ea, eb, ec, ex, hb', hc'⟩ := dig3 x
  obtain ⟨A, B, C, eA, eB, eC, ey, hB, hC⟩ := dig3 y
  rw [ea, eb, ec] at px
  rw [eA, eB, eC] at py
  have F : (a = A ∧ b = B ∧ c ≤ C) ∨ (a = A ∧ b ≤ B ∧ c = 0 ∧ C = 63) ∨ (a ≤ A ∧ b = 0 ∧ c = 0 ∧ B = 63 ∧ C = 63) := by
    have q1 : x / 64 = 64 * a + b := by omega
    have q2 : y / 64 = 64 * A + B := by omega
    have q3 : x % 4096 = 64 * b + c := by omega
    have q4 : y % 4096 = 64 * B + C := by omega
    rw [ea, eA, q3, q4] at e2
    rw [q1, q2, ec, eC] at e1
    clear q1 q2 q3 q4 ea eb ec eA eB eC
    omega
  have e : seqL (x, y) = [(224 + a, 224 + A), (128 + b, 128 + B), (128 + c, 128 + C)] := by simp [seqL, px, py]
  clear e1 e2 ea eb ec eA eB eC
  refine ⟨fun r u v => by rw [U.may_iff]; simp only at *; omega, fun r u v => ?_, fun l hl => ?_, by rw [e]; simp, fun r hr => ?_, ?_, by rw [px, py]; rfl⟩
  · simp only at u v
    obtain ⟨f, g, k, ef, eg, ek, er, hg, hk⟩ := dig3 r
    rw [e, put3 (by omega) (by omega), ef, eg, ek]
    clear ef eg ek
    rcases F with F | F | F <;> refine ⟨?_, ?_, ?_, trivial⟩ <;> dsimp only <;> omega
  · rw [e] at hl
    match l, hl with
    | [z0, z1, z2], hl =>
      simp only [all2, and_true] at hl
      obtain ⟨g0, e0⟩ : ∃ g, g = z0 - 224 := ⟨_, rfl⟩
      obtain ⟨g1, e1⟩ : ∃ g, g = z1 - 128 := ⟨_, rfl⟩
      obtain ⟨g2, e2⟩ : ∃ g, g = z2 - 128 := ⟨_, rfl⟩
      have c1 : 0 ≤ g1 ∧ g1 ≤ 63 := by omega
      have c2 : 0 ≤ g2 ∧ g2 ≤ 63 := by omega
      have b0 : x ≤ 4096 * g0 + 64 * g1 + g2 := by rcases F with F | F | F <;> omega
      have b1 : 4096 * g0 + 64 * g1 + g2 ≤ y := by rcases F with F | F | F <;> omega
      refine ⟨_, b0, b1, ?_⟩
      rw [put3 (by omega) (by omega), show (4096 * g0 + 64 * g1 + g2) / 4096 = g0 by omega, show (4096 * g0 + 64 * g1 + g2) / 64 % 64 = g1 by omega, show (4096 * g0 + 64 * g1 + g2) % 64 = g2 by omega]
      simp only [List.cons.injEq, and_true]; omega
  · rw [e] at hr
    simp at hr
    rcases F with F | F | F <;> rcases hr with rfl | rfl | rfl <;> dsimp only <;> omega
  · rw [e]
    simp only [prodL, Int.mul_one]
    rcases F with ⟨f1, f2, f3⟩ | ⟨f1, f2, f3, f4⟩ | ⟨f1, f2, f3, f4, f5⟩
    · rw [show 224 + A - (224 + a) + 1 = 1 by omega, show 128 + B - (128 + b) + 1 = 1 by omega]; omega
    · rw [show 224 + A - (224 + a) + 1 = 1 by omega, show 128 + C - (128 + c) + 1 = 64 by omega]; omega
    · rw [show 128 + B - (128 + b) + 1 = 64 by omega, show 128 + C - (128 + c) + 1 = 64 by omega]; omega

theorem told4 {p : Int × Int} (h : p.1 ≤ p.2) (h0 : 65536 ≤ p.1) (h1 : p.2 ≤ 1114111) (e3 : even 262144 p) (e2 : even 4096 p) (e1 : even 64 p) : Told p := by
  obtain ⟨x, y⟩ := p
  unfold even at e1 e2 e3
  simp only at *
  have px := put4 h0
  have py := put4 (show 65536 ≤ y by omega)
  obtain ⟨a, b, c, d, ea, eb, ec, ed, ex, hb', hc', hd'⟩ := dig4 x
  obtain ⟨A, B, C, D, eA, eB, eC, eD, ey, hB, hC, hD⟩ := dig4 y
  rw [ea, eb, ec, ed] at px
  rw [eA, eB, eC, eD] at py
  have F : (a = A ∧ b = B ∧ c = C ∧ d ≤ D) ∨ (a = A ∧ b = B ∧ c ≤ C ∧ d = 0 ∧ D = 63) ∨ (a = A ∧ b ≤ B ∧ c = 0 ∧ d = 0 ∧ C = 63 ∧ D = 63) ∨ (a ≤ A ∧ b = 0 ∧ c = 0 ∧ d = 0 ∧ B = 63 ∧ C = 63 ∧ D = 63) := by
    have q1 : x / 64 = 4096 * a + 64 * b + c := by omega
    have q2 : y / 64 = 4096 * A + 64 * B + C := by omega
    have q3 : x % 4096 = 64 * c + d := by omega
    have q4 : y % 4096 = 64 * C + D := by omega
    have q5 : x / 4096 = 64 * a + b := by omega
    have q6 : y / 4096 = 64 * A + B := by omega
    have q7 : x % 262144 = 4096 * b + 64 * c + d := by omega
    have q8 : y % 262144 = 4096 * B + 64 * C + D := by omega
    rw [ea, eA, q7, q8] at e3
    rw [q5, q6, q3, q4] at e2
    rw [q1, q2, ed, eD] at e1
    clear q1 q2 q3 q4 q5 q6 q7 q8 ea eb ec ed eA eB eC eD px py
    rcases e1 with e1 | e1 <;> rcases e2 with e2 | e2 <;> rcases e3 with e3 | e3 <;> omega
  have e : seqL (x, y) = [(240 + a, 240 + A), (128 + b, 128 + B), (128 + c, 128 + C), (128 + d, 128 + D)] := by simp [seqL, px, py]
  clear e1 e2 e3 ea eb ec ed eA eB eC eD
  refine ⟨fun r u v => by rw [U.may_iff]; simp only at *; omega, fun r u v => ?_, fun l hl => ?_, by rw [e]; simp, fun r hr => ?_, ?_, by rw [px, py]; rfl⟩
  · simp only at u v
    obtain ⟨f, g, k, m, ef, eg, ek, em, er, hg, hk, hm⟩ := dig4 r
    rw [e, put4 (by omega), ef, eg, ek, em]
    clear ef eg ek em px py e
    rcases F with F | F | F | F <;> refine ⟨?_, ?_, ?_, ?_, trivial⟩ <;> dsimp only <;> omega
  · rw [e] at hl
    match l, hl with
    | [z0, z1, z2, z3], hl =>
      simp only [all2, and_true] at hl
      obtain ⟨g0, e0⟩ : ∃ g, g = z0 - 240 := ⟨_, rfl⟩
      obtain ⟨g1, e1⟩ : ∃ g, g = z1 - 128 := ⟨_, rfl⟩
      obtain ⟨g2, e2⟩ : ∃ g, g = z2 - 128 := ⟨_, rfl⟩
      obtain ⟨g3, e3⟩ : ∃ g, g = z3 - 128 := ⟨_, rfl⟩
      have c1 : 0 ≤ g1 ∧ g1 ≤ 63 := by omega
      have c2 : 0 ≤ g2 ∧ g2 ≤ 63 := by omega
      have c3 : 0 ≤ g3 ∧ g3 ≤ 63 := by omega
      have b0 : x ≤ 262144 * g0 + 4096 * g1 + 64 * g2 + g3 := by rcases F with F | F | F | F <;> omega
      have b1 : 262144 * g0 + 4096 * g1 + 64 * g2 + g3 ≤ y := by rcases F with F | F | F | F <;> omega
      refine ⟨_, b0, b1, ?_⟩
      have h4 : 65536 ≤ 262144 * g0 + 4096 * g1 + 64 * g2 + g3 := by omega
      clear px py e F hl ex ey b0 b1
      rw [put4 h4, show (262144 * g0 + 4096 * g1 + 64 * g2 + g3) / 262144 = g0 by omega, show (262144 * g0 + 4096 * g1 + 64 * g2 + g3) / 4096 % 64 = g1 by omega, show (262144 * g0 + 4096 * g1 + 64 * g2 + g3) / 64 % 64 = g2 by omega, show (262144 * g0 + 4096 * g1 + 64 * g2 + g3) % 64 = g3 by omega]
      simp only [List.cons.injEq, and_true]; omega
  · rw [e] at hr
    simp at hr
    rcases F with F | F | F | F <;> rcases hr with rfl | rfl | rfl | rfl <;> dsimp only <;> omega
  · rw [e]
    simp only [prodL, Int.mul_one]
    rcases F with ⟨f1, f2, f3, f4⟩ | ⟨f1, f2, f3, f4, f5⟩ | ⟨f1, f2, f3, f4, f5, f6⟩ | ⟨f1, f2, f3, f4, f5, f6, f7⟩
    · rw [show 240 + A - (240 + a) + 1 = 1 by omega, show 128 + B - (128 + b) + 1 = 1 by omega, show 128 + C - (128 + c) + 1 = 1 by omega]; omega
    · rw [show 240 + A - (240 + a) + 1 = 1 by omega, show 128 + B - (128 + b) + 1 = 1 by omega, show 128 + D - (128 + d) + 1 = 64 by omega]; omega
    · rw [show 240 + A - (240 + a) + 1 = 1 by omega, show 128 + C - (128 + c) + 1 = 64 by omega, show 128 + D - (128 + d) + 1 = 64 by omega]; omega
    · rw [show 128 + B - (128 + b) + 1 = 64 by omega, show 128 + C - (128 + c) + 1 = 64 by omega, show 128 + D - (128 + d) + 1 = 64 by omega]; omega

theorem told {N : List (Int × Int)} {p : Int × Int} (hp : p ∈ partsL N) : Told p := by
  obtain ⟨h, a | a | a | a⟩ := parts_mem hp
  · exact told1 h a.1 a.2
  · exact told2 h a.1 a.2.1 a.2.2
  · exact told3 h a.1 a.2.1 a.2.2
  · exact told4 h a.1 a.2.1 a.2.2.1 a.2.2.2.1 a.2.2.2.2

/-! ### To match -/
theorem match_cases (S : List (List (Int × Int))) (b : List Int) :
    (∃ s ∈ S, fitsL s b = s.length ∧ matchL S b = s.length) ∨ ((∀ s ∈ S, fitsL s b ≠ s.length) ∧ matchL S b = 0) := by
  induction S with
  | nil => exact .inr ⟨fun s hs => (by cases hs), rfl⟩
  | cons s t ih =>
    by_cases h : fitsL s b = s.length
    · exact .inl ⟨s, List.mem_cons_self, h, by simp only [matchL, if_pos h]⟩
    · rcases ih with ⟨u, hu, h1, h2⟩ | ⟨h1, h2⟩
      · exact .inl ⟨u, List.mem_cons_of_mem _ hu, h1, by simp only [matchL, if_neg h, h2]⟩
      · refine .inr ⟨fun u hu => ?_, by simp only [matchL, if_neg h, h2]⟩
        rcases List.mem_cons.1 hu with rfl | hu
        · exact h
        · exact h1 u hu

/-- what bytes match: just where a scalar of the set is next -/
def hitN (N : List (Int × Int)) (b : List Int) : Nat := if 0 ≤ (U.nextL b).1 ∧ G.hasB N (U.nextL b).1 = true then (U.nextL b).2 else 0

theorem fit_next {N : List (Int × Int)} {p : Int × Int} (hp : p ∈ partsL N) {b : List Int} (h : fitsL (seqL p) b = (seqL p).length) :
    ∃ r, p.1 ≤ r ∧ r ≤ p.2 ∧ U.mayB r = true ∧ U.nextL b = (r, (seqL p).length) := by
  obtain ⟨c, d, e, hc⟩ := fits_all.1 h
  obtain ⟨r, h1, h2, h3⟩ := (told hp).hget c hc
  have hm := (told hp).hmay r h1 h2
  refine ⟨r, h1, h2, hm, ?_⟩
  have hl := all2_length hc
  rw [e, h3, U.next_put hm, hl, h3]
theorem has_part {N : List (Int × Int)} {p : Int × Int} (hp : p ∈ partsL N) {r : Int} (h1 : p.1 ≤ r) (h2 : r ≤ p.2) : G.hasB N r = true := by
  have := parts_has N r
  have h3 : G.hasB (partsL N) r = true := by unfold G.hasB; rw [List.any_eq_true]; exact ⟨p, hp, by simp [h1, h2]⟩
  rw [h3] at this
  simp at this
  exact this.2
theorem part_has {N : List (Int × Int)} {r : Int} (hm : U.mayB r = true) (h : G.hasB N r = true) : ∃ p ∈ partsL N, p.1 ≤ r ∧ r ≤ p.2 := by
  have e := parts_has N r
  rw [hm, h] at e
  unfold G.hasB at e
  rw [Bool.and_true, List.any_eq_true] at e
  obtain ⟨p, hp, e⟩ := e
  simp only [Bool.and_eq_true, decide_eq_true_eq] at e
  exact ⟨p, hp, e.1, e.2⟩

theorem match_of (N : List (Int × Int)) {b : List Int} (hb : U.isBytes b) : matchL (ofN N) b = hitN N b := by
  unfold hitN
  rcases match_cases (ofN N) b with ⟨s, hs, h1, h2⟩ | ⟨h1, h2⟩
  · obtain ⟨p, hp, rfl⟩ := List.mem_map.1 hs
    obtain ⟨r, a1, a2, hm, e⟩ := fit_next hp h1
    rw [h2, e]
    rw [if_pos ⟨by have := (U.may_iff r).1 hm; simp only; omega, has_part hp a1 a2⟩]
  · rw [h2]
    split
    · next c =>
      rcases U.next_cases hb with ⟨_, e⟩ | ⟨_, e⟩ | ⟨r, hm, e, t, d⟩
      · rw [e] at c; simp at c
      · rw [e] at c; simp at c
      · rw [e] at c
        obtain ⟨p, hp, a1, a2⟩ := part_has hm c.2
        exfalso
        refine h1 (seqL p) (List.mem_map.2 ⟨p, hp, rfl⟩) (fits_all.2 ⟨U.putL r, b.drop (U.putL r).length, ?_, (told hp).hput r a1 a2⟩)
        have h := List.take_append_drop (U.putL r).length b
        rw [t] at h
        exact h.symm
    · rfl

theorem match_le (S : List (List (Int × Int))) (b : List Int) : matchL S b ≤ partL S b := by
  induction S with
  | nil => exact Nat.le_refl _
  | cons s t ih =>
    simp only [matchL, partL]
    split
    · next c => omega
    · omega
theorem part_le (S : List (List (Int × Int))) (b : List Int) : partL S b ≤ b.length := by
  induction S with
  | nil => exact Nat.zero_le _
  | cons s t ih => have := fits_le s b; simp only [partL]; omega
theorem part_lens {S : List (List (Int × Int))} {b : List Int} {k : Nat} (h : ∀ s ∈ S, s.length ≤ k) : partL S b ≤ k := by
  induction S with
  | nil => exact Nat.zero_le _
  | cons s t ih =>
    have := fits_le s b
    have := h s List.mem_cons_self
    have := ih fun u hu => h u (List.mem_cons_of_mem _ hu)
    simp only [partL]; omega
theorem part_ge {S : List (List (Int × Int))} {b : List Int} {s : List (Int × Int)} (hs : s ∈ S) : fitsL s b ≤ partL S b := by
  induction S with
  | nil => cases hs
  | cons u t ih =>
    simp only [partL]
    rcases List.mem_cons.1 hs with rfl | hs
    · omega
    · have := ih hs; omega
theorem of_lens (N : List (Int × Int)) : ∀ s ∈ ofN N, 1 ≤ s.length ∧ s.length ≤ 4 := by
  intro s hs
  obtain ⟨p, hp, rfl⟩ := List.mem_map.1 hs
  exact (told hp).hlen
theorem part_put {N : List (Int × Int)} {r : Int} (hm : U.mayB r = true) (h : G.hasB N r = true) (k : Nat) (hk : k ≤ (U.putL r).length) : partL (ofN N) ((U.putL r).take k) = k := by
  obtain ⟨p, hp, a1, a2⟩ := part_has hm h
  have h1 := (told hp).hput r a1 a2
  have h2 := all2_fits h1 k
  have h3 := all2_length h1
  have hs : seqL p ∈ ofN N := List.mem_map.2 ⟨p, hp, rfl⟩
  have h4 := part_ge (b := (U.putL r).take k) hs
  have h5 := part_le (ofN N) ((U.putL r).take k)
  rw [List.length_take] at h5
  rw [h2] at h4
  omega

theorem rest_bytes {l : List Int} (h : U.isBytes l) (at' : Int) : U.isBytes (rest l at') := by
  unfold rest
  split
  · intro z hz; cases hz
  · exact U.isBytes_drop h _
theorem rest_length (l : List Int) (at' : Int) : (rest l at').length = 0 ∨ (0 ≤ at' ∧ ((rest l at').length : Int) = l.length - at') := by
  unfold rest
  split
  · exact .inl rfl
  · rw [List.length_drop]; right; omega
theorem rest_zero (l : List Int) : rest l 0 = l := by unfold rest; rw [if_neg (by omega)]; rfl

/-- of how many sequences, one by one, a scalar's bytes are -/
def hitsL (b : List Int) (S : List (List (Int × Int))) : Nat := S.countP fun s => decide (matchL [s] b = b.length)
theorem each_of {N : List (Int × Int)} (hN : G.mayB N = true) {r : Int} (hm : U.mayB r = true) : hitsL (U.putL r) (ofN N) = if G.hasB N r = true then 1 else 0 := by
  have e : hitsL (U.putL r) (ofN N) = hits r (partsL N) := by
    unfold hitsL ofN hits
    rw [List.countP_map]
    refine List.countP_congr fun p hp => ?_
    have hl := U.putL_len r
    have key : matchL [seqL p] (U.putL r) = (U.putL r).length ↔ p.1 ≤ r ∧ r ≤ p.2 := by
      have em : matchL [seqL p] (U.putL r) = if fitsL (seqL p) (U.putL r) = (seqL p).length then (seqL p).length else 0 := rfl
      rw [em]
      constructor
      · intro h
        split at h
        · next c =>
          obtain ⟨r', b1, b2, m', e'⟩ := fit_next hp c
          have e2 := U.next_put hm []
          rw [List.append_nil] at e2
          rw [e2] at e'
          injection e' with e3 e4
          subst e3
          exact ⟨b1, b2⟩
        · omega
      · rintro ⟨b1, b2⟩
        have c := (told hp).hput r b1 b2
        rw [if_pos (fits_all.2 ⟨U.putL r, [], by simp, c⟩), all2_length c]
    simp only [Function.comp, decide_eq_true_eq, Bool.and_eq_true]
    exact key
  rw [e, asc_hits (parts_asc hN) r, parts_has, hm]
  simp

/-- as many numbers as are of the products -/
def prods : List (List (Int × Int)) → Int
  | [] => 0
  | s :: t => prodL s + prods t
theorem prods_parts {l : List (Int × Int)} (h : ∀ p ∈ l, Told p) : prods (l.map seqL) = G.sizeL l := by
  induction l with
  | nil => rfl
  | cons p t ih =>
    simp only [List.map_cons, prods, G.sizeL]
    rw [(h p List.mem_cons_self).hprod, ih fun q hq => h q (List.mem_cons_of_mem _ hq)]
theorem prods_of {N : List (Int × Int)} (hN : G.mayB N = true) : prods (ofN N) = G.size (fun n => U.mayB n && G.hasB N n) := by
  unfold ofN
  rw [prods_parts fun p hp => told hp, asc_size (parts_asc hN) (Int.le_refl _) 1114112 (by decide)]
  exact G.cnt_congr _ fun n _ _ => parts_has N n

theorem of_all : (ofN [(0, 1114111)]).length = 9 := by decide +kernel

end Go.Proofs.YtejipaapbfjooaaDoor.Q
