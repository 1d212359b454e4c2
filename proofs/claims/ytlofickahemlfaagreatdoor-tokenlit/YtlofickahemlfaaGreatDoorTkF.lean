/- Contracts of package token: SIGNs. -/
import Derived.Test.YtlofickahemlfaaGreatDoorTkE
namespace Go.Proofs.YtlofickahemlfaaGreatDoor.T
open Go.RowKit
set_option linter.unusedVariables false
set_option linter.unusedSimpArgs false

theorem bthen {w w1 w2 : World} (h : Below w.heap.size w w1) (k : Below w1.heap.size w1 w2) : Below w.heap.size w w2 := h.trans (k.mono h.size)
theorem pre1_eq {x : Int} (hx : x ≠ 0) (l : List Int) : pre [x] l = decide (l.getD 0 0 = x) := by
  cases h : pre [x] l with
  | true => exact (decide_eq_true (pre1 h).2).symm
  | false => exact (decide_eq_false (pre1' hx h)).symm
theorem st_u : St ⟨#[92, 117]⟩ [92, 117] := ⟨rfl, by intro z hz; simp at hz; omega⟩
theorem st_semi : St ⟨#[59]⟩ [59] := ⟨rfl, by intro z hz; simp at hz; omega⟩
theorem dig_val : ∀ (m : Nat) (l : List Int) (v : Int), 0 ≤ v → 0 ≤ (digF m v l).1 ∧ (digF m v l).1 ≤ 16 ^ m * (v + 1) - 1 := by
  intro m
  induction m with
  | zero => intro l v h; simp [digF]; omega
  | succ m ih =>
    intro l v h
    have hp : (1 : Int) ≤ 16 ^ m := by have : (0 : Int) < 16 ^ m := Int.pow_pos (by omega); omega
    have hbase : 16 ^ m * (16 * v + 16) = 16 ^ (m + 1) * (v + 1) := by rw [Int.pow_succ, Int.mul_assoc, show (16 : Int) * (v + 1) = 16 * v + 16 by omega]
    have hmono : ∀ x : Int, x ≤ 16 * v + 16 → 16 ^ m * x ≤ 16 ^ m * (16 * v + 16) := fun x hx => Int.mul_le_mul_of_nonneg_left hx (by omega)
    cases l with
    | nil =>
      simp only [digF]
      have h1 := hmono (v + 1) (by omega)
      have h2 : 1 * (v + 1) ≤ 16 ^ m * (v + 1) := Int.mul_le_mul_of_nonneg_right hp (by omega)
      omega
    | cons z t =>
      simp only [digF]
      have hv := val_range z
      split
      · next hz =>
        have := ih t (16 * v + valI z) (by omega)
        have h1 := hmono (16 * v + valI z + 1) (by omega)
        simp only
        omega
      · have h1 := hmono (v + 1) (by omega)
        have h2 : 1 * (v + 1) ≤ 16 ^ m * (v + 1) := Int.mul_le_mul_of_nonneg_right hp (by omega)
        simp only
        omega
set_option maxRecDepth 20000 in
set_option maxHeartbeats 2000000 in
theorem digitsScalar_l (a : Option Addr) (len cap : Nat) (l : List Int) (w : World) (h : Bs w a len cap l) (hl : len ≤ 1000000) (hp : pre [92, 117] l = true) :
    Calls Tryz.prog 93 #[.slice a len cap] w fun e w' => e = .returned (.tuple #[.int .i64 (pairR (signL l)).1, .int .i64 ((pairR (signL l)).2 : Nat)]) ∧ Below w.heap.size w w' := by
  have hlen := h.hlen
  obtain ⟨p1, p2, p3⟩ := pre2 (by omega) hp
  have hne : l ≠ [] := by intro c; rw [c] at p1; simp at p1
  obtain ⟨⟨v, j⟩, hd⟩ : ∃ p, digF 6 0 (l.drop 2) = p := ⟨_, rfl⟩
  have hb := dig_bound 6 (l.drop 2) 0
  have hv := dig_val 6 (l.drop 2) 0 (by omega)
  rw [hd, List.length_drop] at hb
  rw [hd] at hv
  simp only at hb hv
  have hv2 : v ≤ 16777215 := by have : (16 : Int) ^ 6 * (0 + 1) - 1 = 16777215 := by decide
                                omega
  rw [sign_esc hne p2 p3 hd]
  have sl := tail_run a len cap 2 2 rfl (by omega)
  have CN := hideR (number_l _ _ _ _ w (Bs.dropA h 2 (by omega)) (by omega) 6 (by omega))
  rw [hd] at CN
  simp only at CN
  have HB := hideR h
  have hj : 2 + j ≤ len := by omega
  clear h hp p1 p2 p3 hne hd
  by_cases c0 : j = 0
  · subst c0
    rw [if_pos (.inl rfl)]
    show Calls _ _ _ _ fun e w' => e = .returned (.tuple #[.int .i64 0, .int .i64 0]) ∧ Below w.heap.size w w'
    go_enter Tryz.func93, Tryz.ntmps93
    go_wp2_with fail
    refine (unhideR CN).mono ?_
    rintro e w1 ⟨rfl, hw1⟩
    obtain rfl : w = w1 := hw1.symm
    clear hw1 CN
    go_wp2_with fail
    go_ret2
    exact ⟨rfl, Below.refl _ _⟩
  · have c0' : ((j : Int) == 0) = false := beq_eq_false_iff_ne.2 (by omega)
    have sl2 := tail_run a len cap (2 + j) (2 + (j : Int)) (by omega) hj
    have CB := hideR (fun W (hB : Bs W a len cap l) => begins_l _ _ _ _ W (Bs.dropA hB (2 + j) hj) ⟨#[59]⟩ [59] st_semi (by simp))
    rw [pre1_eq (by omega), drop_getD, Nat.add_zero] at CB
    have CM := hideR (fun W => may_any v W)
    have t1 := wrapI (2 + (j : Int)) (by omega)
    have t2 := wrapI (2 + (j : Int) + 1) (by omega)
    by_cases c1 : l.getD (2 + j) 0 = 59
    · rw [decide_eq_true c1] at CB
      cases c2 : U.mayB v with
      | false =>
        rw [if_pos (.inr (.inl rfl))]
        rw [c2] at CM
        show Calls _ _ _ _ fun e w' => e = .returned (.tuple #[.int .i64 0, .int .i64 0]) ∧ Below w.heap.size w w'
        clear c1 c2
        go_enter Tryz.func93, Tryz.ntmps93
        go_wp2_with fail
        refine (unhideR CN).mono ?_
        rintro e w1 ⟨rfl, hw1⟩
        obtain rfl : w = w1 := hw1.symm
        clear hw1 CN
        go_wp2_with fail
        refine (unhideR CB _ (unhideR HB)).mono ?_
        rintro e w1 ⟨rfl, b1⟩
        clear CB
        go_wp2_with fail
        refine (unhideR CM _).mono ?_
        rintro e w2 ⟨rfl, hw2⟩
        obtain rfl : w1 = w2 := hw2.symm
        clear hw2 CM
        go_wp2_with fail
        go_ret2
        exact ⟨rfl, b1⟩
      | true =>
        rw [if_neg (by intro c; rcases c with c | c | c; exact c0 c; cases c; exact c c1)]
        rw [c2] at CM
        show Calls _ _ _ _ fun e w' => e = .returned (.tuple #[.int .i64 v, .int .i64 ((j + 3 : Nat) : Int)]) ∧ Below w.heap.size w w'
        clear c1 c2
        go_enter Tryz.func93, Tryz.ntmps93
        go_wp2_with fail
        refine (unhideR CN).mono ?_
        rintro e w1 ⟨rfl, hw1⟩
        obtain rfl : w = w1 := hw1.symm
        clear hw1 CN
        go_wp2_with fail
        refine (unhideR CB _ (unhideR HB)).mono ?_
        rintro e w1 ⟨rfl, b1⟩
        clear CB
        go_wp2_with fail
        refine (unhideR CM _).mono ?_
        rintro e w2 ⟨rfl, hw2⟩
        obtain rfl : w1 = w2 := hw2.symm
        clear hw2 CM
        go_wp2_with fail
        go_ret2
        exact ⟨ret_two rfl (by omega), b1⟩
    · rw [decide_eq_false c1] at CB
      rw [if_pos (.inr (.inr c1))]
      show Calls _ _ _ _ fun e w' => e = .returned (.tuple #[.int .i64 0, .int .i64 0]) ∧ Below w.heap.size w w'
      clear c1
      go_enter Tryz.func93, Tryz.ntmps93
      go_wp2_with fail
      refine (unhideR CN).mono ?_
      rintro e w1 ⟨rfl, hw1⟩
      obtain rfl : w = w1 := hw1.symm
      clear hw1 CN
      go_wp2_with fail
      refine (unhideR CB _ (unhideR HB)).mono ?_
      rintro e w1 ⟨rfl, b1⟩
      clear CB
      go_wp2_with fail
      go_ret2
      exact ⟨rfl, b1⟩

/-- a SIGN that is not told by digits -/
theorem sign_plain {l : List Int} (hb : U.isBytes l) (hp : pre [92, 117] l = false) : pairR (signL l) = if standB (nx l 0).1 then nx l 0 else (0, 0) := by
  have hn := pre2' (by omega) hp
  by_cases h0 : l = []
  · subst h0
    rfl
  · have hl : 1 ≤ l.length := by cases l <;> simp_all
    have e0 : nx l 0 = U.nextL l := by unfold nx; rw [if_neg (by omega)]; rfl
    rw [e0]
    by_cases h92 : l.getD 0 0 = 92
    · rw [sign_nou h0 h92 (fun c => hn ⟨h92, c⟩), U.next_ascii hb h0 (by omega), h92]
      rfl
    · rw [sign_raw h0 h92]
      have n92 : (U.nextL l).1 ≠ 92 := by
        intro c
        rcases U.next_cases hb with ⟨e, _⟩ | ⟨_, e⟩ | ⟨r, hm, e, ht, _⟩
        · exact h0 e
        · rw [e] at c; simp at c
        · rw [e] at c
          simp only at c
          subst c
          have e92 : U.putL 92 = [92] := by decide
          rw [e92] at ht
          cases l with
          | nil => exact h0 rfl
          | cons z t => simp at ht; exact h92 (by simp [ht])
      unfold standB clsB
      by_cases c : (U.nextL l).1 < 32 ∨ (U.nextL l).1 = 91 ∨ (U.nextL l).1 = 93 ∨ (U.nextL l).1 = 94 ∨ (U.nextL l).1 = 45
      · rw [if_pos c, if_neg]
        simp
        omega
      · rw [if_neg c, if_pos]
        simp
        omega
theorem nx_ok {l : List Int} (hb : U.isBytes l) : ((nx l 0).1 = -1 ∨ U.mayB (nx l 0).1 = true) ∧ (nx l 0).2 ≤ l.length ∧ (0 ≤ (nx l 0).1 → 1 ≤ (nx l 0).2) := by
  by_cases h0 : l = []
  · subst h0; exact ⟨.inl rfl, Nat.le_refl _, fun h => absurd h (by decide)⟩
  · have hl : 1 ≤ l.length := by cases l <;> simp_all
    have e0 : nx l 0 = U.nextL l := by unfold nx; rw [if_neg (by omega)]; rfl
    rw [e0]
    have := U.next_bound hb h0
    refine ⟨?_, by omega, fun _ => by omega⟩
    rcases U.next_cases hb with ⟨e, _⟩ | ⟨_, e⟩ | ⟨r, hm, e, _⟩
    · exact absurd e h0
    · rw [e]; exact .inl rfl
    · rw [e]; exact .inr hm
set_option maxRecDepth 20000 in
set_option maxHeartbeats 2000000 in
theorem scalar_l (a : Option Addr) (len cap : Nat) (l : List Int) (w : World) (h : Bs w a len cap l) (hl : len ≤ 1000000) :
    Calls Tryz.prog 64 #[.slice a len cap] w fun e w' => e = .returned (.tuple #[.int .i64 (pairR (signL l)).1, .int .i64 ((pairR (signL l)).2 : Nat)]) ∧ Below w.heap.size w w' := by
  have hlen := h.hlen
  have CB := hideR (begins_l a len cap l w h ⟨#[92, 117]⟩ [92, 117] st_u (by simp))
  cases hp : pre [92, 117] l with
  | true =>
    rw [hp] at CB
    have CD := hideR (fun W (hB : Bs W a len cap l) => digitsScalar_l a len cap l W hB hl hp)
    have HB := hideR h
    clear h hp
    generalize (pairR (signL l)).1 = x at *
    generalize (pairR (signL l)).2 = n at *
    go_enter Tryz.func64, Tryz.ntmps64
    go_wp2_with fail
    refine (unhideR CB).mono ?_
    rintro e w1 ⟨rfl, b1⟩
    clear CB
    have HB1 := hideR (Bs.later (unhideR HB) b1 (Nat.le_refl _))
    clear HB
    go_wp2_with fail
    refine (unhideR CD _ (unhideR HB1)).mono ?_
    rintro e w2 ⟨rfl, b2⟩
    clear CD
    go_wp2_with fail
    go_ret2
    exact ⟨rfl, bthen b1 b2⟩
  | false =>
    rw [hp] at CB
    have CN := hideR (fun W (hB : Bs W a len cap l) => next_any a len cap l W hB 0)
    rw [sign_plain h.hbytes hp]
    obtain ⟨n1, n2, n3⟩ := nx_ok h.hbytes
    have HB := hideR h
    clear h hp
    obtain ⟨⟨x, n⟩, hx⟩ : ∃ p, nx l 0 = p := ⟨_, rfl⟩
    rw [hx] at CN n1 n2 n3 ⊢
    simp only at CN n1 n2 n3 ⊢
    clear hx
    have CS := hideR (fun W => standsInClass_l x n1 W)
    cases hs : standB x with
    | true =>
      rw [hs] at CS
      show Calls _ _ _ _ fun e w' => e = .returned (.tuple #[.int .i64 x, .int .i64 (n : Int)]) ∧ Below w.heap.size w w'
      clear hs n1 n3
      go_enter Tryz.func64, Tryz.ntmps64
      go_wp2_with fail
      refine (unhideR CB).mono ?_
      rintro e w1 ⟨rfl, b1⟩
      clear CB
      have HB1 := hideR (Bs.later (unhideR HB) b1 (Nat.le_refl _))
      clear HB
      go_wp2_with fail
      refine (unhideR CN _ (unhideR HB1)).mono ?_
      rintro e w2 ⟨rfl, b2⟩
      clear CN
      go_wp2_with fail
      refine (unhideR CS _).mono ?_
      rintro e w3 ⟨rfl, b3⟩
      clear CS
      go_wp2_with fail
      go_ret2
      exact ⟨rfl, bthen (bthen b1 b2) b3⟩
    | false =>
      rw [hs] at CS
      show Calls _ _ _ _ fun e w' => e = .returned (.tuple #[.int .i64 0, .int .i64 0]) ∧ Below w.heap.size w w'
      clear hs n1 n3
      go_enter Tryz.func64, Tryz.ntmps64
      go_wp2_with fail
      refine (unhideR CB).mono ?_
      rintro e w1 ⟨rfl, b1⟩
      clear CB
      have HB1 := hideR (Bs.later (unhideR HB) b1 (Nat.le_refl _))
      clear HB
      go_wp2_with fail
      refine (unhideR CN _ (unhideR HB1)).mono ?_
      rintro e w2 ⟨rfl, b2⟩
      clear CN
      go_wp2_with fail
      refine (unhideR CS _).mono ?_
      rintro e w3 ⟨rfl, b3⟩
      clear CS
      go_wp2_with fail
      go_ret2
      exact ⟨rfl, bthen (bthen b1 b2) b3⟩
end Go.Proofs.YtlofickahemlfaaGreatDoor.T
