/- Contracts of the set's methods: side, the search by halves, has, border. -/
import Derived.Test.YtdaadeohamkoiaaGreatDoorRgHas
namespace Go.Proofs.YtdaadeohamkoiaaGreatDoor
open Go.RowKit
set_option linter.unusedVariables false

namespace G
theorem endOf_mem {least : Int} {l : List (Int × Int)} (h : mayFrom least l = true) {r : Int × Int} (hr : r ∈ l) : r.2 + 2 ≤ endOf least l := by
  induction l generalizing least with
  | nil => cases hr
  | cons x t ih =>
    rw [mayFrom_cons] at h
    have e : ∀ (t : List (Int × Int)) (c : Int), mayFrom c t = true → c ≤ endOf c t := by
      intro t
      induction t with
      | nil => intro c _; exact Int.le_refl _
      | cons y u ihu => intro c hc; rw [mayFrom_cons] at hc; have := ihu _ hc.2.2.2; show c ≤ endOf (y.2 + 2) u; omega
    rcases List.mem_cons.1 hr with rfl | hr
    · exact e t _ h.2.2.2
    · exact ih h.2.2.2 hr

/-- all ahead are below the number; none from j on is -/
def sideA (l : List (Int × Int)) (n : Int) (i : Nat) : Prop := ∀ r ∈ l.take i, r.2 < n
def sideB (l : List (Int × Int)) (n : Int) (j : Nat) : Prop := ∀ r ∈ l.drop j, n ≤ r.2

theorem may_cut {l : List (Int × Int)} (h : mayB l = true) {k : Nat} {lo hi : Int} {t : List (Int × Int)} (hd : l.drop k = (lo, hi) :: t) : (∀ r ∈ l.take k, r.2 + 2 ≤ lo) ∧ lo ≤ hi ∧ mayFrom (hi + 2) t = true ∧ 0 ≤ lo ∧ hi ≤ 1114111 := by
  have e : l = l.take k ++ l.drop k := (List.take_append_drop k l).symm
  have m : (lo, hi) ∈ l := by rw [e, hd]; simp
  have b := may_mem h m
  unfold mayB at h
  rw [e, mayFrom_append, hd, mayFrom_cons] at h
  simp only at h b
  exact ⟨fun r hr => by have := endOf_mem h.1 hr; omega, h.2.2.1, h.2.2.2.2, b.1, b.2.2⟩

theorem sideA_step {l : List (Int × Int)} {n : Int} (h : mayB l = true) {k : Nat} {lo hi : Int} {t : List (Int × Int)} (hd : l.drop k = (lo, hi) :: t) (ht : l.take (k + 1) = l.take k ++ [(lo, hi)]) (hn : hi < n) : sideA l n (k + 1) := by
  obtain ⟨h1, h2, _⟩ := may_cut h hd
  intro r hr
  rw [ht] at hr
  rcases List.mem_append.1 hr with hr | hr
  · have := h1 r hr; omega
  · simp at hr; subst hr; exact hn
theorem sideB_step {l : List (Int × Int)} {n : Int} (h : mayB l = true) {k : Nat} {lo hi : Int} {t : List (Int × Int)} (hd : l.drop k = (lo, hi) :: t) (hn : n ≤ hi) : sideB l n k := by
  obtain ⟨_, h2, h3, _⟩ := may_cut h hd
  intro r hr
  rw [hd] at hr
  rcases List.mem_cons.1 hr with rfl | hr
  · exact hn
  · have := may_mem h3 hr; omega
theorem side_end {l : List (Int × Int)} {n : Int} {k : Nat} (ha : sideA l n k) : hasB l n = hasB (l.drop k) n := by
  have e : l = l.take k ++ l.drop k := (List.take_append_drop k l).symm
  have f : hasB (l.take k) n = false := by
    unfold hasB
    rw [List.any_eq_false]
    intro r hr
    have := ha r hr
    simp; omega
  rw [show hasB l n = hasB (l.take k ++ l.drop k) n by rw [← e], hasB_append, f, Bool.false_or]
theorem side_found {l : List (Int × Int)} {n : Int} (h : mayB l = true) {k : Nat} {lo hi : Int} {t : List (Int × Int)} (ha : sideA l n k) (hb : sideB l n k) (hd : l.drop k = (lo, hi) :: t) : hasB l n = decide (lo ≤ n) := by
  obtain ⟨_, h2, h3, _⟩ := may_cut h hd
  have := hb (lo, hi) (by rw [hd]; simp)
  simp only at this
  rw [side_end ha, hd, hasB_cons, has_low h3 (by omega)]
  simp [this]
end G

/-- where a range lies, seen from a number -/
def sideI (lo hi n : Int) : Int := if hi < n then -1 else if n < lo then 1 else 0

set_option maxHeartbeats 400000 in
theorem side_any (lo hi n : Int) (w : World) :
    Calls Tryz.prog 190 #[.agg #[.int .i64 lo, .int .i64 hi], .int .i64 n] w fun e w' => e = .returned (.int .i64 (sideI lo hi n)) ∧ w' = w.alloc (boxRg lo hi) := by
  unfold sideI
  by_cases h1 : hi < n
  · rw [if_pos h1]
    go_enter Tryz.func190, Tryz.ntmps190
    go_wp2
    go_ret
    exact ⟨rfl, rfl⟩
  · rw [if_neg h1]
    by_cases h2 : n < lo
    · rw [if_pos h2]
      go_enter Tryz.func190, Tryz.ntmps190
      go_wp2
      go_ret
      exact ⟨rfl, rfl⟩
    · rw [if_neg h2]
      go_enter Tryz.func190, Tryz.ntmps190
      go_wp2
      go_ret
      exact ⟨rfl, rfl⟩

set_option maxHeartbeats 1000000 in
theorem search_any (a : Option Addr) (len cap : Nat) (l : List (Int × Int)) (n : Int) (w : World) (h : Rs w a len cap l) (hm : G.mayB l = true) (hs : len ≤ 1000000) :
    Calls Tryz.prog 189 #[.slice a len cap, .int .i64 n, .func (.func 190) #[] #[]] w fun e w' => (∃ r : Int, e = .returned (.tuple #[.int .i64 r, .bool (G.hasB l n)])) ∧ Below w.heap.size w w' := by
  have hl := h.hlen
  have hmax := h.hmax
  have hcap := h.hcap
  unfold maxLen at hmax
  go_enter Tryz.func189, Tryz.ntmps189
  go_wp2
  go_loopw [9, 10] (fun i j wr => ∃ (p q : Nat), p ≤ q ∧ q ≤ len ∧ i = .int .i64 p ∧ j = .int .i64 q ∧ Hid (G.sideA l n p ∧ G.sideB l n q) ∧ Below w.heap.size w wr) (fun i j _ => (intOf j).toNat - (intOf i).toNat)
  case atStart => exact ⟨0, len, Nat.zero_le _, Nat.le_refl _, rfl, rfl, by show _ ∧ _; exact ⟨fun r hr => by simp at hr, fun r hr => by rw [List.drop_of_length_le (by omega)] at hr; cases hr⟩, Below.refl _ _⟩
  case round =>
    obtain ⟨p, q, hpq, hq, rfl, rfl, hsd, hb⟩ := hrel
    by_cases hlt : p < q
    · obtain ⟨b, off, rfl, hr⟩ := (h.later hb (Nat.le_refl _)).open (by omega)
      obtain ⟨lo, hi, hd, htk, f1, f2, c0, c1⟩ := hr.at ((p + q) / 2) (by omega)
      have hA : Hid (hi < n → G.sideA l n ((p + q) / 2 + 1)) := fun hx => G.sideA_step hm hd htk hx
      have hB : Hid (n ≤ hi → G.sideB l n ((p + q) / 2)) := fun hx => G.sideB_step hm hd hx
      clear hd htk hr f1 f2
      by_cases t1 : hi < n
      · have hv : Hid (sideI lo hi n = -1) := by show _ = _; unfold sideI; rw [if_pos t1]
        go_wp2_with (go_at_call 190; refine (side_any _ _ _ _).mono ?_; rw [hv.out]; rintro e w' ⟨rfl, rfl⟩)
        go_roundw
        case rel => exact ⟨(p + q) / 2 + 1, q, by omega, hq, by go_num, rfl, ⟨hA.out t1, hsd.out.2⟩, hb.trans ((Below.new1 _).mono hb.size)⟩
        case measure => simp [intOf]; omega
      · by_cases t2 : n < lo
        · have hv : Hid (sideI lo hi n = 1) := by show _ = _; unfold sideI; rw [if_neg t1, if_pos t2]
          go_wp2_with (go_at_call 190; refine (side_any _ _ _ _).mono ?_; rw [hv.out]; rintro e w' ⟨rfl, rfl⟩)
          go_roundw
          case rel => exact ⟨p, (p + q) / 2, by omega, by omega, rfl, by go_num, ⟨hsd.out.1, hB.out (by omega)⟩, hb.trans ((Below.new1 _).mono hb.size)⟩
          case measure => simp [intOf]; omega
        · have hv : Hid (sideI lo hi n = 0) := by show _ = _; unfold sideI; rw [if_neg t1, if_neg t2]
          go_wp2_with (go_at_call 190; refine (side_any _ _ _ _).mono ?_; rw [hv.out]; rintro e w' ⟨rfl, rfl⟩)
          go_roundw
          case rel => exact ⟨p, (p + q) / 2, by omega, by omega, rfl, by go_num, ⟨hsd.out.1, hB.out (by omega)⟩, hb.trans ((Below.new1 _).mono hb.size)⟩
          case measure => simp [intOf]; omega
    · have hpq2 : q = p := by omega
      subst hpq2
      by_cases hin : q < len
      · obtain ⟨b, off, rfl, hr⟩ := (h.later hb (Nat.le_refl _)).open (by omega)
        obtain ⟨lo, hi, hd, -, f1, f2, c0, c1⟩ := hr.at q hin
        have hx : n ≤ hi := hsd.out.2 (lo, hi) (by rw [hd]; simp)
        have fin : Hid (G.hasB l n = decide (lo ≤ n)) := G.side_found hm hsd.out.1 hsd.out.2 hd
        clear hd hr f1 f2
        by_cases t2 : n < lo
        · have hv : Hid (sideI lo hi n = 1) := by show _ = _; unfold sideI; rw [if_neg (by omega), if_pos t2]
          go_wp2_with (go_at_call 190; refine (side_any _ _ _ _).mono ?_; rw [hv.out]; rintro e w' ⟨rfl, rfl⟩)
          go_ret2
          exact ⟨⟨_, by rw [fin.out, decide_eq_false (by omega)]; rfl⟩, hb.trans ((Below.new1 _).mono hb.size)⟩
        · have hv : Hid (sideI lo hi n = 0) := by show _ = _; unfold sideI; rw [if_neg (by omega), if_neg t2]
          go_wp2_with (go_at_call 190; refine (side_any _ _ _ _).mono ?_; rw [hv.out]; rintro e w' ⟨rfl, rfl⟩)
          go_ret2
          exact ⟨⟨_, by rw [fin.out, decide_eq_true (by omega)]; rfl⟩, hb.trans ((Below.new1 _).mono hb.size)⟩
      · have fin : Hid (G.hasB l n = false) := by
          show _ = _
          rw [G.side_end hsd.out.1, List.drop_of_length_le (by omega)]; rfl
        go_wp2
        go_ret2
        exact ⟨⟨_, by rw [fin.out]; rfl⟩, hb⟩

set_option maxHeartbeats 400000 in
theorem setHas_any (a : Option Addr) (len cap : Nat) (l : List (Int × Int)) (n : Int) (w : World) (h : Rs w a len cap l) (hm : G.mayB l = true) (hs : len ≤ 1000000) :
    Calls Tryz.prog 159 #[.slice a len cap, .int .i64 n] w fun e w' => e = .returned (.bool (G.hasB l n)) ∧ Below w.heap.size w w' := by
  have hc := search_any a len cap l n w h hm hs
  generalize G.hasB l n = r at *
  clear h hm
  go_enter Tryz.func159, Tryz.ntmps159
  go_wp2_with (go_at_call 189; refine hc.mono ?_; rintro e w' ⟨⟨x, rfl⟩, hb⟩)
  go_ret
  exact ⟨rfl, hb⟩

/-- the i-th border -/
def bord (l : List (Int × Int)) (i : Nat) : Int := (G.bs l).getD i 1114113

theorem bord_end {l : List (Int × Int)} {i : Nat} (h : l.length ≤ i / 2) : bord l i = 1114113 := by
  unfold bord
  have := G.bs_length l
  rw [List.getD_eq_getElem?_getD, List.getElem?_eq_none (by omega)]; rfl
theorem bord_at {l : List (Int × Int)} {k : Nat} {lo hi : Int} {t : List (Int × Int)} (hd : l.drop k = (lo, hi) :: t) : bord l (2 * k) = lo ∧ bord l (2 * k + 1) = hi + 1 := by
  induction l generalizing k with
  | nil => simp at hd
  | cons r u ih =>
    cases k with
    | zero => simp at hd; obtain ⟨rfl, rfl⟩ := hd; simp [bord, G.bs]
    | succ k =>
      have := ih (k := k) (by simpa using hd)
      rw [show 2 * (k + 1) = 2 * k + 1 + 1 by omega, show 2 * k + 1 + 1 + 1 = (2 * k + 1) + 1 + 1 by omega]
      unfold bord at *
      simpa [G.bs] using this

set_option maxHeartbeats 400000 in
theorem border_any (a : Option Addr) (len cap : Nat) (l : List (Int × Int)) (i : Nat) (w : World) (h : Rs w a len cap l) (hm : G.mayB l = true) (hi : i ≤ 2000000) :
    Calls Tryz.prog 188 #[.slice a len cap, .int .i64 i] w fun e w' => e = .returned (.int .i64 (bord l i)) ∧ w' = w := by
  have hl := h.hlen
  have hmax := h.hmax
  have hcap := h.hcap
  unfold maxLen at hmax
  by_cases h1 : len ≤ i / 2
  · rw [bord_end (by omega)]
    have h1' : (len : Int) ≤ (i : Int) / 2 := by omega
    go_enter Tryz.func188, Tryz.ntmps188
    go_wp2
    go_ret
    exact ⟨rfl, rfl⟩
  · obtain ⟨b, off, rfl, hr⟩ := h.open (by omega)
    obtain ⟨lo, hi, hd, -, f1, f2, c0, c1⟩ := hr.at (i / 2) (by omega)
    have hb := bord_at hd
    obtain ⟨-, -, -, p0, p1⟩ := G.may_cut hm hd
    have q1 : lo ≤ hi := (G.may_cut hm hd).2.1
    have h1' : (i : Int) / 2 < (len : Int) := by omega
    clear hd hr f1 f2 h
    by_cases h2 : i % 2 = 0
    · have e : bord l i = lo := by rw [← hb.1]; congr 1; omega
      rw [e]
      clear hb e
      have h2' : (((i : Int) % 2) == 0) = true := by rw [beq_iff_eq]; omega
      go_enter Tryz.func188, Tryz.ntmps188
      go_wp2
      go_ret
      exact ⟨rfl, rfl⟩
    · have e : bord l i = hi + 1 := by rw [← hb.2]; congr 1; omega
      rw [e]
      clear hb e
      have h2' : (((i : Int) % 2) == 0) = false := by rw [beq_eq_false_iff_ne]; omega
      go_enter Tryz.func188, Tryz.ntmps188
      go_wp2
      go_ret
      exact ⟨rfl, rfl⟩

end Go.Proofs.YtdaadeohamkoiaaGreatDoor
