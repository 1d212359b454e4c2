/- Contracts of the document's own answers of layer 1: exegeteref01.May, Put, Next, Units. -/
import Derived.Test.YtejipaapbfjooaaDoorUtfBack
namespace Go.Proofs.YtejipaapbfjooaaDoor
open Go.RowKit
set_option linter.unusedVariables false
set_option linter.unusedSimpArgs false

set_option maxHeartbeats 400000 in
theorem refMay_any (r : Int) (w : World) :
    Calls Tryd.prog 51 #[.int .i64 r] w fun e w' => e = .returned (.bool (U.mayB r)) ∧ w' = w := by
  have key : ∀ b : Bool, U.mayB r = b → Calls Tryd.prog 51 #[.int .i64 r] w fun e w' => e = .returned (.bool b) ∧ w' = w := by
    intro b hb
    by_cases h1 : 0 ≤ r
    · by_cases h2 : r ≤ 1114111
      · by_cases h3 : r < 55296
        · have : b = true := by rw [← hb, U.may_iff]; omega
          subst this; clear hb
          go_enter Tryd.func51, Tryd.ntmps51
          go_wp2
          go_ret
          exact ⟨rfl, rfl⟩
        · by_cases h4 : 57343 < r
          · have : b = true := by rw [← hb, U.may_iff]; omega
            subst this; clear hb
            go_enter Tryd.func51, Tryd.ntmps51
            go_wp2
            go_ret
            exact ⟨rfl, rfl⟩
          · have : b = false := by rw [← hb]; cases h : U.mayB r; rfl; rw [U.may_iff] at h; omega
            subst this; clear hb
            go_enter Tryd.func51, Tryd.ntmps51
            go_wp2
            go_ret
            exact ⟨rfl, rfl⟩
      · have : b = false := by rw [← hb]; cases h : U.mayB r; rfl; rw [U.may_iff] at h; omega
        subst this; clear hb
        go_enter Tryd.func51, Tryd.ntmps51
        go_wp2
        go_ret
        exact ⟨rfl, rfl⟩
    · have : b = false := by rw [← hb]; cases h : U.mayB r; rfl; rw [U.may_iff] at h; omega
      subst this; clear hb
      go_enter Tryd.func51, Tryd.ntmps51
      go_wp2
      go_ret
      exact ⟨rfl, rfl⟩
  exact key _ rfl

set_option maxHeartbeats 400000 in
theorem refPut_no (r : Int) (w : World) (h : U.mayB r = false) :
    Calls Tryd.prog 31 #[.int .i64 r] w fun e w' => e = .returned (.tuple #[.slice none 0 0, .bool false]) ∧ w' = w := by
  go_enter Tryd.func31, Tryd.ntmps31
  go_wp2_with (go_at_call 51; refine (refMay_any _ _).mono ?_; rintro e w' ⟨rfl, rfl⟩)
  go_ret2
  exact ⟨rfl, rfl⟩

set_option maxHeartbeats 400000 in
theorem refPut_yes (r : Int) (w : World) (h : U.mayB r = true) :
    Calls Tryd.prog 31 #[.int .i64 r] w fun e w' => e = .returned (.tuple #[putVal r w.heap.size, .bool true]) ∧ w' = w.alloc (putObj r) := by
  have h' := (U.may_iff r).1 h
  obtain ⟨b0, b1, _⟩ := h'
  by_cases h1 : r < 128
  · have e1 : putVal r w.heap.size = .slice (some ⟨w.heap.size, 0, none⟩) 1 1 := by simp [putVal, U.putL, h1]
    have e2 : putObj r = .cells #[.int .u8 r] 5 := by simp [putObj, U.putL, h1]
    rw [e1, e2]; clear e1 e2
    go_enter Tryd.func31, Tryd.ntmps31
    go_wp2_with (go_at_call 51; refine (refMay_any _ _).mono ?_; rintro e w' ⟨rfl, rfl⟩)
    go_ret2
    exact ⟨rfl, rfl⟩
  by_cases h2 : r < 2048
  · have e1 : putVal r w.heap.size = .slice (some ⟨w.heap.size, 0, none⟩) 2 2 := by simp [putVal, U.putL, h1, h2]
    have e2 : putObj r = .cells #[.int .u8 (192 + r / 64), .int .u8 (128 + r % 64)] 5 := by simp [putObj, U.putL, h1, h2]
    rw [e1, e2]; clear e1 e2
    go_enter Tryd.func31, Tryd.ntmps31
    go_wp2_with (go_at_call 51; refine (refMay_any _ _).mono ?_; rintro e w' ⟨rfl, rfl⟩)
    go_ret2
    exact ⟨rfl, rfl⟩
  by_cases h3 : r < 65536
  · have e1 : putVal r w.heap.size = .slice (some ⟨w.heap.size, 0, none⟩) 3 3 := by simp [putVal, U.putL, h1, h2, h3]
    have e2 : putObj r = .cells #[.int .u8 (224 + r / 4096), .int .u8 (128 + r / 64 % 64), .int .u8 (128 + r % 64)] 5 := by simp [putObj, U.putL, h1, h2, h3]
    rw [e1, e2]; clear e1 e2
    go_enter Tryd.func31, Tryd.ntmps31
    go_wp2_with (go_at_call 51; refine (refMay_any _ _).mono ?_; rintro e w' ⟨rfl, rfl⟩)
    go_ret2
    exact ⟨rfl, rfl⟩
  · have e1 : putVal r w.heap.size = .slice (some ⟨w.heap.size, 0, none⟩) 4 4 := by simp [putVal, U.putL, h1, h2, h3]
    have e2 : putObj r = .cells #[.int .u8 (240 + r / 262144), .int .u8 (128 + r / 4096 % 64), .int .u8 (128 + r / 64 % 64), .int .u8 (128 + r % 64)] 5 := by simp [putObj, U.putL, h1, h2, h3]
    rw [e1, e2]; clear e1 e2
    go_enter Tryd.func31, Tryd.ntmps31
    go_wp2_with (go_at_call 51; refine (refMay_any _ _).mono ?_; rintro e w' ⟨rfl, rfl⟩)
    go_ret2
    exact ⟨rfl, rfl⟩

/-- what the first bytes would be, read by definition -/
def candI (low : Int) (l : List Int) : Nat → Int
  | 0 => l.getD 0 0 - low
  | i + 1 => 64 * candI low l i + l.getD (i + 1) 0 - 128
def lowOf (n : Nat) : Int := [0, 0, 192, 224, 240].getD n 0
def cand (l : List Int) (n : Nat) : Int := candI (lowOf n) l (n - 1)
theorem candI_bd (low : Int) (l : List Int) (hb : U.isBytes l) (h0 : 0 ≤ low) (h1 : low ≤ 240) (i : Nat) (hi : i ≤ 3) : -70000000 ≤ candI low l i ∧ candI low l i ≤ 70000000 := by
  have b0 := U.isBytes_getD hb 0
  have b1 := U.isBytes_getD hb 1
  have b2 := U.isBytes_getD hb 2
  have b3 := U.isBytes_getD hb 3
  match i, hi with
  | 0, _ => simp only [candI]; omega
  | 1, _ => simp only [candI, Nat.zero_add, Nat.reduceAdd]; omega
  | 2, _ => simp only [candI, Nat.zero_add, Nat.reduceAdd]; omega
  | 3, _ => simp only [candI, Nat.zero_add, Nat.reduceAdd]; omega
theorem lowOf_bd (n : Nat) : 0 ≤ lowOf n ∧ lowOf n ≤ 240 := by
  unfold lowOf
  match n with
  | 0 => simp
  | 1 => simp
  | 2 => simp
  | 3 => simp
  | 4 => simp
  | n + 5 => simp
/-- n bytes are a scalar's, by definition -/
def Hit (l : List Int) (n : Nat) : Prop := U.mayB (cand l n) = true ∧ U.putL (cand l n) = l.take n
theorem Hit.next {l : List Int} {n : Nat} (h : Hit l n) (hn : n ≤ l.length) : U.nextL l = (cand l n, n) := by
  have := U.next_put h.1 (l.drop n)
  rw [h.2, List.take_append_drop, List.length_take, Nat.min_eq_left hn] at this
  exact this
theorem cand_put {r : Int} (h : U.mayB r = true) (s : List Int) : cand (U.putL r ++ s) (U.putL r).length = r := by
  rw [U.may_iff] at h
  obtain ⟨b0, b1, _⟩ := h
  by_cases h1 : r < 128
  · have e : U.putL r = [r] := by simp [U.putL, h1]
    rw [e]; simp [cand, candI, lowOf]
  by_cases h2 : r < 2048
  · have e : U.putL r = [192 + r / 64, 128 + r % 64] := by simp [U.putL, h1, h2]
    rw [e]
    show 64 * (192 + r / 64 - 192) + (128 + r % 64) - 128 = r
    omega
  by_cases h3 : r < 65536
  · have e : U.putL r = [224 + r / 4096, 128 + r / 64 % 64, 128 + r % 64] := by simp [U.putL, h1, h2, h3]
    rw [e]
    show 64 * (64 * (224 + r / 4096 - 224) + (128 + r / 64 % 64) - 128) + (128 + r % 64) - 128 = r
    omega
  · have e : U.putL r = [240 + r / 262144, 128 + r / 4096 % 64, 128 + r / 64 % 64, 128 + r % 64] := by simp [U.putL, h1, h2, h3]
    rw [e]
    show 64 * (64 * (64 * (240 + r / 262144 - 240) + (128 + r / 4096 % 64) - 128) + (128 + r / 64 % 64) - 128) + (128 + r % 64) - 128 = r
    omega
/-- where nothing hits, nothing is next -/
theorem noHit {l : List Int} (hb : U.isBytes l) (hne : l ≠ []) (h : ∀ m, 1 ≤ m → m ≤ 4 → m ≤ l.length → ¬ Hit l m) : U.nextL l = (-1, 1) := by
  rcases U.next_cases hb with ⟨e, _⟩ | ⟨_, e⟩ | ⟨r, a, e, t, d⟩
  · exact absurd e hne
  · exact e
  · exfalso
    have pl := U.putL_len r
    refine h _ pl.1 pl.2 d ?_
    have e2 : U.putL r ++ l.drop (U.putL r).length = l := by
      have := List.take_append_drop (U.putL r).length l
      rw [t] at this
      exact this
    have c := cand_put a (l.drop (U.putL r).length)
    rw [e2] at c
    exact ⟨by rw [c]; exact a, by rw [c, t]⟩

def lowObj : Obj := .cells #[.int .i64 0, .int .i64 0, .int .i64 192, .int .i64 224, .int .i64 240] 3

end Go.Proofs.YtejipaapbfjooaaDoor
