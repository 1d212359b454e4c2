/- The places behind line feeds, one behind the other: how Begin, Line and Ends follow from them. No program is named here. -/
import Derived.Test.YtjjfeeclpidblaaLnMath
namespace Go.Proofs.Ytjjfeeclpidblaa.Ln
set_option linter.unusedSimpArgs false
set_option linter.unusedVariables false

def feedsN (l : List Int) : Nat → List Int
  | 0 => []
  | n + 1 => if l.getD n 0 = 10 then feedsN l n ++ [((n + 1 : Nat) : Int)] else feedsN l n
/-- the last of them, or 0 -/
def lastI (l : List Int) : Int := l.getLastD 0
theorem last_snoc (l : List Int) (x : Int) : lastI (l ++ [x]) = x := by simp [lastI]
theorem feeds_yes {l : List Int} {n : Nat} (h : l.getD n 0 = 10) : feedsN l (n + 1) = feedsN l n ++ [((n + 1 : Nat) : Int)] := by simp only [feedsN]; rw [if_pos h]
theorem feeds_no {l : List Int} {n : Nat} (h : l.getD n 0 ≠ 10) : feedsN l (n + 1) = feedsN l n := by simp only [feedsN]; rw [if_neg h]
theorem feeds_last (l : List Int) (n : Nat) : lastI (feedsN l n) = (beginN l n : Int) := by
  induction n with
  | zero => rfl
  | succ n ih =>
    unfold beginN
    by_cases h : l.getD n 0 = 10
    · rw [feeds_yes h, if_pos h, last_snoc]
    · rw [feeds_no h, if_neg h]; exact ih
theorem feeds_length (l : List Int) (n : Nat) (hn : n ≤ l.length) : (feedsN l n).length = lineN l n := by
  induction n with
  | zero => rw [line_zero]; rfl
  | succ n ih =>
    rw [line_step l n (by omega)]
    by_cases h : l.getD n 0 = 10
    · rw [feeds_yes h, if_pos h, List.length_append, ih (by omega)]; rfl
    · rw [feeds_no h, if_neg h, ih (by omega)]; rfl
theorem take_getD {l : List Int} {n k : Nat} (h : k < n) : (l.take n).getD k 0 = l.getD k 0 := by
  simp only [List.getD, List.getElem?_take, if_pos h]
theorem feeds_take (l : List Int) (n m : Nat) (h : m ≤ n) : feedsN (l.take n) m = feedsN l m := by
  induction m with
  | zero => rfl
  | succ m ih =>
    simp only [feedsN]
    rw [take_getD (by omega), ih (by omega)]
theorem feeds_bd (l : List Int) (n : Nat) : (feedsN l n).length ≤ n := by
  induction n with
  | zero => exact Nat.le_refl _
  | succ n ih =>
    by_cases h : l.getD n 0 = 10
    · rw [feeds_yes h, List.length_append]; simp; omega
    · rw [feeds_no h]; omega
theorem feeds_mem (l : List Int) (n : Nat) {x : Int} (hx : x ∈ feedsN l n) : 1 ≤ x ∧ x ≤ n := by
  induction n with
  | zero => cases hx
  | succ n ih =>
    by_cases h : l.getD n 0 = 10
    · rw [feeds_yes h] at hx
      rcases List.mem_append.1 hx with h1 | h1
      · have := ih h1; omega
      · simp at h1; omega
    · rw [feeds_no h] at hx
      have := ih hx; omega
theorem feeds_pre (l : List Int) (n m : Nat) (h : n ≤ m) : ∃ rest, feedsN l n ++ rest = feedsN l m := by
  induction m with
  | zero => obtain rfl : n = 0 := by omega
            exact ⟨[], by simp⟩
  | succ m ih =>
    by_cases e : n = m + 1
    · subst e; exact ⟨[], by simp⟩
    · obtain ⟨rest, hr⟩ := ih (by omega)
      by_cases h : l.getD m 0 = 10
      · exact ⟨rest ++ [((m + 1 : Nat) : Int)], by rw [feeds_yes h, ← hr, List.append_assoc]⟩
      · exact ⟨rest, by rw [feeds_no h]; exact hr⟩

/-- all ends: the places behind line feeds, and the end -/
def endsI (l : List Int) : List Int := (endsL l).map fun (n : Nat) => (n : Int)
theorem ends_feeds (l : List Int) : ∀ (t pre : List Int), l = pre ++ t → t ≠ [] →
    feedsN l pre.length ++ (endsF pre.length t).map (fun (n : Nat) => (n : Int)) = if l.getD (l.length - 1) 0 = 10 then feedsN l l.length else feedsN l l.length ++ [(l.length : Int)] := by
  intro t
  induction t with
  | nil => intro pre _ h; exact absurd rfl h
  | cons z t ih =>
    intro pre hl _
    have hz : l.getD pre.length 0 = z := by
      have := getD_right (a := pre) (b := z :: t) (k := 0)
      rw [Nat.add_zero, ← hl] at this
      simpa using this
    have hlen : l.length = pre.length + (t.length + 1) := by rw [hl]; simp
    have hl' : l = (pre ++ [z]) ++ t := by rw [hl]; simp
    have hpl : (pre ++ [z]).length = pre.length + 1 := by simp
    by_cases ht : t = []
    · subst ht
      simp only [List.length_nil, Nat.zero_add] at hlen
      unfold endsF
      rw [if_pos (.inr rfl), hlen, show pre.length + 1 - 1 = pre.length by omega]
      by_cases h10 : z = 10
      · rw [if_pos (hz.trans h10), feeds_yes (hz.trans h10)]; simp [endsF]
      · rw [if_neg (by rw [hz]; exact h10), feeds_no (by rw [hz]; exact h10)]; simp [endsF]
    · have i := ih (pre ++ [z]) hl' ht
      rw [hpl] at i
      rw [← i]
      unfold endsF
      by_cases h10 : z = 10
      · rw [if_pos (.inl h10), feeds_yes (hz.trans h10)]
        cases t with
        | nil => exact absurd rfl ht
        | cons y t => simp [endsF]
      · rw [if_neg (by intro c; rcases c with c | c; exact h10 c; exact ht c), feeds_no (by rw [hz]; exact h10)]
        cases t with
        | nil => exact absurd rfl ht
        | cons y t => simp [endsF]
theorem ends_is (l : List Int) : endsI l = if l.length ≠ 0 ∧ l.getD (l.length - 1) 0 = 10 then feedsN l l.length else feedsN l l.length ++ [(l.length : Int)] := by
  unfold endsI endsL
  by_cases h : l = []
  · subst h; simp [feedsN]
  · have hl : l.length ≠ 0 := by cases l <;> simp_all
    rw [if_neg h]
    have := ends_feeds l l [] rfl h
    simp only [List.length_nil, feedsN, List.nil_append] at this
    rw [this]
    by_cases c : l.getD (l.length - 1) 0 = 10
    · rw [if_pos c, if_pos ⟨hl, c⟩]
    · rw [if_neg c, if_neg (by intro d; exact c d.2)]
/-- as the code tells it -/
theorem ends_has {l : List Int} (h : feedsN l l.length ≠ []) (h2 : (feedsN l l.length).getD ((feedsN l l.length).length - 1) 0 = (l.length : Int)) : endsI l = feedsN l l.length := by
  have hl : l.length ≠ 0 := by intro e; rw [e] at h; exact h rfl
  obtain ⟨n, hn⟩ : ∃ n, l.length = n + 1 := ⟨l.length - 1, by omega⟩
  rw [ends_is, if_pos]
  refine ⟨hl, ?_⟩
  rw [hn, show n + 1 - 1 = n by omega]
  rw [hn] at h2 h
  by_cases c : l.getD n 0 = 10
  · exact c
  · exfalso
    rw [feeds_no c] at h2 h
    have hp : 1 ≤ (feedsN l n).length := by cases hq : feedsN l n <;> simp_all
    have hm : (feedsN l n).getD ((feedsN l n).length - 1) 0 ∈ feedsN l n := by
      have e : (feedsN l n).getD ((feedsN l n).length - 1) 0 = (feedsN l n)[(feedsN l n).length - 1] := by
        simp [List.getD, show (feedsN l n).length - 1 < (feedsN l n).length by omega]
      rw [e]; exact List.getElem_mem _
    have := feeds_mem l n hm
    rw [h2] at this
    omega
theorem ends_lacks {l : List Int} (h : feedsN l l.length = [] ∨ (feedsN l l.length).getD ((feedsN l l.length).length - 1) 0 ≠ (l.length : Int)) : endsI l = feedsN l l.length ++ [(l.length : Int)] := by
  rw [ends_is, if_neg]
  rintro ⟨hl, c⟩
  obtain ⟨n, hn⟩ : ∃ n, l.length = n + 1 := ⟨l.length - 1, by omega⟩
  rw [hn, show n + 1 - 1 = n by omega] at c
  rw [hn, feeds_yes c] at h
  rcases h with h | h
  · simp at h
  · simp [List.getD] at h
theorem ends_bd (l : List Int) : (endsI l).length ≤ l.length + 1 := by
  rw [ends_is]
  have := feeds_bd l l.length
  split
  · omega
  · rw [List.length_append]; simp; omega

end Go.Proofs.Ytjjfeeclpidblaa.Ln
