/- The contracts of the document's own Ends, and of Ints where the two lists are the same. -/
import Derived.Test.YtjjfeeclpidblaaLnRef
namespace Go.Proofs.Ytjjfeeclpidblaa.Ln
open Go.RowKit
set_option linter.unusedVariables false
set_option linter.unusedSimpArgs false

/-- what the loop has told so far -/
def eF (l : List Int) (k : Nat) : List Int := if k < l.length ∨ l.length = 0 then feedsN l k else endsI l
theorem eF_in {l : List Int} {k : Nat} (h : k < l.length ∨ l.length = 0) : eF l k = feedsN l k := by unfold eF; rw [if_pos h]
theorem eF_end {l : List Int} (h : 1 ≤ l.length) : eF l l.length = endsI l := by unfold eF; rw [if_neg (by omega)]
theorem eF_10 {l : List Int} {k : Nat} (hk : k < l.length) (hz : l.getD k 0 = 10) : eF l (k + 1) = eF l k ++ [((k + 1 : Nat) : Int)] := by
  have e1 : eF l k = feedsN l k := eF_in (.inl hk)
  rw [e1]
  by_cases h : k + 1 < l.length
  · rw [eF_in (k := k + 1) (.inl h), feeds_yes hz]
  · have e : l.length = k + 1 := by omega
    have e2 : eF l (k + 1) = endsI l := by rw [← e]; exact eF_end (by omega)
    rw [e2, ends_is, if_pos ⟨by omega, by rw [e, show k + 1 - 1 = k by omega]; exact hz⟩, e, feeds_yes hz]
theorem eF_last {l : List Int} {k : Nat} (hk : k + 1 = l.length) (hz : l.getD k 0 ≠ 10) : eF l (k + 1) = eF l k ++ [((k + 1 : Nat) : Int)] := by
  have e1 : eF l k = feedsN l k := eF_in (.inl (by omega))
  have e2 : eF l (k + 1) = endsI l := by rw [hk]; exact eF_end (by omega)
  rw [e1, e2, ends_is, if_neg (by
    rintro ⟨_, c⟩
    rw [← hk, show k + 1 - 1 = k by omega] at c
    exact hz c), ← hk, feeds_no hz]
theorem eF_no {l : List Int} {k : Nat} (hk : k + 1 < l.length) (hz : l.getD k 0 ≠ 10) : eF l (k + 1) = eF l k := by
  have e1 : eF l k = feedsN l k := eF_in (.inl (by omega))
  rw [e1, eF_in (k := k + 1) (.inl hk), feeds_no hz]
theorem eF_nil {l : List Int} (h : l.length = 0) : endsI l = eF l 0 ++ [0] := by
  have : l = [] := List.eq_nil_of_length_eq_zero h
  subst this
  decide
theorem eF_zero (l : List Int) (h : 0 < l.length ∨ l.length = 0) : eF l 0 = [] := by unfold eF; rw [if_pos h]; rfl

theorem intsV_snoc (l : List Int) (x : Int) : intsV (l ++ [x]) = intsV l ++ [.int .i64 x] := by simp [intsV]

set_option maxRecDepth 20000 in
set_option maxHeartbeats 1000000 in
theorem refEnds_any (a : Option Addr) (len cap : Nat) (l : List Int) (w : World) (h : Bs w a len cap l) (hs : len ≤ 1000000) :
    Calls Try.prog 13 #[.slice a len cap] w fun e w' => ∃ x c, e = .returned (.slice x (endsI l).length c) ∧ Is4 w' x (endsI l).length c (endsI l) ∧ Below w.heap.size w w' := by
  have key : Calls Try.prog 13 #[.slice a len cap] w fun e w' => ∃ v, e = .returned v ∧ w'.ownsRow w.heap.size 3 1 v (endsI l).length (intsV (endsI l)) ∧ Below w.heap.size w w' := by
    have hl := h.hlen
    have hmax := h.hmax
    have hcap := h.hcap
    unfold maxLen at hmax
    obtain ⟨i0, hi0, hz0, hz1, hz2⟩ := info_parts infoInt
    have HB := hideR h
    clear h
    go_enter Try.func13, Try.ntmps13
    go_wp2_with fail
    go_loopw [3, 4] (fun v j wr => ∃ (k : Nat) (F : List Int), k ≤ len ∧ j = .int .i64 ((k + 1 : Nat) : Int) ∧ Hid (F = eF l k) ∧ F.length ≤ k ∧ wr.ownsRow w.heap.size 3 1 v F.length (intsV F) ∧ Below w.heap.size w wr) (fun _ j _ => len + 1 - (intOf j).toNat)
    case atStart => exact ⟨0, [], Nat.zero_le _, rfl, (eF_zero l (by omega)).symm, Nat.le_refl _, World.ownsRow_nil _ _ _ _, Below.refl _ _⟩
    case round =>
      obtain ⟨k, F, hk, rfl, hF, hFl, hown, hb⟩ := hrel
      have hbs := hb.size
      by_cases hlt : k < len
      · obtain ⟨b, off, rfl, hbo⟩ := ((unhideR HB).later hb (Nat.le_refl _)).open (by omega)
        obtain ⟨z, hz, z0, z1, cz⟩ := bat hbo k (by omega)
        clear hbo
        by_cases h10 : z = 10
        · subst h10
          have st : Hid (F ++ [((k + 1 : Nat) : Int)] = eF l (k + 1)) := by
            show _ = _
            rw [eF_10 (by omega) hz, hF.out]
          clear hF HB hz
          go_wp2_with (at_builtin; refine wpList_append_lies _ rfl _ _ 25 rfl w.heap.size 3 i0 _ 1 8 Try.underlying25 hi0 hz0 hz1 hz2 rfl (by omega) _ _ _ rfl (hown.alloc _) ⟨wr.heap.size, 0, none⟩ 1 1 [.int .i64 ((k : Int) + 1)] rfl rfl (new_int _ _ _ rfl) (by simp [Value.oneCell']) (by omega) (by unfold maxLen; omega) (by omega) (by simp; omega) (wr.heap.size + 1) (by simp) ?_; intro gg cap1 w1 hown1 hgrow hat hlt1)
          go_roundw
          case rel => exact ⟨k + 1, F ++ [((k + 1 : Nat) : Int)], by omega, by go_num, st, by simp; omega, by rw [intsV_snoc, List.length_append]; exact hown1, below_grow (hown.alloc _) (hb.alloc hb.size _) (by simp; omega) hgrow⟩
          case measure => simp [intOf]; omega
        · have e1 : (z == 10) = false := by rw [beq_eq_false_iff_ne]; exact h10
          by_cases hla : k + 1 = len
          · have st : Hid (F ++ [((k + 1 : Nat) : Int)] = eF l (k + 1)) := by
              show _ = _
              rw [eF_last (by omega) (by rw [hz]; exact h10), hF.out]
            subst hla
            clear hF HB hz
            go_wp2_with (at_builtin; refine wpList_append_lies _ rfl _ _ 25 rfl w.heap.size 3 i0 _ 1 8 Try.underlying25 hi0 hz0 hz1 hz2 rfl (by omega) _ _ _ rfl (hown.alloc _) ⟨wr.heap.size, 0, none⟩ 1 1 [.int .i64 ((k : Int) + 1)] rfl rfl (new_int _ _ _ rfl) (by simp [Value.oneCell']) (by omega) (by unfold maxLen; omega) (by omega) (by simp; omega) (wr.heap.size + 1) (by simp) ?_; intro gg cap1 w1 hown1 hgrow hat hlt1)
            go_roundw
            case rel => exact ⟨k + 1, F ++ [((k + 1 : Nat) : Int)], by omega, by go_num, st, by simp; omega, by rw [intsV_snoc, List.length_append]; exact hown1, below_grow (hown.alloc _) (hb.alloc hb.size _) (by simp; omega) hgrow⟩
            case measure => simp [intOf]; omega
          · have st : Hid (F = eF l (k + 1)) := by
              show _ = _
              rw [eF_no (by omega) (by rw [hz]; exact h10), hF.out]
            have e2 : ((k : Int) + 1 == (len : Int)) = false := by rw [beq_eq_false_iff_ne]; omega
            clear hF HB hz
            go_wp2_with fail
            go_roundw
            case rel => exact ⟨k + 1, F, by omega, by go_num, st, by omega, hown, hb⟩
            case measure => simp [intOf]; omega
      · by_cases h0 : len = 0
        · subst h0
          obtain rfl : k = 0 := by omega
          have st : Hid (endsI l = F ++ [(0 : Int)]) := by
            show _ = _
            rw [hF.out]; exact eF_nil hl
          clear hF HB
          go_wp2_with (at_builtin; refine wpList_append_lies _ rfl _ _ 25 rfl w.heap.size 3 i0 _ 1 8 Try.underlying25 hi0 hz0 hz1 hz2 rfl (by omega) _ _ _ rfl (hown.alloc _) ⟨wr.heap.size, 0, none⟩ 1 1 [.int .i64 0] rfl rfl (new_int _ _ _ rfl) (by simp [Value.oneCell']) (by omega) (by unfold maxLen; omega) (by omega) (by simp; omega) (wr.heap.size + 1) (by simp) ?_; intro gg cap1 w1 hown1 hgrow hat hlt1)
          go_ret
          exact ⟨_, rfl, by rw [st.out, intsV_snoc, List.length_append]; exact hown1, below_grow (hown.alloc _) (hb.alloc hb.size _) (by simp; omega) hgrow⟩
        · obtain rfl : k = len := by omega
          have st : Hid (endsI l = F) := by
            show _ = _
            rw [hF.out, ← hl, eF_end (by omega)]
          have e0 : ((k : Int) == 0) = false := by rw [beq_eq_false_iff_ne]; omega
          clear hF HB
          go_wp2_with fail
          go_ret
          exact ⟨_, rfl, by rw [st.out]; exact hown, hb⟩
  exact key.mono fun e w' ⟨v, he, ho, hb⟩ => by
    obtain ⟨x, c, rfl, hi⟩ := Is4.ofOwn ho
    exact ⟨x, c, he, hi, hb⟩

theorem draws_below {w : World} {k : Nat} {B : Nat} : Below B w (w.drewN k) := ⟨rfl, rfl, rfl, Nat.le_refl _, fun _ _ => rfl⟩

set_option maxRecDepth 20000 in
set_option maxHeartbeats 1000000 in
theorem refInts_same (x y : Option Addr) (len c d : Nat) (A : List Int) (w : World) (h : Is4 w x len c A) (h' : Is4 w y len d A) :
    Calls Try.prog 11 #[.slice x len c, .slice y len d] w fun e w' => e = .returned (.bool true) ∧ Below w.heap.size w w' := by
  have hl := h.hlen
  have hmax := h.hmax
  have hcap := h.hcap
  have hcap' := h'.hcap
  unfold maxLen at hmax
  have HB := hideR h
  have HB' := hideR h'
  clear h h'
  go_enter Try.func11, Try.ntmps11
  go_wp2_with fail
  go_loopw [5] (fun j wr => ∃ k : Nat, k ≤ len ∧ j = .int .i64 k ∧ Below w.heap.size w wr) (fun j _ => len - (intOf j).toNat)
  case atStart => exact ⟨0, Nat.zero_le _, rfl, Below.refl _ _⟩
  case round =>
    obtain ⟨k, hk, rfl, hb⟩ := hrel
    by_cases hlt : k < len
    · obtain ⟨g, off, rfl, hc⟩ := ((unhideR HB).later hb (Nat.le_refl _)).open (by omega)
      obtain ⟨g', off', rfl, hc'⟩ := ((unhideR HB').later hb (Nat.le_refl _)).open (by omega)
      have c0 := hc k hlt
      have c1 := hc' k hlt
      clear hc hc'
      generalize A.getD k 0 = z at *
      have k0 : ∀ d, (wr.drewN d).cell? ⟨g, off + k, none⟩ = some (.int .i64 z) := fun d => by simpa using c0
      have k1 : ∀ d, (wr.drewN d).cell? ⟨g', off' + k, none⟩ = some (.int .i64 z) := fun d => by simpa using c1
      clear c0 c1 HB HB'
      go_wp2_with fail
      go_quiet (fail)
      go_wp2_with fail
      go_roundw
      case rel => exact ⟨k + 1, by omega, by go_num, hb.trans draws_below⟩
      case measure => simp [intOf]; omega
    · clear HB HB'
      go_wp2_with fail
      go_ret
      exact ⟨rfl, hb⟩

end Go.Proofs.Ytjjfeeclpidblaa.Ln
