/- Contracts of the document's own answers of layer 2 (exegeteref02). -/
import Derived.Test.YtejipaapbfjooaaDoorRgSets
import Derived.Test.YtejipaapbfjooaaDoorRgSame
namespace Go.Proofs.YtejipaapbfjooaaDoor
open Go.RowKit
set_option linter.unusedVariables false

set_option maxRecDepth 20000 in
set_option maxHeartbeats 1000000 in
theorem refHas_any (a : Option Addr) (len cap : Nat) (l : List (Int × Int)) (n : Int) (w : World) (h : Rs w a len cap l) :
    Calls Tryd.prog 83 #[.slice a len cap, .int .i64 n] w fun e w' => e = .returned (.bool (G.hasB l n)) ∧ w' = w := by
  have hl := h.hlen
  have hmax := h.hmax
  have hcap := h.hcap
  unfold maxLen at hmax
  go_enter Tryd.func83, Tryd.ntmps83
  go_wp2
  go_loop [5] (fun i => ∃ (k : Nat), k ≤ len ∧ i = .int .i64 k ∧ Hid (G.hasB (l.drop k) n = G.hasB l n)) (fun i => len - (intOf i).toNat)
  case atStart => exact ⟨0, Nat.zero_le _, rfl, by show G.hasB l n = G.hasB l n; rfl⟩
  case round =>
    obtain ⟨k, hk, rfl, hn⟩ := hrel
    by_cases hlt : k < len
    · obtain ⟨b, off, rfl, hr⟩ := h.open (by omega)
      obtain ⟨lo, hi, hd, -, f1, f2, c0, c1⟩ := hr.at k hlt
      have hd' : Hid (l.drop k = (lo, hi) :: l.drop (k + 1)) := hd
      clear hd hr f1 f2 h
      by_cases t1 : lo ≤ n
      · by_cases t2 : n ≤ hi
        · have fin : Hid (G.hasB l n = true) := by
            show G.hasB l n = true
            rw [← hn.out, hd'.out, G.hasB_cons]; simp [t1, t2]
          go_wp2
          go_ret
          exact ⟨ret_bool fin.out.symm, rfl⟩
        · have fin : Hid (G.hasB (l.drop (k + 1)) n = G.hasB l n) := by
            show _ = _
            rw [← hn.out, hd'.out, G.hasB_cons]; simp [t2]
          have t2' : hi < n := by omega
          go_wp2
          go_round
          case rel => exact ⟨k + 1, by omega, by go_num, fin⟩
          case measure => simp [intOf]; omega
      · have fin : Hid (G.hasB (l.drop (k + 1)) n = G.hasB l n) := by
          show _ = _
          rw [← hn.out, hd'.out, G.hasB_cons]; simp [t1]
        have t1' : n < lo := by omega
        go_wp2
        go_round
        case rel => exact ⟨k + 1, by omega, by go_num, fin⟩
        case measure => simp [intOf]; omega
    · have fin : Hid (G.hasB l n = false) := by
        show _ = _
        rw [← hn.out, List.drop_of_length_le (by omega)]; rfl
      clear h
      go_wp2
      go_ret
      exact ⟨ret_bool fin.out.symm, rfl⟩

/-- what the border says of the first k ranges -/
def bdI (l : List (Int × Int)) (n : Int) (k : Nat) (r : Int) : Prop := ∀ p ∈ l.take k, (n < p.1 → r ≤ p.1) ∧ (n ≤ p.2 → r ≤ p.2 + 1)

theorem bdI_step {l : List (Int × Int)} {n : Int} {k : Nat} {r r' lo hi : Int} (h : bdI l n k r) (ht : l.take (k + 1) = l.take k ++ [(lo, hi)]) (hr : r' ≤ r) (h1 : n < lo → r' ≤ lo) (h2 : n ≤ hi → r' ≤ hi + 1) : bdI l n (k + 1) r' := by
  intro p hp
  rw [ht] at hp
  rcases List.mem_append.1 hp with hp | hp
  · have := h p hp
    exact ⟨fun x => Int.le_trans hr (this.1 x), fun x => Int.le_trans hr (this.2 x)⟩
  · simp at hp; subst hp; exact ⟨h1, h2⟩

theorem bdI_same {l : List (Int × Int)} {n : Int} {k : Nat} {r : Int} (h : bdI l n k r) (hk : l.length ≤ k) {m : Int} (h1 : n ≤ m) (h2 : m < r) : G.hasB l m = G.hasB l n := by
  unfold bdI at h
  rw [List.take_of_length_le hk] at h
  unfold G.hasB
  rw [Bool.eq_iff_iff, List.any_eq_true, List.any_eq_true]
  constructor
  · rintro ⟨p, hp, hx⟩
    refine ⟨p, hp, ?_⟩
    have := h p hp
    simp only [Bool.and_eq_true, decide_eq_true_eq] at *
    by_cases c : n < p.1
    · have := this.1 c; omega
    · omega
  · rintro ⟨p, hp, hx⟩
    refine ⟨p, hp, ?_⟩
    have := h p hp
    simp only [Bool.and_eq_true, decide_eq_true_eq] at *
    have := this.2 hx.2
    omega

set_option maxRecDepth 20000 in
set_option maxHeartbeats 1000000 in
theorem refBorder_any (a : Option Addr) (len cap : Nat) (l : List (Int × Int)) (n best : Int) (w : World) (h : Rs w a len cap l) (h0 : 0 ≤ n) (h1 : n < best) (h2 : best ≤ 1114112) :
    Calls Tryd.prog 65 #[.slice a len cap, .int .i64 n, .int .i64 best] w fun e w' => (∃ r : Int, e = .returned (.int .i64 r) ∧ n < r ∧ r ≤ best ∧ ∀ m, n ≤ m → m < r → G.hasB l m = G.hasB l n) ∧ w' = w := by
  have hl := h.hlen
  have hmax := h.hmax
  have hcap := h.hcap
  unfold maxLen at hmax
  go_enter Tryd.func65, Tryd.ntmps65
  go_wp2
  go_loop [2, 7] (fun b i => ∃ (k : Nat) (r : Int), k ≤ len ∧ i = .int .i64 k ∧ b = .int .i64 r ∧ n < r ∧ r ≤ best ∧ Hid (bdI l n k r)) (fun _ i => len - (intOf i).toNat)
  case atStart => exact ⟨0, best, Nat.zero_le _, rfl, rfl, h1, Int.le_refl _, fun p hp => by simp at hp⟩
  case round =>
    obtain ⟨k, r, hk, rfl, rfl, hr0, hr1, hn⟩ := hrel
    by_cases hlt : k < len
    · obtain ⟨b, off, rfl, hr⟩ := h.open (by omega)
      obtain ⟨lo, hi, -, ht, f1, f2, c0, c1⟩ := hr.at k hlt
      unfold fits at f1 f2
      obtain ⟨f1a, f1b⟩ := f1
      obtain ⟨f2a, f2b⟩ := f2
      have ht' := hideR ht
      clear ht hr h
      have key : ∃ r1, ((n < lo ∧ lo < r ∧ r1 = lo) ∨ (n < lo ∧ r ≤ lo ∧ r1 = r) ∨ (lo ≤ n ∧ r1 = r)) := by
        by_cases x1 : n < lo
        · by_cases x2 : lo < r
          · exact ⟨lo, .inl ⟨x1, x2, rfl⟩⟩
          · exact ⟨r, .inr (.inl ⟨x1, by omega, rfl⟩)⟩
        · exact ⟨r, .inr (.inr ⟨by omega, rfl⟩)⟩
      obtain ⟨r1, key⟩ := key
      rcases key with ⟨x1, x2, rfl⟩ | ⟨x1, x2, rfl⟩ | ⟨x1, rfl⟩
      · by_cases y1 : n ≤ hi
        · by_cases y2 : hi < r1 - 1
          · have st := hideR (bdI_step (r' := hi + 1) hn.out (unhideR ht') (by omega) (by omega) (by omega))
            go_wp2
            go_round
            case rel => exact ⟨k + 1, hi + 1, by omega, by go_num, rfl, by omega, by omega, unhideR st⟩
            case measure => simp [intOf]; omega
          · have st := hideR (bdI_step (r' := r1) hn.out (unhideR ht') (by omega) (by omega) (by omega))
            have y2' : r1 - 1 ≤ hi := by omega
            go_wp2
            go_round
            case rel => exact ⟨k + 1, r1, by omega, by go_num, rfl, by omega, by omega, unhideR st⟩
            case measure => simp [intOf]; omega
        · have st := hideR (bdI_step (r' := r1) hn.out (unhideR ht') (by omega) (by omega) (by omega))
          have y1' : hi < n := by omega
          go_wp2
          go_round
          case rel => exact ⟨k + 1, r1, by omega, by go_num, rfl, by omega, by omega, unhideR st⟩
          case measure => simp [intOf]; omega
      · by_cases y1 : n ≤ hi
        · by_cases y2 : hi < r1 - 1
          · have st := hideR (bdI_step (r' := hi + 1) hn.out (unhideR ht') (by omega) (by omega) (by omega))
            go_wp2
            go_round
            case rel => exact ⟨k + 1, hi + 1, by omega, by go_num, rfl, by omega, by omega, unhideR st⟩
            case measure => simp [intOf]; omega
          · have st := hideR (bdI_step (r' := r1) hn.out (unhideR ht') (by omega) (by omega) (by omega))
            have y2' : r1 - 1 ≤ hi := by omega
            go_wp2
            go_round
            case rel => exact ⟨k + 1, r1, by omega, by go_num, rfl, by omega, by omega, unhideR st⟩
            case measure => simp [intOf]; omega
        · have st := hideR (bdI_step (r' := r1) hn.out (unhideR ht') (by omega) (by omega) (by omega))
          have y1' : hi < n := by omega
          go_wp2
          go_round
          case rel => exact ⟨k + 1, r1, by omega, by go_num, rfl, by omega, by omega, unhideR st⟩
          case measure => simp [intOf]; omega
      · by_cases y1 : n ≤ hi
        · by_cases y2 : hi < r1 - 1
          · have st := hideR (bdI_step (r' := hi + 1) hn.out (unhideR ht') (by omega) (by omega) (by omega))
            go_wp2
            go_round
            case rel => exact ⟨k + 1, hi + 1, by omega, by go_num, rfl, by omega, by omega, unhideR st⟩
            case measure => simp [intOf]; omega
          · have st := hideR (bdI_step (r' := r1) hn.out (unhideR ht') (by omega) (by omega) (by omega))
            have y2' : r1 - 1 ≤ hi := by omega
            go_wp2
            go_round
            case rel => exact ⟨k + 1, r1, by omega, by go_num, rfl, by omega, by omega, unhideR st⟩
            case measure => simp [intOf]; omega
        · have st := hideR (bdI_step (r' := r1) hn.out (unhideR ht') (by omega) (by omega) (by omega))
          have y1' : hi < n := by omega
          go_wp2
          go_round
          case rel => exact ⟨k + 1, r1, by omega, by go_num, rfl, by omega, by omega, unhideR st⟩
          case measure => simp [intOf]; omega
    · have hn' := hn.out
      go_wp2
      go_ret
      exact ⟨⟨r, rfl, hr0, hr1, fun m m1 m2 => bdI_same hn' (by omega) m1 m2⟩, rfl⟩

/-- what is asked of a number -/
def isP (how high : Int) (x y : Bool) (n : Int) : Bool := if how = 0 then x || y else if how = 1 then x && y else if how = 2 then x && !y else !x && decide (n ≤ high)

set_option maxRecDepth 20000 in
set_option maxHeartbeats 2000000 in
theorem refIs_any (a : Option Addr) (la ca : Nat) (A : List (Int × Int)) (b : Option Addr) (lb cb : Nat) (B : List (Int × Int)) (how high n : Int) (w : World) (ha : Rs w a la ca A) (hb : Rs w b lb cb B) :
    Calls Tryd.prog 66 #[.slice a la ca, .slice b lb cb, .int .i64 how, .int .i64 high, .int .i64 n] w fun e w' => e = .returned (.bool (isP how high (G.hasB A n) (G.hasB B n) n)) ∧ w' = w := by
  have c1 := refHas_any a la ca A n w ha
  have c2 := refHas_any b lb cb B n w hb
  clear ha hb
  generalize G.hasB A n = x at *
  generalize G.hasB B n = y at *
  have C1 := hideR c1
  have C2 := hideR c2
  clear c1 c2
  have walk : ∀ r : Bool, isP how high x y n = r → Calls Tryd.prog 66 #[.slice a la ca, .slice b lb cb, .int .i64 how, .int .i64 high, .int .i64 n] w fun e w' => e = .returned (.bool r) ∧ w' = w := by
    intro r hr
    unfold isP at hr
    by_cases h0 : how = 0
    · rw [if_pos h0] at hr
      have g0 : (how == 0) = true := by rw [beq_iff_eq]; exact h0
      clear h0
      cases x
      all_goals
        subst hr
        go_enter Tryd.func66, Tryd.ntmps66
        go_wp2_with fail
        refine (unhideR C1).mono ?_
        rintro e w' ⟨rfl, rfl⟩
        go_wp2_with fail
        refine (unhideR C2).mono ?_
        rintro e w' ⟨rfl, rfl⟩
        go_wp2_with fail
        go_ret
        exact ⟨ret_bool (by simp), rfl⟩
    · rw [if_neg h0] at hr
      have g0 : (how == 0) = false := by rw [beq_eq_false_iff_ne]; exact h0
      clear h0
      by_cases h1 : how = 1
      · rw [if_pos h1] at hr
        have g1 : (how == 1) = true := by rw [beq_iff_eq]; exact h1
        clear h1
        cases x
        all_goals
          subst hr
          go_enter Tryd.func66, Tryd.ntmps66
          go_wp2_with fail
          refine (unhideR C1).mono ?_
          rintro e w' ⟨rfl, rfl⟩
          go_wp2_with fail
          refine (unhideR C2).mono ?_
          rintro e w' ⟨rfl, rfl⟩
          go_wp2_with fail
          go_ret
          exact ⟨ret_bool (by simp), rfl⟩
      · rw [if_neg h1] at hr
        have g1 : (how == 1) = false := by rw [beq_eq_false_iff_ne]; exact h1
        clear h1
        by_cases h2 : how = 2
        · rw [if_pos h2] at hr
          have g2 : (how == 2) = true := by rw [beq_iff_eq]; exact h2
          clear h2
          cases x
          all_goals
            subst hr
            go_enter Tryd.func66, Tryd.ntmps66
            go_wp2_with fail
            refine (unhideR C1).mono ?_
            rintro e w' ⟨rfl, rfl⟩
            go_wp2_with fail
            refine (unhideR C2).mono ?_
            rintro e w' ⟨rfl, rfl⟩
            go_wp2_with fail
            go_ret
            exact ⟨ret_bool (by simp), rfl⟩
        · rw [if_neg h2] at hr
          have g2 : (how == 2) = false := by rw [beq_eq_false_iff_ne]; exact h2
          clear h2
          cases x
          all_goals
            subst hr
            go_enter Tryd.func66, Tryd.ntmps66
            go_wp2_with fail
            refine (unhideR C1).mono ?_
            rintro e w' ⟨rfl, rfl⟩
            go_wp2_with fail
            refine (unhideR C2).mono ?_
            rintro e w' ⟨rfl, rfl⟩
            go_wp2_with fail
            go_ret
            exact ⟨ret_bool (by simp), rfl⟩
  exact walk _ rfl

end Go.Proofs.YtejipaapbfjooaaDoor
