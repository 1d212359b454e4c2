/- The contracts of seqs.from, agreed, Match and Part. -/
import Derived.Test.YtejipaapbfjooaaDoorSqOf
namespace Go.Proofs.YtejipaapbfjooaaDoor
open Go.RowKit
set_option linter.unusedVariables false
set_option linter.unusedSimpArgs false

theorem Bs.nil (w : World) (a : Option Addr) (cap : Nat) (h : cap ≤ maxLen) : Bs w a 0 cap [] := ⟨rfl, Nat.zero_le _, h, fun z hz => (by cases hz), fun i hi => (by omega)⟩
theorem Bb.bs {w : World} {b off len cap : Nat} {l : List Int} (h : Bb w b off len cap l) : Bs w (some ⟨b, off, none⟩) len cap l := ⟨h.hlen, h.hcap, h.hmax, h.hbytes, fun i hi => ⟨b, off, rfl, h.hcell i hi⟩⟩
theorem rest_in {l : List Int} {n : Nat} (h : n ≤ l.length) : Q.rest l n = l.drop n := by unfold Q.rest; rw [if_neg (by omega)]; simp
theorem rest_out {l : List Int} {i : Int} (h : i < 0 ∨ (l.length : Int) < i) : Q.rest l i = [] := by unfold Q.rest; rw [if_pos h]

def FromA (w : World) (l : List Int) (at' : Int) (e : Ending) (w' : World) : Prop := ∃ a' len' cap', e = .returned (.slice a' len' cap') ∧ Bs w a' len' cap' (Q.rest l at') ∧ (a' = none → cap' = 0) ∧ w' = w

set_option maxRecDepth 20000 in
theorem from_in (b off len cap : Nat) (l : List Int) (w : World) (h : Bb w b off len cap l) (n : Nat) (h1 : n < len) :
    Calls Tryd.prog 32 #[.slice (some ⟨b, off, none⟩) len cap, .int .i64 n] w (FromA w l n) := by
  have hl := h.hlen
  have hmax := h.hmax
  have hcap := h.hcap
  unfold maxLen at hmax
  have hd := h.drop n h1
  have hne : ¬ len = n := by omega
  have H := hideR (show Bs w (some ⟨b, off + n, none⟩) (len - n) (len - n) (Q.rest l n) by
    rw [rest_in (by omega)]
    exact ⟨hd.hlen, Nat.le_refl _, by have := hd.hmax; have := hd.hcap; omega, hd.hbytes, fun i hi => ⟨_, _, rfl, hd.hcell i hi⟩⟩)
  clear h hd
  go_enter Tryd.func32, Tryd.ntmps32
  go_wp2_with fail
  go_ret
  exact ⟨_, _, _, rfl, unhideR H, (fun e => by cases e), rfl⟩
set_option maxRecDepth 20000 in
theorem from_end (b off len cap : Nat) (l : List Int) (w : World) (h : Bb w b off len cap l) :
    Calls Tryd.prog 32 #[.slice (some ⟨b, off, none⟩) len cap, .int .i64 len] w (FromA w l len) := by
  have hl := h.hlen
  have hmax := h.hmax
  have hcap := h.hcap
  have H := hideR (show Q.rest l len = [] by rw [rest_in (by omega), List.drop_of_length_le (by omega)])
  clear h
  unfold maxLen at hmax
  go_enter Tryd.func32, Tryd.ntmps32
  go_wp2_with fail
  go_ret
  exact ⟨_, _, _, rfl, by rw [unhideR H]; exact Bs.nil _ _ _ (by unfold maxLen; omega), (fun e => by cases e), rfl⟩
set_option maxRecDepth 20000 in
theorem from_out (a : Option Addr) (len cap : Nat) (l : List Int) (hl : l.length = len) (w : World) (at' : Int) (h : at' < 0 ∨ (len : Int) < at') :
    Calls Tryd.prog 32 #[.slice a len cap, .int .i64 at'] w (FromA w l at') := by
  have H := hideR (rest_out (l := l) (by omega : at' < 0 ∨ (l.length : Int) < at'))
  by_cases c : at' < 0
  · clear h
    go_enter Tryd.func32, Tryd.ntmps32
    go_wp2_with fail
    go_ret
    exact ⟨_, _, _, rfl, by rw [unhideR H]; exact Bs.nil _ _ _ (by unfold maxLen; omega), fun e => rfl, rfl⟩
  · have c2 : (len : Int) < at' := by omega
    clear h
    go_enter Tryd.func32, Tryd.ntmps32
    go_wp2_with fail
    go_ret
    exact ⟨_, _, _, rfl, by rw [unhideR H]; exact Bs.nil _ _ _ (by unfold maxLen; omega), fun e => rfl, rfl⟩
set_option maxRecDepth 20000 in
theorem from_nil (w : World) : Calls Tryd.prog 32 #[.slice none 0 0, .int .i64 0] w (FromA w [] 0) := by
  go_enter Tryd.func32, Tryd.ntmps32
  go_wp2_with fail
  go_ret
  exact ⟨_, _, _, rfl, Bs.nil _ _ _ (by unfold maxLen; omega), fun e => rfl, rfl⟩
set_option maxRecDepth 20000 in
theorem from_some (ad : Addr) (cap : Nat) (hcap : cap ≤ 9223372036854775807) (w : World) : Calls Tryd.prog 32 #[.slice (some ad) 0 cap, .int .i64 0] w (FromA w [] 0) := by
  go_enter Tryd.func32, Tryd.ntmps32
  go_wp2_with fail
  go_ret
  exact ⟨_, _, _, rfl, Bs.nil _ _ _ (by unfold maxLen; omega), (fun e => by cases e), rfl⟩

theorem from_any (a : Option Addr) (len cap : Nat) (l : List Int) (w : World) (h : Bs w a len cap l) (hn : a = none → cap = 0) (at' : Int) :
    Calls Tryd.prog 32 #[.slice a len cap, .int .i64 at'] w (FromA w l at') := by
  by_cases ho : at' < 0 ∨ (len : Int) < at'
  · exact from_out a len cap l h.hlen w at' ho
  · obtain ⟨n, rfl⟩ : ∃ n : Nat, at' = n := ⟨at'.toNat, by omega⟩
    by_cases hp : 1 ≤ len
    · obtain ⟨b, off, rfl, hb⟩ := h.open hp
      by_cases hlt : n < len
      · exact from_in b off len cap l w hb n hlt
      · obtain rfl : n = len := by omega
        exact from_end b off n cap l w hb
    · obtain rfl : len = 0 := by omega
      obtain rfl : n = 0 := by omega
      have hl := h.hlen
      obtain rfl : l = [] := List.eq_nil_of_length_eq_zero hl
      cases a with
      | none =>
        obtain rfl := hn rfl
        exact from_nil w
      | some ad =>
        have := h.hmax
        unfold maxLen at this
        exact from_some ad cap (by omega) w

/-! ### agreed -/
theorem fits_step {s : List (Int × Int)} {l : List Int} {k : Nat} {lo hi z : Int} (hs : s.drop k = (lo, hi) :: s.drop (k + 1)) (hl : l.drop k = z :: l.drop (k + 1)) :
    Q.fitsL (s.drop k) (l.drop k) = if lo ≤ z ∧ z ≤ hi then Q.fitsL (s.drop (k + 1)) (l.drop (k + 1)) + 1 else 0 := by
  rw [hs, hl]; rfl
theorem fits_end {s : List (Int × Int)} {l : List Int} {k : Nat} (h : s.length ≤ k ∨ l.length ≤ k) : Q.fitsL (s.drop k) (l.drop k) = 0 := by
  rcases h with h | h
  · rw [List.drop_of_length_le h]; cases l.drop k <;> rfl
  · rw [List.drop_of_length_le h]; exact Q.fits_nil _

theorem drop_get {α : Type} {l : List α} {k : Nat} {z : α} (h : l[k]? = some z) : l.drop k = z :: l.drop (k + 1) := by
  obtain ⟨hk, e⟩ := List.getElem?_eq_some_iff.1 h
  rw [List.drop_eq_getElem_cons hk, e]

theorem Rb.one {w : World} {b off len cap : Nat} {l : List (Int × Int)} (h : Rb w b off len cap l) {k : Nat} (hk : k < len) {lo hi : Int} (hd : l.drop k = (lo, hi) :: l.drop (k + 1)) : Rs w (some ⟨b, off + k * 2, none⟩) 1 1 [(lo, hi)] := by
  obtain ⟨lo', hi', hd', -, f1, f2, c0, c1⟩ := h.at k hk
  rw [hd] at hd'
  injection hd' with e
  injection e with e1 e2
  subst e1; subst e2
  refine ⟨rfl, Nat.le_refl _, by decide, fun r hr => by simp at hr; subst hr; exact ⟨f1, f2⟩, fun i hi => ⟨_, _, rfl, ?_⟩⟩
  have : i = 0 := by omega
  subst this
  exact ⟨c0, c1⟩

set_option maxRecDepth 20000 in
set_option maxHeartbeats 1000000 in
theorem agreed_zero (sa : Option Addr) (sl sc : Nat) (ba : Option Addr) (bl bc : Nat) (w : World) (hsm : sc ≤ 9223372036854775807) (hsl : sl ≤ sc) (hbm : bc ≤ 9223372036854775807) (hbl : bl ≤ bc) (hn : ba = none → bc = 0) (h0 : sl = 0 ∨ bl = 0) :
    Calls Tryd.prog 33 #[.slice sa sl sc, .slice ba bl bc] w fun e w' => e = .returned (.int .i64 0) ∧ w' = w := by
  cases ba with
  | none =>
    obtain rfl := hn rfl
    obtain rfl : bl = 0 := by omega
    clear h0 hn
    have hm0 : min (sl : Int) 0 = 0 := by omega
    go_enter Tryd.func33, Tryd.ntmps33
    go_wp2_with fail
    go_loopw [18] (fun i wr => i = .int .i64 0 ∧ wr = w) (fun _ _ => 0)
    case atStart => exact ⟨rfl, rfl⟩
    case round =>
      obtain ⟨rfl, hw⟩ := hrel
      obtain rfl : wr = w := hw
      go_wp2_with fail
      go_ret
      exact ⟨rfl, rfl⟩
  | some ad =>
    clear hn
    rcases h0 with rfl | rfl
    · go_enter Tryd.func33, Tryd.ntmps33
      go_wp2_with fail
      go_loopw [18] (fun i wr => i = .int .i64 0 ∧ wr = w) (fun _ _ => 0)
      case atStart => exact ⟨rfl, rfl⟩
      case round =>
        obtain ⟨rfl, hw⟩ := hrel
        obtain rfl : wr = w := hw
        go_wp2_with fail
        go_ret
        exact ⟨rfl, rfl⟩
    · have hm0 : min (sl : Int) 0 = 0 := by omega
      go_enter Tryd.func33, Tryd.ntmps33
      go_wp2_with fail
      go_loopw [18] (fun i wr => i = .int .i64 0 ∧ wr = w) (fun _ _ => 0)
      case atStart => exact ⟨rfl, rfl⟩
      case round =>
        obtain ⟨rfl, hw⟩ := hrel
        obtain rfl : wr = w := hw
        go_wp2_with fail
        go_ret
        exact ⟨rfl, rfl⟩

set_option maxRecDepth 20000 in
set_option maxHeartbeats 1000000 in
theorem agreed_some (sb so sl sc bb bo bl bc : Nat) (s : List (Int × Int)) (l : List Int) (w : World) (hs : Rb w sb so sl sc s) (hl : Bb w bb bo bl bc l) (mn : Nat) (hmn : min (sl : Int) (bl : Int) = mn) (h1 : mn ≤ sl) (h2 : mn ≤ bl) (h3 : mn = sl ∨ mn = bl) :
    Calls Tryd.prog 33 #[.slice (some ⟨sb, so, none⟩) sl sc, .slice (some ⟨bb, bo, none⟩) bl bc] w fun e w' => e = .returned (.int .i64 (Q.fitsL s l)) ∧ Below w.heap.size w w' := by
  have e1 := hs.hlen
  have e2 := hs.hcap
  have e3 := hs.hmax
  have e4 := hl.hlen
  have e5 := hl.hcap
  have e6 := hl.hmax
  have p1 := hs.hpos
  have p2 := hl.hpos
  unfold maxLen at e3 e6
  have HS := hideR hs
  have HL := hideR hl
  have HC := hideR has_any
  obtain ⟨F, hF⟩ : ∃ F, Q.fitsL s l = F := ⟨_, rfl⟩
  rw [hF]
  have HF := hideR hF
  clear hs hl hF
  go_enter Tryd.func33, Tryd.ntmps33
  go_wp2_with fail
  go_loopw [18] (fun i wr => ∃ (k : Nat), k ≤ mn ∧ i = .int .i64 k ∧ Hid (Q.fitsL (s.drop k) (l.drop k) + k = F) ∧ Below w.heap.size w wr) (fun i _ => mn - (intOf i).toNat)
  case atStart => exact ⟨0, Nat.zero_le _, rfl, HF, Below.refl _ _⟩
  case round =>
    obtain ⟨k, hk, rfl, hf, hb⟩ := hrel
    by_cases hlt : k < mn
    · have hks : k < sl := by omega
      obtain ⟨lo, hi, hd, -, f1, f2, c0, c1⟩ := (unhideR HS).at k hks
      obtain ⟨z, ez, bz, cz⟩ := (unhideR HL).at k (by omega)
      have hdl := drop_get ez
      have R1 := hideR (((unhideR HS).one hks hd).later hb (Nat.le_refl _))
      have cz' : wr.cell? ⟨bb, bo + k, none⟩ = some (.int .u8 z) := by rw [hb.cell (p := ⟨bb, bo + k, none⟩) (block_lt' cz)]; exact cz
      have FS := hideR (fits_step hd hdl)
      obtain ⟨z0, z1⟩ := bz
      clear hd hdl ez c0 c1 cz f1 f2
      go_wp2_with fail
      refine (unhideR HC _ 1 1 [(lo, hi)] z _ (unhideR R1)).mono ?_
      rintro e w2 ⟨rfl, hb2⟩
      have B2 : Below w.heap.size w w2 := hb.trans (hb2.mono hb.size)
      clear hb2 R1 cz'
      by_cases hin : lo ≤ z ∧ z ≤ hi
      · have hh : G.hasB [(lo, hi)] z = true := by rw [G.hasB_one]; simp [hin.1, hin.2]
        have st : Hid (Q.fitsL (s.drop (k + 1)) (l.drop (k + 1)) + (k + 1) = F) := by
          show _ = _
          rw [← hf.out, unhideR FS, if_pos hin]; omega
        clear hf FS hin
        go_wp2_with fail
        go_roundw
        case rel => exact ⟨k + 1, by omega, by go_num, st, B2⟩
        case measure => simp [intOf]; omega
      · have hh : G.hasB [(lo, hi)] z = false := by rw [G.hasB_one, Bool.eq_false_iff]; simp only [ne_eq, Bool.and_eq_true, decide_eq_true_eq]; exact hin
        have st : Hid ((k : Int) = F) := by
          show _ = _
          have := hf.out
          rw [unhideR FS, if_neg hin] at this
          omega
        clear hf FS hin
        go_wp2_with fail
        go_ret
        exact ⟨ret_int st.out, B2⟩
    · obtain rfl : k = mn := by omega
      have st : Hid ((k : Int) = F) := by
        show _ = _
        have := hf.out
        rw [fits_end (by omega)] at this
        omega
      clear hf
      go_wp2_with fail
      go_ret
      exact ⟨ret_int st.out, hb⟩

theorem agreed_any (sa : Option Addr) (sl sc : Nat) (s : List (Int × Int)) (ba : Option Addr) (bl bc : Nat) (l : List Int) (w : World) (hs : Rs w sa sl sc s) (hl : Bs w ba bl bc l) (hn : ba = none → bc = 0) :
    Calls Tryd.prog 33 #[.slice sa sl sc, .slice ba bl bc] w fun e w' => e = .returned (.int .i64 (Q.fitsL s l)) ∧ Below w.heap.size w w' := by
  have e1 := hs.hlen
  have e2 := hs.hcap
  have e3 := hs.hmax
  have e4 := hl.hlen
  have e5 := hl.hcap
  have e6 := hl.hmax
  unfold maxLen at e3 e6
  by_cases h0 : sl = 0 ∨ bl = 0
  · have f0 : Q.fitsL s l = 0 := by
      have := Q.fits_le s l
      omega
    rw [f0]
    exact (agreed_zero sa sl sc ba bl bc w (by omega) e2 (by omega) e5 hn h0).mono fun e w' ⟨he, hw⟩ => ⟨he, by subst hw; exact Below.refl _ _⟩
  · obtain ⟨sb, so, rfl, hs'⟩ := hs.open (by omega)
    obtain ⟨bb, bo, rfl, hl'⟩ := hl.open (by omega)
    by_cases hle : sl ≤ bl
    · exact agreed_some sb so sl sc bb bo bl bc s l w hs' hl' sl (by omega) (Nat.le_refl _) hle (.inl rfl)
    · exact agreed_some sb so sl sc bb bo bl bc s l w hs' hl' bl (by omega) (by omega) (Nat.le_refl _) (.inr rfl)

/-! ### Match, Part -/
theorem match_at {S : List (List (Int × Int))} {k : Nat} {s : List (Int × Int)} {r : List Int} (h : S.drop k = s :: S.drop (k + 1)) : Q.matchL (S.drop k) r = if Q.fitsL s r = s.length then s.length else Q.matchL (S.drop (k + 1)) r := by rw [h]; rfl
theorem part_at {S : List (List (Int × Int))} {k : Nat} {s : List (Int × Int)} {r : List Int} (h : S.drop k = s :: S.drop (k + 1)) : Q.partL (S.drop k) r = max (Q.fitsL s r) (Q.partL (S.drop (k + 1)) r) := by rw [h]; rfl

set_option maxRecDepth 20000 in
set_option maxHeartbeats 1000000 in
theorem match_any (a : Option Addr) (len cap : Nat) (S : List (List (Int × Int))) (ba : Option Addr) (bl bc : Nat) (l : List Int) (at' : Int) (w : World) (hS : Sq w a len cap S) (hl : Bs w ba bl bc l) (hn : ba = none → bc = 0) :
    Calls Tryd.prog 15 #[.slice a len cap, .slice ba bl bc, .int .i64 at'] w fun e w' => e = .returned (.int .i64 (Q.matchL S (Q.rest l at'))) ∧ Below w.heap.size w w' := by
  have e1 := hS.hlen
  have e2 := hS.hcap
  have e3 := hS.hmax
  unfold maxLen at e3
  have CF := hideR (from_any ba bl bc l w hl hn at')
  have CA := hideR agreed_any
  have HS := hideR hS
  obtain ⟨M, hM⟩ : ∃ M, Q.matchL S (Q.rest l at') = M := ⟨_, rfl⟩
  rw [hM]
  have HM := hideR hM
  clear hM hS hl hn
  go_enter Tryd.func15, Tryd.ntmps15
  go_wp2_with fail
  refine (unhideR CF).mono ?_
  rintro e w1 ⟨ra, rl, rc, rfl, hr, hrn, hw1⟩
  obtain rfl : w1 = w := hw1
  have HR := hideR hr
  have HN := hideR hrn
  clear CF hr hrn
  generalize Q.rest l at' = r at *
  go_wp2_with fail
  go_loopw [15] (fun i wr => ∃ (k : Nat), k ≤ len ∧ i = .int .i64 k ∧ Hid (Q.matchL (S.drop k) r = M) ∧ Below w1.heap.size w1 wr) (fun i _ => len - (intOf i).toNat)
  case atStart => exact ⟨0, Nat.zero_le _, rfl, HM, Below.refl _ _⟩
  case round =>
    obtain ⟨k, hk, rfl, hf, hb⟩ := hrel
    by_cases hlt : k < len
    · obtain ⟨b, off, x, c, s, rfl, -, hd, -, hc, hrs⟩ := ((unhideR HS).later hb (Nat.le_refl _)).at k hlt
      have e5 := hrs.hmax
      have e6 := hrs.hcap
      unfold maxLen at e5
      have C2 := hideR (unhideR CA x s.length c s ra rl rc r wr hrs ((unhideR HR).later hb (Nat.le_refl _)) (unhideR HN))
      have MA := hideR (match_at (r := r) hd)
      have fl := (Q.fits_le s r).1
      clear hrs hd
      generalize Q.fitsL s r = F at C2 MA fl
      go_wp2_with fail
      refine (unhideR C2).mono ?_
      rintro e w2 ⟨rfl, hb2⟩
      have B2 : Below w1.heap.size w1 w2 := hb.trans (hb2.mono hb.size)
      clear hb2 C2 hc
      by_cases hin : F = s.length
      · subst hin
        have st : Hid ((s.length : Int) = M) := by
          show _ = _
          rw [← hf.out, unhideR MA, if_pos rfl]
        clear hf MA
        go_wp2_with fail
        go_ret
        exact ⟨ret_int st.out, B2⟩
      · have st : Hid (Q.matchL (S.drop (k + 1)) r = M) := by
          show _ = _
          rw [← hf.out, unhideR MA, if_neg hin]
        have hq : ((F : Int) == (s.length : Int)) = false := by simp; omega
        clear hf MA hin
        go_wp2_with fail
        go_roundw
        case rel => exact ⟨k + 1, by omega, by go_num, st, B2⟩
        case measure => simp [intOf]; omega
    · have st : Hid ((0 : Int) = M) := by
        show _ = _
        rw [← hf.out, List.drop_of_length_le (by omega)]; rfl
      clear hf
      go_wp2_with fail
      go_ret
      exact ⟨ret_int st.out, hb⟩

set_option maxRecDepth 20000 in
set_option maxHeartbeats 1000000 in
theorem part_any (a : Option Addr) (len cap : Nat) (S : List (List (Int × Int))) (ba : Option Addr) (bl bc : Nat) (l : List Int) (at' : Int) (w : World) (hS : Sq w a len cap S) (hl : Bs w ba bl bc l) (hn : ba = none → bc = 0) :
    Calls Tryd.prog 17 #[.slice a len cap, .slice ba bl bc, .int .i64 at'] w fun e w' => e = .returned (.int .i64 (Q.partL S (Q.rest l at'))) ∧ Below w.heap.size w w' := by
  have e1 := hS.hlen
  have e2 := hS.hcap
  have e3 := hS.hmax
  unfold maxLen at e3
  have CF := hideR (from_any ba bl bc l w hl hn at')
  have CA := hideR agreed_any
  have HS := hideR hS
  obtain ⟨M, hM⟩ : ∃ M, Q.partL S (Q.rest l at') = M := ⟨_, rfl⟩
  rw [hM]
  have HM : Hid (max 0 (Q.partL S (Q.rest l at')) = M) := by show _ = _; rw [hM]; omega
  clear hM hS hl hn
  go_enter Tryd.func17, Tryd.ntmps17
  go_wp2_with fail
  refine (unhideR CF).mono ?_
  rintro e w1 ⟨ra, rl, rc, rfl, hr, hrn, hw1⟩
  obtain rfl : w1 = w := hw1
  have HR := hideR hr
  have HN := hideR hrn
  clear CF hr hrn
  generalize Q.rest l at' = r at *
  go_wp2_with fail
  go_loopw [8, 16] (fun v i wr => ∃ (k z : Nat), k ≤ len ∧ i = .int .i64 k ∧ v = .int .i64 z ∧ z ≤ 9223372036854775807 ∧ Hid (max z (Q.partL (S.drop k) r) = M) ∧ Below w1.heap.size w1 wr) (fun _ i _ => len - (intOf i).toNat)
  case atStart => exact ⟨0, 0, Nat.zero_le _, rfl, rfl, by omega, HM, Below.refl _ _⟩
  case round =>
    obtain ⟨k, z, hk, rfl, rfl, hz, hf, hb⟩ := hrel
    by_cases hlt : k < len
    · obtain ⟨b, off, x, c, s, rfl, -, hd, -, hc, hrs⟩ := ((unhideR HS).later hb (Nat.le_refl _)).at k hlt
      have e5 := hrs.hmax
      have e6 := hrs.hcap
      unfold maxLen at e5
      have C2 := hideR (unhideR CA x s.length c s ra rl rc r wr hrs ((unhideR HR).later hb (Nat.le_refl _)) (unhideR HN))
      have MA := hideR (part_at (r := r) hd)
      have fl := (Q.fits_le s r).1
      clear hrs hd
      generalize Q.fitsL s r = F at C2 MA fl
      obtain ⟨z', hz'⟩ : ∃ z' : Nat, z' = max z F := ⟨_, rfl⟩
      have hmx : max (z : Int) (F : Int) = (z' : Int) := by omega
      have hz2 : z' ≤ 9223372036854775807 := by omega
      have st : Hid (max z' (Q.partL (S.drop (k + 1)) r) = M) := by
        show _ = _
        rw [← hf.out, unhideR MA]; omega
      clear hf MA hz'
      go_wp2_with fail
      refine (unhideR C2).mono ?_
      rintro e w2 ⟨rfl, hb2⟩
      have B2 : Below w1.heap.size w1 w2 := hb.trans (hb2.mono hb.size)
      clear hb2 C2 hc
      go_wp2_with fail
      go_roundw
      case rel => exact ⟨k + 1, z', by omega, by go_num, rfl, hz2, st, B2⟩
      case measure => simp [intOf]; omega
    · have st : Hid ((z : Int) = M) := by
        show _ = _
        rw [← hf.out, List.drop_of_length_le (by omega)]
        simp [Q.partL]
      clear hf
      go_wp2_with fail
      go_ret
      exact ⟨ret_int st.out, hb⟩

end Go.Proofs.YtejipaapbfjooaaDoor
