/- The contracts of the document's answers for layer 3: fits, Match, Part, Same; and of few. -/
import Derived.Test.YtejipaapbfjooaaDoorSqLBase
import Derived.Test.YtejipaapbfjooaaDoorRgSame
import Derived.Deep.QuietTactic
import Derived.BigQuiet
namespace Go.Proofs.YtejipaapbfjooaaDoor
open Go.RowKit
set_option linter.unusedVariables false
set_option linter.unusedSimpArgs false

theorem Rs.drew {w : World} {a : Option Addr} {len cap : Nat} {l : List (Int × Int)} (h : Rs w a len cap l) (d : Nat) : Rs (w.drewN d) a len cap l := h.later (draws_below' (B := w.heap.size)) (Nat.le_refl _)
theorem Bs.drew {w : World} {a : Option Addr} {len cap : Nat} {l : List Int} (h : Bs w a len cap l) (d : Nat) : Bs (w.drewN d) a len cap l := h.later (draws_below' (B := w.heap.size)) (Nat.le_refl _)
theorem Sq.drew {w : World} {a : Option Addr} {len cap : Nat} {S : List (List (Int × Int))} (h : Sq w a len cap S) (d : Nat) : Sq (w.drewN d) a len cap S := h.later (draws_below' (B := w.heap.size)) (Nat.le_refl _)

set_option maxRecDepth 20000 in
set_option maxHeartbeats 1000000 in
theorem few_any (a : Option Addr) (len cap : Nat) (S : List (List (Int × Int))) (w : World) (h : Sq w a len cap S) :
    Calls Tryd.prog 11 #[.slice a len cap] w fun e w' => ∃ b, e = .returned (.bool b) ∧ w' = w ∧ (b = true → S.length ≤ 40 ∧ ∀ s ∈ S, s.length ≤ 6) := by
  have e1 := h.hlen
  have e2 := h.hcap
  have e3 := h.hmax
  unfold maxLen at e3
  by_cases hl : 40 < len
  · clear h
    go_enter Tryd.func11, Tryd.ntmps11
    go_wp2_with fail
    go_ret
    exact ⟨false, rfl, rfl, fun e => by cases e⟩
  · have HS := hideR h
    clear h
    go_enter Tryd.func11, Tryd.ntmps11
    go_wp2_with fail
    go_loopw [3] (fun i wr => ∃ (k : Nat), k ≤ len ∧ i = .int .i64 k ∧ Hid (∀ s ∈ S.take k, s.length ≤ 6) ∧ wr = w) (fun i _ => len - (intOf i).toNat)
    case atStart => exact ⟨0, Nat.zero_le _, rfl, fun s hs => by simp at hs, rfl⟩
    case round =>
      obtain ⟨k, hk, rfl, hf, hw⟩ := hrel
      obtain rfl : wr = w := hw
      by_cases hlt : k < len
      · obtain ⟨b, off, x, c, s, rfl, -, -, htk, hc, hrs⟩ := (unhideR HS).at k hlt
        have e5 := hrs.hmax
        have e6 := hrs.hcap
        unfold maxLen at e5
        clear hrs
        by_cases h6 : 6 < s.length
        · clear hf htk
          go_wp2_with fail
          go_ret
          exact ⟨false, rfl, rfl, fun e => by cases e⟩
        · have st : Hid (∀ t ∈ S.take (k + 1), t.length ≤ 6) := by
            intro t ht
            rw [htk] at ht
            rcases List.mem_append.1 ht with ht | ht
            · exact hf.out t ht
            · simp at ht; subst ht; omega
          clear hf htk
          go_wp2_with fail
          go_roundw
          case rel => exact ⟨k + 1, by omega, by go_num, st, by trivial⟩
          case measure => simp [intOf]; omega
      · have st : Hid (∀ t ∈ S, t.length ≤ 6) := by
          have := hf.out
          rw [List.take_of_length_le (by omega)] at this
          exact this
        clear hf
        go_wp2_with fail
        go_ret
        exact ⟨true, rfl, rfl, fun _ => ⟨by omega, st.out⟩⟩

set_option maxRecDepth 20000 in
set_option maxHeartbeats 2000000 in
theorem fits_any (sa : Option Addr) (sl sc : Nat) (s : List (Int × Int)) (ba : Option Addr) (bl bc : Nat) (l : List Int) (n : Nat) (w : World) (hs : Rs w sa sl sc s) (hl : Bs w ba bl bc l) (hsl : sl ≤ 1000000) (hbl : bl ≤ 1000000) (hn : n ≤ bl) :
    Calls Tryd.prog 34 #[.slice sa sl sc, .slice ba bl bc, .int .i64 n] w fun e w' => e = .returned (.int .i64 (Q.fitsL s (l.drop n))) ∧ ∃ d, w' = w.drewN d := by
  have e1 := hs.hlen
  have e2 := hs.hcap
  have e3 := hs.hmax
  have e4 := hl.hlen
  have e5 := hl.hcap
  have e6 := hl.hmax
  unfold maxLen at e3 e6
  have HS := hideR hs
  have HL := hideR hl
  obtain ⟨F, hF⟩ : ∃ F, Q.fitsL s (l.drop n) = F := ⟨_, rfl⟩
  rw [hF]
  have HF := hideR hF
  clear hs hl hF
  go_enter Tryd.func34, Tryd.ntmps34
  go_wp2_with fail
  go_loopw [7] (fun i wr => ∃ (k : Nat), k ≤ sl ∧ i = .int .i64 k ∧ Hid (Q.fitsL (s.drop k) ((l.drop n).drop k) + k = F) ∧ Hid (∃ d, wr = w.drewN d)) (fun i _ => sl - (intOf i).toNat)
  case atStart => exact ⟨0, Nat.zero_le _, rfl, HF, ⟨0, rfl⟩⟩
  case round =>
    obtain ⟨k, hk, rfl, hf, hw⟩ := hrel
    obtain ⟨d0, hw⟩ := hw
    by_cases hlt : k < sl
    · obtain ⟨sb, so, rfl, hrb⟩ := ((unhideR HS).drew d0).open (by omega)
      obtain ⟨lo, hi, hd, -, f1, f2, c0, c1⟩ := hrb.at k hlt
      rw [← hw] at c0 c1
      have hw' := hideR hw
      clear hw hrb f1 f2
      obtain ⟨m, hm⟩ : ∃ m, m = n + k := ⟨_, rfl⟩
      have hmi : (n : Int) + (k : Int) = (m : Int) := by omega
      have hmb : m ≤ 2000000 := by omega
      have wr1 := wrapI (m : Int) (by omega)
      by_cases hin : m < bl
      · obtain ⟨bb, bo, rfl, hbb⟩ := ((unhideR HL).drew d0).open (by omega)
        obtain ⟨z, ez, bz, cz⟩ := hbb.at m hin
        rw [← unhideR hw'] at cz
        obtain ⟨z0, z1⟩ := bz
        have hdl : (l.drop n).drop k = z :: (l.drop n).drop (k + 1) := drop_get (by rw [List.getElem?_drop, ← hm]; exact ez)
        have FS := hideR (fits_step hd hdl)
        have c0' : ∀ d, (wr.drewN d).cell? ⟨sb, so + k * 2, none⟩ = some (.int .i64 lo) := fun d => by simpa using c0
        have c1' : ∀ d, (wr.drewN d).cell? ⟨sb, so + k * 2 + 1, none⟩ = some (.int .i64 hi) := fun d => by simpa using c1
        have cz' : ∀ d, (wr.drewN d).cell? ⟨bb, bo + m, none⟩ = some (.int .u8 z) := fun d => by simpa using cz
        have g1 : decide ((bl : Int) ≤ (m : Int)) = false := by simp; omega
        have g1' : decide (bl ≤ m) = false := by simp; omega
        have wr2 := wrapI z (by omega)
        have i1 : (m : Int) < (bl : Int) := by omega
        have i2 : (0 : Int) ≤ (m : Int) := by omega
        have i3 : (k : Int) < (sl : Int) := by omega
        clear hd hdl ez hbb hm
        by_cases x1 : z < lo
        · have st : Hid ((k : Int) = F) := by
            show _ = _
            have := hf.out
            rw [unhideR FS, if_neg (by omega)] at this
            omega
          clear hf FS
          go_wp2_with fail
          go_quiet (fail)
          go_wp2_with fail
          go_ret
          exact ⟨ret_int st.out, d0 + nq, by rw [unhideR hw', World.drewN_drewN]⟩
        · have g2 : decide (z < lo) = false := by simp; omega
          by_cases x2 : hi < z
          · have st : Hid ((k : Int) = F) := by
              show _ = _
              have := hf.out
              rw [unhideR FS, if_neg (by omega)] at this
              omega
            clear hf FS
            go_wp2_with fail
            go_quiet (fail)
            go_wp2_with fail
            go_ret
            exact ⟨ret_int st.out, d0 + nq, by rw [unhideR hw', World.drewN_drewN]⟩
          · have g3 : decide (hi < z) = false := by simp; omega
            have st : Hid (Q.fitsL (s.drop (k + 1)) ((l.drop n).drop (k + 1)) + (k + 1) = F) := by
              show _ = _
              rw [← hf.out, unhideR FS, if_pos (by omega)]; omega
            clear hf FS
            go_wp2_with fail
            go_quiet (fail)
            go_wp2_with fail
            go_roundw
            case rel => exact ⟨k + 1, by omega, by go_num, st, ⟨d0 + nq, by rw [unhideR hw', World.drewN_drewN]⟩⟩
            case measure => simp [intOf]; omega
      · have st : Hid ((k : Int) = F) := by
          show _ = _
          have := hf.out
          rw [fits_end (by rw [List.length_drop]; omega)] at this
          omega
        have g1 : decide ((bl : Int) ≤ (m : Int)) = true := by simp; omega
        have i1 : (bl : Int) ≤ (m : Int) := by omega
        clear hf hd hm
        go_wp2_with fail
        go_quiet (fail)
        go_wp2_with fail
        go_ret
        exact ⟨ret_int st.out, d0 + nq, by rw [unhideR hw', World.drewN_drewN]⟩
    · obtain rfl : k = sl := by omega
      have st : Hid ((k : Int) = F) := by
        show _ = _
        have := hf.out
        rw [fits_end (by omega)] at this
        omega
      clear hf
      go_wp2_with fail
      go_ret
      exact ⟨ret_int st.out, d0, by first | exact hw | rfl⟩

theorem match_nil (S : List (List (Int × Int))) : Q.matchL S [] = 0 := by
  rcases Q.match_cases S [] with ⟨s, _, h1, h2⟩ | ⟨_, h2⟩
  · rw [h2]; have := (Q.fits_le s []).2; simp at this; omega
  · exact h2
theorem part_nil (S : List (List (Int × Int))) : Q.partL S [] = 0 := by
  have := Q.part_le S []
  simpa using this

set_option maxRecDepth 20000 in
set_option maxHeartbeats 2000000 in
theorem refMatch_in (a : Option Addr) (len cap : Nat) (S : List (List (Int × Int))) (ba : Option Addr) (bl bc : Nat) (l : List Int) (n : Nat) (w : World) (hS : Sq w a len cap S) (hl : Bs w ba bl bc l) (h6 : ∀ s ∈ S, s.length ≤ 6) (hbl : bl ≤ 1000000) (hn : n ≤ bl) :
    Calls Tryd.prog 16 #[.slice a len cap, .slice ba bl bc, .int .i64 n] w fun e w' => e = .returned (.int .i64 (Q.matchL S (l.drop n))) ∧ ∃ d, w' = w.drewN d := by
  have e1 := hS.hlen
  have e2 := hS.hcap
  have e3 := hS.hmax
  have e5 := hl.hcap
  have e6 := hl.hmax
  unfold maxLen at e3 e6
  have CA := hideR fits_any
  have HS := hideR hS
  have HL := hideR hl
  have H6 := hideR h6
  generalize hr : l.drop n = r at *
  obtain ⟨M, hM⟩ : ∃ M, Q.matchL S r = M := ⟨_, rfl⟩
  rw [hM]
  have HM := hideR hM
  have HR := hideR hr
  have n0 : ¬ ((n : Int) < 0) := by omega
  have n1 : ¬ ((bl : Int) < (n : Int)) := by omega
  clear hM hS hl h6 hr
  go_enter Tryd.func16, Tryd.ntmps16
  go_wp2_with fail
  go_loopw [7] (fun i wr => ∃ (k : Nat), k ≤ len ∧ i = .int .i64 k ∧ Hid (Q.matchL (S.drop k) r = M) ∧ Hid (∃ d, wr = w.drewN d)) (fun i _ => len - (intOf i).toNat)
  case atStart => exact ⟨0, Nat.zero_le _, rfl, HM, ⟨0, rfl⟩⟩
  case round =>
    obtain ⟨k, hk, rfl, hf, hw⟩ := hrel
    obtain ⟨d0, hw⟩ := hw
    by_cases hlt : k < len
    · obtain ⟨b, off, x, c, s, rfl, es, hd, -, hc, hrs⟩ := ((unhideR HS).drew d0).at k hlt
      rw [← hw] at hc hrs
      have hbs := (unhideR HL).drew d0
      rw [← hw] at hbs
      have hw' := hideR hw
      have e7 := hrs.hmax
      have e8 := hrs.hcap
      unfold maxLen at e7
      have s6 := (unhideR H6) s (List.mem_of_getElem? es)
      have C2 := hideR (fun d => unhideR CA x s.length c s ba bl bc l n (wr.drewN d) (hrs.drew d) (hbs.drew d) (by omega) hbl hn)
      rw [unhideR HR] at C2
      have MA := hideR (match_at (r := r) hd)
      have fl := (Q.fits_le s r).1
      have cc : ∀ d, (wr.drewN d).cell? ⟨b, off + k, none⟩ = some (.slice x s.length c) := fun d => by simpa using hc
      have i3 : (k : Int) < (len : Int) := by omega
      clear hrs hd hw es hbs
      generalize Q.fitsL s r = F at C2 MA fl
      by_cases hin : F = s.length
      · subst hin
        have st : Hid ((s.length : Int) = M) := by
          show _ = _
          rw [← hf.out, unhideR MA, if_pos rfl]
        clear hf MA
        go_wp2_with fail
        go_quiet (first | (go_at_call 34; exact Calls.quiet_of (unhideR C2 _)))
        have cq := cc nq
        go_wp2_with fail
        go_ret
        exact ⟨ret_int st.out, d0 + nq, by rw [unhideR hw', World.drewN_drewN]⟩
      · have st : Hid (Q.matchL (S.drop (k + 1)) r = M) := by
          show _ = _
          rw [← hf.out, unhideR MA, if_neg hin]
        have hq : ((F : Int) == (s.length : Int)) = false := by simp; omega
        clear hf MA hin
        go_wp2_with fail
        go_quiet (first | (go_at_call 34; exact Calls.quiet_of (unhideR C2 _)))
        go_wp2_with fail
        go_roundw
        case rel => exact ⟨k + 1, by omega, by go_num, st, ⟨d0 + nq, by rw [unhideR hw', World.drewN_drewN]⟩⟩
        case measure => simp [intOf]; omega
    · have st : Hid ((0 : Int) = M) := by
        show _ = _
        rw [← hf.out, List.drop_of_length_le (by omega)]; rfl
      clear hf
      go_wp2_with fail
      go_ret
      exact ⟨ret_int st.out, d0, by first | exact hw | rfl⟩

set_option maxRecDepth 20000 in
set_option maxHeartbeats 2000000 in
theorem refMatch_out (a : Option Addr) (len cap : Nat) (ba : Option Addr) (bl bc : Nat) (at' : Int) (w : World) (h : at' < 0 ∨ (bl : Int) < at') :
    Calls Tryd.prog 16 #[.slice a len cap, .slice ba bl bc, .int .i64 at'] w fun e w' => e = .returned (.int .i64 0) ∧ ∃ d, w' = w.drewN d := by
  by_cases c : at' < 0
  · clear h
    go_enter Tryd.func16, Tryd.ntmps16
    go_wp2_with fail
    go_ret
    exact ⟨rfl, 0, rfl⟩
  · have c2 : (bl : Int) < at' := by omega
    clear h
    go_enter Tryd.func16, Tryd.ntmps16
    go_wp2_with fail
    go_ret
    exact ⟨rfl, 0, rfl⟩
theorem refMatch_any (a : Option Addr) (len cap : Nat) (S : List (List (Int × Int))) (ba : Option Addr) (bl bc : Nat) (l : List Int) (at' : Int) (w : World) (hS : Sq w a len cap S) (hl : Bs w ba bl bc l) (h6 : ∀ s ∈ S, s.length ≤ 6) (hbl : bl ≤ 1000000) :
    Calls Tryd.prog 16 #[.slice a len cap, .slice ba bl bc, .int .i64 at'] w fun e w' => e = .returned (.int .i64 (Q.matchL S (Q.rest l at'))) ∧ Below w.heap.size w w' := by
  have e := hl.hlen
  by_cases h : at' < 0 ∨ (bl : Int) < at'
  · rw [rest_out (by omega), match_nil]
    exact (refMatch_out a len cap ba bl bc at' w h).mono fun e w' ⟨he, d, hw⟩ => ⟨he, by rw [hw]; exact draws_below'⟩
  · obtain ⟨n, rfl⟩ : ∃ n : Nat, at' = n := ⟨at'.toNat, by omega⟩
    rw [rest_in (by omega)]
    exact (refMatch_in a len cap S ba bl bc l n w hS hl h6 hbl (by omega)).mono fun e w' ⟨he, d, hw⟩ => ⟨he, by rw [hw]; exact draws_below'⟩

set_option maxRecDepth 20000 in
set_option maxHeartbeats 2000000 in
theorem refPart_in (a : Option Addr) (len cap : Nat) (S : List (List (Int × Int))) (ba : Option Addr) (bl bc : Nat) (l : List Int) (n : Nat) (w : World) (hS : Sq w a len cap S) (hl : Bs w ba bl bc l) (h6 : ∀ s ∈ S, s.length ≤ 6) (hbl : bl ≤ 1000000) (hn : n ≤ bl) :
    Calls Tryd.prog 18 #[.slice a len cap, .slice ba bl bc, .int .i64 n] w fun e w' => e = .returned (.int .i64 (Q.partL S (l.drop n))) ∧ ∃ d, w' = w.drewN d := by
  have e1 := hS.hlen
  have e2 := hS.hcap
  have e3 := hS.hmax
  have e5 := hl.hcap
  have e6 := hl.hmax
  unfold maxLen at e3 e6
  have CA := hideR fits_any
  have HS := hideR hS
  have HL := hideR hl
  have H6 := hideR h6
  generalize hr : l.drop n = r at *
  obtain ⟨M, hM⟩ : ∃ M, Q.partL S r = M := ⟨_, rfl⟩
  rw [hM]
  have HM : Hid (max 0 (Q.partL S r) = M) := by show _ = _; rw [hM]; omega
  have HR := hideR hr
  have n0 : ¬ ((n : Int) < 0) := by omega
  have n1 : ¬ ((bl : Int) < (n : Int)) := by omega
  clear hM hS hl h6 hr
  go_enter Tryd.func18, Tryd.ntmps18
  go_wp2_with fail
  go_loopw [7, 8] (fun v i wr => ∃ (k z : Nat), k ≤ len ∧ i = .int .i64 k ∧ v = .int .i64 z ∧ Hid (max z (Q.partL (S.drop k) r) = M) ∧ Hid (∃ d, wr = w.drewN d)) (fun _ i _ => len - (intOf i).toNat)
  case atStart => exact ⟨0, 0, Nat.zero_le _, rfl, rfl, HM, ⟨0, rfl⟩⟩
  case round =>
    obtain ⟨k, z, hk, rfl, rfl, hf, hw⟩ := hrel
    obtain ⟨d0, hw⟩ := hw
    by_cases hlt : k < len
    · obtain ⟨b, off, x, c, s, rfl, es, hd, -, hc, hrs⟩ := ((unhideR HS).drew d0).at k hlt
      rw [← hw] at hc hrs
      have hbs := (unhideR HL).drew d0
      rw [← hw] at hbs
      have hw' := hideR hw
      have e7 := hrs.hmax
      have e8 := hrs.hcap
      unfold maxLen at e7
      have s6 := (unhideR H6) s (List.mem_of_getElem? es)
      have C2 := hideR (unhideR CA x s.length c s ba bl bc l n wr hrs hbs (by omega) hbl hn)
      rw [unhideR HR] at C2
      have MA := hideR (part_at (r := r) hd)
      have fl := (Q.fits_le s r).1
      clear hrs hd hw es hbs
      generalize Q.fitsL s r = F at C2 MA fl
      go_wp2_with fail
      refine (unhideR C2).mono ?_
      rintro e w2 ⟨rfl, d1, hw2⟩
      have hw3 : Hid (∃ d, w2 = w.drewN d) := ⟨d0 + d1, by rw [hw2, unhideR hw', World.drewN_drewN]⟩
      clear hw2 hw'
      by_cases hin : z < F
      · have st : Hid (max F (Q.partL (S.drop (k + 1)) r) = M) := by
          show _ = _
          rw [← hf.out, unhideR MA]; omega
        clear hf MA
        go_wp2_with fail
        go_roundw
        case rel => exact ⟨k + 1, F, by omega, by go_num, rfl, st, hw3⟩
        case measure => simp [intOf]; omega
      · have st : Hid (max z (Q.partL (S.drop (k + 1)) r) = M) := by
          show _ = _
          rw [← hf.out, unhideR MA]; omega
        have hq : ¬ ((z : Int) < (F : Int)) := by omega
        clear hf MA
        go_wp2_with fail
        go_roundw
        case rel => exact ⟨k + 1, z, by omega, by go_num, rfl, st, hw3⟩
        case measure => simp [intOf]; omega
    · have st : Hid ((z : Int) = M) := by
        show _ = _
        rw [← hf.out, List.drop_of_length_le (by omega)]
        simp [Q.partL]
      clear hf
      go_wp2_with fail
      go_ret
      exact ⟨ret_int st.out, d0, by first | exact hw | rfl⟩
set_option maxRecDepth 20000 in
set_option maxHeartbeats 2000000 in
theorem refPart_out (a : Option Addr) (len cap : Nat) (ba : Option Addr) (bl bc : Nat) (at' : Int) (w : World) (h : at' < 0 ∨ (bl : Int) < at') :
    Calls Tryd.prog 18 #[.slice a len cap, .slice ba bl bc, .int .i64 at'] w fun e w' => e = .returned (.int .i64 0) ∧ ∃ d, w' = w.drewN d := by
  by_cases c : at' < 0
  · clear h
    go_enter Tryd.func18, Tryd.ntmps18
    go_wp2_with fail
    go_ret
    exact ⟨rfl, 0, rfl⟩
  · have c2 : (bl : Int) < at' := by omega
    clear h
    go_enter Tryd.func18, Tryd.ntmps18
    go_wp2_with fail
    go_ret
    exact ⟨rfl, 0, rfl⟩
theorem refPart_any (a : Option Addr) (len cap : Nat) (S : List (List (Int × Int))) (ba : Option Addr) (bl bc : Nat) (l : List Int) (at' : Int) (w : World) (hS : Sq w a len cap S) (hl : Bs w ba bl bc l) (h6 : ∀ s ∈ S, s.length ≤ 6) (hbl : bl ≤ 1000000) :
    Calls Tryd.prog 18 #[.slice a len cap, .slice ba bl bc, .int .i64 at'] w fun e w' => e = .returned (.int .i64 (Q.partL S (Q.rest l at'))) ∧ Below w.heap.size w w' := by
  have e := hl.hlen
  by_cases h : at' < 0 ∨ (bl : Int) < at'
  · rw [rest_out (by omega), part_nil]
    exact (refPart_out a len cap ba bl bc at' w h).mono fun e w' ⟨he, d, hw⟩ => ⟨he, by rw [hw]; exact draws_below'⟩
  · obtain ⟨n, rfl⟩ : ∃ n : Nat, at' = n := ⟨at'.toNat, by omega⟩
    rw [rest_in (by omega)]
    exact (refPart_in a len cap S ba bl bc l n w hS hl h6 hbl (by omega)).mono fun e w' ⟨he, d, hw⟩ => ⟨he, by rw [hw]; exact draws_below'⟩

set_option maxRecDepth 20000 in
set_option maxHeartbeats 2000000 in
theorem refSame3_any (a : Option Addr) (len ca : Nat) (b : Option Addr) (cb : Nat) (S : List (List (Int × Int))) (w : World) (hA : Sq w a len ca S) (hB : Sq w b len cb S) :
    Calls Tryd.prog 12 #[.slice a len ca, .slice b len cb] w fun e w' => e = .returned (.bool true) ∧ Below w.heap.size w w' := by
  have e1 := hA.hlen
  have e2 := hA.hcap
  have e3 := hA.hmax
  have e5 := hB.hcap
  have e6 := hB.hmax
  unfold maxLen at e3 e6
  have CA := hideR refSame_drew
  have HA := hideR hA
  have HB := hideR hB
  have g0 : ((len : Int) != (len : Int)) = false := by simp
  clear hA hB
  go_enter Tryd.func12, Tryd.ntmps12
  go_wp2_with fail
  go_loopw [5] (fun i wr => ∃ (k : Nat), k ≤ len ∧ i = .int .i64 k ∧ Hid (∃ d, wr = w.drewN d)) (fun i _ => len - (intOf i).toNat)
  case atStart => exact ⟨0, Nat.zero_le _, rfl, ⟨0, rfl⟩⟩
  case round =>
    obtain ⟨k, hk, rfl, hw⟩ := hrel
    obtain ⟨d0, hw⟩ := hw
    by_cases hlt : k < len
    · obtain ⟨b1, off1, x, c, s, rfl, es, -, -, hc, hrs⟩ := ((unhideR HA).drew d0).at k hlt
      obtain ⟨b2, off2, x2, c2, s2, rfl, es2, -, -, hc2, hrs2⟩ := ((unhideR HB).drew d0).at k hlt
      rw [es] at es2
      injection es2 with es2
      subst es2
      rw [← hw] at hc hrs hc2 hrs2
      have hw' := hideR hw
      have C2 := hideR (fun d => unhideR CA x s.length c s x2 s.length c2 s (wr.drewN d) (hrs.drew d) (hrs2.drew d))
      rw [same_yes rfl] at C2
      have cc : ∀ d, (wr.drewN d).cell? ⟨b1, off1 + k, none⟩ = some (.slice x s.length c) := fun d => by simpa using hc
      have cc2 : ∀ d, (wr.drewN d).cell? ⟨b2, off2 + k, none⟩ = some (.slice x2 s.length c2) := fun d => by simpa using hc2
      have i3 : (k : Int) < (len : Int) := by omega
      clear hrs hrs2 hw es
      go_wp2_with fail
      go_quiet (first | (go_at_call 25; exact Calls.quiet_of (unhideR C2 _)))
      go_wp2_with fail
      go_roundw
      case rel => exact ⟨k + 1, by omega, by go_num, ⟨d0 + nq, by rw [unhideR hw', World.drewN_drewN]⟩⟩
      case measure => simp [intOf]; omega
    · have bw : Below w.heap.size w wr := by rw [hw]; exact draws_below'
      go_wp2_with fail
      go_ret
      exact ⟨rfl, draws_below'⟩

end Go.Proofs.YtejipaapbfjooaaDoor
