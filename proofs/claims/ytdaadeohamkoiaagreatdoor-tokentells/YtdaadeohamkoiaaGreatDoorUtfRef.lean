/- Contracts of the document's own answers of layer 1: exegeteref01.May, Put, Next, Units. -/
import Derived.Test.YtdaadeohamkoiaaGreatDoorUtfBack
namespace Go.Proofs.YtdaadeohamkoiaaGreatDoor
open Go.RowKit
set_option linter.unusedVariables false
set_option linter.unusedSimpArgs false

set_option maxHeartbeats 400000 in
theorem refMay_any (r : Int) (w : World) :
    Calls Tryz.prog 29 #[.int .i64 r] w fun e w' => e = .returned (.bool (U.mayB r)) ∧ w' = w := by
  have key : ∀ b : Bool, U.mayB r = b → Calls Tryz.prog 29 #[.int .i64 r] w fun e w' => e = .returned (.bool b) ∧ w' = w := by
    intro b hb
    by_cases h1 : 0 ≤ r
    · by_cases h2 : r ≤ 1114111
      · by_cases h3 : r < 55296
        · have : b = true := by rw [← hb, U.may_iff]; omega
          subst this; clear hb
          go_enter Tryz.func29, Tryz.ntmps29
          go_wp2
          go_ret
          exact ⟨rfl, rfl⟩
        · by_cases h4 : 57343 < r
          · have : b = true := by rw [← hb, U.may_iff]; omega
            subst this; clear hb
            go_enter Tryz.func29, Tryz.ntmps29
            go_wp2
            go_ret
            exact ⟨rfl, rfl⟩
          · have : b = false := by rw [← hb]; cases h : U.mayB r; rfl; rw [U.may_iff] at h; omega
            subst this; clear hb
            go_enter Tryz.func29, Tryz.ntmps29
            go_wp2
            go_ret
            exact ⟨rfl, rfl⟩
      · have : b = false := by rw [← hb]; cases h : U.mayB r; rfl; rw [U.may_iff] at h; omega
        subst this; clear hb
        go_enter Tryz.func29, Tryz.ntmps29
        go_wp2
        go_ret
        exact ⟨rfl, rfl⟩
    · have : b = false := by rw [← hb]; cases h : U.mayB r; rfl; rw [U.may_iff] at h; omega
      subst this; clear hb
      go_enter Tryz.func29, Tryz.ntmps29
      go_wp2
      go_ret
      exact ⟨rfl, rfl⟩
  exact key _ rfl

set_option maxHeartbeats 400000 in
theorem refPut_no (r : Int) (w : World) (h : U.mayB r = false) :
    Calls Tryz.prog 192 #[.int .i64 r] w fun e w' => e = .returned (.tuple #[.slice none 0 0, .bool false]) ∧ w' = w := by
  go_enter Tryz.func192, Tryz.ntmps192
  go_wp2_with (go_at_call 29; refine (refMay_any _ _).mono ?_; rintro e w' ⟨rfl, rfl⟩)
  go_ret2
  exact ⟨rfl, rfl⟩

set_option maxHeartbeats 400000 in
theorem refPut_yes (r : Int) (w : World) (h : U.mayB r = true) :
    Calls Tryz.prog 192 #[.int .i64 r] w fun e w' => e = .returned (.tuple #[putVal r w.heap.size, .bool true]) ∧ w' = w.alloc (putObj r) := by
  have h' := (U.may_iff r).1 h
  obtain ⟨b0, b1, _⟩ := h'
  by_cases h1 : r < 128
  · have e1 : putVal r w.heap.size = .slice (some ⟨w.heap.size, 0, none⟩) 1 1 := by simp [putVal, U.putL, h1]
    have e2 : putObj r = .cells #[.int .u8 r] 5 := by simp [putObj, U.putL, h1]
    rw [e1, e2]; clear e1 e2
    go_enter Tryz.func192, Tryz.ntmps192
    go_wp2_with (go_at_call 29; refine (refMay_any _ _).mono ?_; rintro e w' ⟨rfl, rfl⟩)
    go_ret2
    exact ⟨rfl, rfl⟩
  by_cases h2 : r < 2048
  · have e1 : putVal r w.heap.size = .slice (some ⟨w.heap.size, 0, none⟩) 2 2 := by simp [putVal, U.putL, h1, h2]
    have e2 : putObj r = .cells #[.int .u8 (192 + r / 64), .int .u8 (128 + r % 64)] 5 := by simp [putObj, U.putL, h1, h2]
    rw [e1, e2]; clear e1 e2
    go_enter Tryz.func192, Tryz.ntmps192
    go_wp2_with (go_at_call 29; refine (refMay_any _ _).mono ?_; rintro e w' ⟨rfl, rfl⟩)
    go_ret2
    exact ⟨rfl, rfl⟩
  by_cases h3 : r < 65536
  · have e1 : putVal r w.heap.size = .slice (some ⟨w.heap.size, 0, none⟩) 3 3 := by simp [putVal, U.putL, h1, h2, h3]
    have e2 : putObj r = .cells #[.int .u8 (224 + r / 4096), .int .u8 (128 + r / 64 % 64), .int .u8 (128 + r % 64)] 5 := by simp [putObj, U.putL, h1, h2, h3]
    rw [e1, e2]; clear e1 e2
    go_enter Tryz.func192, Tryz.ntmps192
    go_wp2_with (go_at_call 29; refine (refMay_any _ _).mono ?_; rintro e w' ⟨rfl, rfl⟩)
    go_ret2
    exact ⟨rfl, rfl⟩
  · have e1 : putVal r w.heap.size = .slice (some ⟨w.heap.size, 0, none⟩) 4 4 := by simp [putVal, U.putL, h1, h2, h3]
    have e2 : putObj r = .cells #[.int .u8 (240 + r / 262144), .int .u8 (128 + r / 4096 % 64), .int .u8 (128 + r / 64 % 64), .int .u8 (128 + r % 64)] 5 := by simp [putObj, U.putL, h1, h2, h3]
    rw [e1, e2]; clear e1 e2
    go_enter Tryz.func192, Tryz.ntmps192
    go_wp2_with (go_at_call 29; refine (refMay_any _ _).mono ?_; rintro e w' ⟨rfl, rfl⟩)
    go_ret2
    exact ⟨rfl, rfl⟩

/-- what the first bytes would be, read by definition -/
def candI (low : Int) (l : List Int) : Nat → Int
  | 0 => l.getD 0 0 - low
  | i + 1 => 64 * candI low l i + l.getD (i + 1) 0 - 128
def lowOf (n : Nat) : Int := [0, 0, 192, 224, 240].getD n 0
def cand (l : List Int) (n : Nat) : Int := candI (lowOf n) l (n - 1)
theorem candI_bd (low : Int) (l : List Int) (hb : U.isBytes l) (h0 : 0 ≤ low) (h1 : low ≤ 240) (i : Nat) (hi : i ≤ 3) : -70000000 ≤ candI low l i ∧ candI low l i ≤ 70000000 := by
  have b0 := U.isBytes_getD hb 0
  have b1 := U.isBytes_getD hb 1
  have b2 := U.isBytes_getD hb 2
  have b3 := U.isBytes_getD hb 3
  match i, hi with
  | 0, _ => simp only [candI]; omega
  | 1, _ => simp only [candI, Nat.zero_add, Nat.reduceAdd]; omega
  | 2, _ => simp only [candI, Nat.zero_add, Nat.reduceAdd]; omega
  | 3, _ => simp only [candI, Nat.zero_add, Nat.reduceAdd]; omega
theorem lowOf_bd (n : Nat) : 0 ≤ lowOf n ∧ lowOf n ≤ 240 := by
  unfold lowOf
  match n with
  | 0 => simp
  | 1 => simp
  | 2 => simp
  | 3 => simp
  | 4 => simp
  | n + 5 => simp
/-- n bytes are a scalar's, by definition -/
def Hit (l : List Int) (n : Nat) : Prop := U.mayB (cand l n) = true ∧ U.putL (cand l n) = l.take n
theorem Hit.next {l : List Int} {n : Nat} (h : Hit l n) (hn : n ≤ l.length) : U.nextL l = (cand l n, n) := by
  have := U.next_put h.1 (l.drop n)
  rw [h.2, List.take_append_drop, List.length_take, Nat.min_eq_left hn] at this
  exact this
theorem cand_put {r : Int} (h : U.mayB r = true) (s : List Int) : cand (U.putL r ++ s) (U.putL r).length = r := by
  rw [U.may_iff] at h
  obtain ⟨b0, b1, _⟩ := h
  by_cases h1 : r < 128
  · have e : U.putL r = [r] := by simp [U.putL, h1]
    rw [e]; simp [cand, candI, lowOf]
  by_cases h2 : r < 2048
  · have e : U.putL r = [192 + r / 64, 128 + r % 64] := by simp [U.putL, h1, h2]
    rw [e]
    show 64 * (192 + r / 64 - 192) + (128 + r % 64) - 128 = r
    omega
  by_cases h3 : r < 65536
  · have e : U.putL r = [224 + r / 4096, 128 + r / 64 % 64, 128 + r % 64] := by simp [U.putL, h1, h2, h3]
    rw [e]
    show 64 * (64 * (224 + r / 4096 - 224) + (128 + r / 64 % 64) - 128) + (128 + r % 64) - 128 = r
    omega
  · have e : U.putL r = [240 + r / 262144, 128 + r / 4096 % 64, 128 + r / 64 % 64, 128 + r % 64] := by simp [U.putL, h1, h2, h3]
    rw [e]
    show 64 * (64 * (64 * (240 + r / 262144 - 240) + (128 + r / 4096 % 64) - 128) + (128 + r / 64 % 64) - 128) + (128 + r % 64) - 128 = r
    omega
/-- where nothing hits, nothing is next -/
theorem noHit {l : List Int} (hb : U.isBytes l) (hne : l ≠ []) (h : ∀ m, 1 ≤ m → m ≤ 4 → m ≤ l.length → ¬ Hit l m) : U.nextL l = (-1, 1) := by
  rcases U.next_cases hb with ⟨e, _⟩ | ⟨_, e⟩ | ⟨r, a, e, t, d⟩
  · exact absurd e hne
  · exact e
  · exfalso
    have pl := U.putL_len r
    refine h _ pl.1 pl.2 d ?_
    have e2 : U.putL r ++ l.drop (U.putL r).length = l := by
      have := List.take_append_drop (U.putL r).length l
      rw [t] at this
      exact this
    have c := cand_put a (l.drop (U.putL r).length)
    rw [e2] at c
    exact ⟨by rw [c]; exact a, by rw [c, t]⟩

def lowObj : Obj := .cells #[.int .i64 0, .int .i64 0, .int .i64 192, .int .i64 224, .int .i64 240] 3

set_option maxHeartbeats 400000 in
theorem refNext_out (a : Option Addr) (len cap : Nat) (w : World) (at' : Int) (h : at' < 0 ∨ (len : Int) ≤ at') :
    Calls Tryz.prog 162 #[.slice a len cap, .int .i64 at'] w fun e w' => e = .returned (.tuple #[.int .i64 (-1), .int .i64 0]) ∧ w' = w := by
  by_cases h0 : at' < 0
  · go_enter Tryz.func162, Tryz.ntmps162
    go_wp2
    go_ret2
    exact ⟨rfl, rfl⟩
  · have h1 : (len : Int) ≤ at' := by omega
    clear h
    go_enter Tryz.func162, Tryz.ntmps162
    go_wp2
    go_ret2
    exact ⟨rfl, rfl⟩

set_option maxHeartbeats 2000000 in
theorem refNext_in (b off len cap : Nat) (l : List Int) (w : World) (n : Nat) (h : Bb w b off len cap l) (hn : n < len) :
    Calls Tryz.prog 162 #[.slice (some ⟨b, off, none⟩) len cap, .int .i64 n] w fun e w' => e = .returned (.tuple #[.int .i64 (U.nextL (l.drop n)).1, .int .i64 (U.nextL (l.drop n)).2]) ∧ Below w.heap.size w w' := by
  have hd := h.drop n hn
  have hcap := h.hcap
  have hmax := h.hmax
  unfold maxLen at hmax
  have HD := hideC hd
  generalize l.drop n = l' at *
  clear h
  have PN := hideC refPut_no
  have PY := hideC refPut_yes
  have hd0 := hd.hlen
  have HL := hideC hd0
  clear hd hd0
  have bn1 : decide ((n : Int) < 0) = false := by simp
  have bn2 : decide (len ≤ n) = false := by simp; omega
  go_enter Tryz.func162, Tryz.ntmps162
  go_wp2_with fail
  go_loopw [7] (fun t wr => ∃ k : Nat, 1 ≤ k ∧ k ≤ 5 ∧ t = .int .i64 k ∧ Hid (∀ m, 1 ≤ m → m < k → m ≤ l'.length → ¬ Hit l' m) ∧ Below (w.heap.size + 1) (w.alloc lowObj) wr) (fun t _ => 5 - (intOf t).toNat)
  case atStart => exact ⟨1, by omega, by omega, rfl, hideC (fun m h1 h2 => by omega), Below.refl _ _⟩
  case round =>
    obtain ⟨k, hk1, hk5, rfl, hno, hb⟩ := hrel
    have hbW : Below w.heap.size w wr := (Below.one lowObj).trans (hb.mono (by omega))
    by_cases c1 : k ≤ 4
    · by_cases c2 : k ≤ len - n
      · have hc0 := cell_k hbW ((unhideC HD).hcell 0 (by omega))
        rw [Nat.add_zero] at hc0
        have hlow : wr.cell? ⟨w.heap.size, k, none⟩ = some (.int .i64 (lowOf k)) := by
          have : (w.alloc lowObj).cell? ⟨w.heap.size, k, none⟩ = some (.int .i64 (lowOf k)) := by
            unfold lowObj
            rw [World.cell?_alloc_at _ _ _ _ rfl]
            match k, c1, hk1 with
            | 1, _, _ => rfl
            | 2, _, _ => rfl
            | 3, _, _ => rfl
            | 4, _, _ => rfl
          rw [hb.cell (p := ⟨w.heap.size, k, none⟩) (by simp)]; exact this
        have b0 := U.isBytes_getD (unhideC HD).hbytes 0
        have lb := lowOf_bd k
        have i1 : (k : Int) ≤ 4 := by omega
        have i2 : (k : Int) ≤ (len : Int) - (n : Int) := by omega
        have i3 : (n : Int) < (len : Int) := by omega
        have i4 : (k : Int) < 5 := by omega
        have CD := hideC (fun j (hj : j < 4) => candI_bd (lowOf k) l' (unhideC HD).hbytes lb.1 lb.2 j (by omega))
        have C0 : Hid (l'.getD 0 0 - lowOf k = candI (lowOf k) l' 0) := rfl
        have CS : Hid (∀ j, candI (lowOf k) l' (j + 1) = 64 * candI (lowOf k) l' j + l'.getD (j + 1) 0 - 128) := fun j => rfl
        generalize l'.getD 0 0 = z0 at *
        go_wp2_with fail
        go_quiet (fail)
        go_wp2_with fail
        go_loop [8, 9] (fun r i => ∃ j : Nat, 1 ≤ j ∧ j ≤ k ∧ i = .int .i64 j ∧ r = .int .i64 (candI (lowOf k) l' (j - 1))) (fun _ i => k - (intOf i).toNat)
        case atStart => exact ⟨1, by omega, by omega, rfl, by rw [← C0.out]⟩
        case round =>
          obtain ⟨j, hj1, hjk, rfl, rfl⟩ := hrel
          have cb := unhideC CD (j - 1) (by omega)
          by_cases c3 : j < k
          · have hcj := cell_k hbW ((unhideC HD).hcell j (by omega))
            rw [Nat.add_assoc] at hcj
            have bj := U.isBytes_getD (unhideC HD).hbytes j
            have st : Hid (candI (lowOf k) l' (j + 1 - 1) = 64 * candI (lowOf k) l' (j - 1) + l'.getD j 0 - 128) := by
              have := CS.out (j - 1)
              rw [show j - 1 + 1 = j by omega] at this
              exact this
            have i5 : (n : Int) + (j : Int) < (len : Int) := by omega
            generalize l'.getD j 0 = zj at *
            generalize candI (lowOf k) l' (j - 1) = cj at *
            go_wp2_with fail
            go_round
            case rel => exact ⟨j + 1, by omega, by omega, by go_num, by rw [st.out]⟩
            case measure => simp [intOf]; omega
          · have hjk2 : j = k := by omega
            subst hjk2
            clear c3 hjk
            have CC : Hid (candI (lowOf j) l' (j - 1) = cand l' j) := rfl
            generalize candI (lowOf j) l' (j - 1) = cj at *
            cases hm : U.mayB cj
            · have P1 := hideC (fun w => unhideC PN cj w hm)
              have nh : Hid (¬ Hit l' j) := fun hh => by have := hh.1; rw [← CC.out, hm] at this; cases this
              clear hm
              go_wp2_with fail
              refine (unhideC P1 _).mono ?_
              rintro e w' ⟨rfl, rfl⟩
              go_wp2_with fail
              go_quiet (fail)
              go_wp2_with fail
              go_roundw
              case rel =>
                have nh2 : Hid (∀ m, 1 ≤ m → m < j + 1 → m ≤ l'.length → ¬ Hit l' m) := by
                  intro m h1 h2 h3
                  by_cases hmj : m = j
                  · subst hmj; exact nh.out
                  · exact hno.out m h1 (by omega) h3
                first
                  | exact ⟨j + 1, by omega, by omega, by go_num, nh2, below_drewN hb _⟩
                  | ((repeat apply Exists.intro); exact ⟨⟨j + 1, by omega, by omega, by go_num, nh2, below_drewN hb _⟩, rfl⟩)
              case measure => simp [intOf]; omega
            · have P1 := hideC (fun w => unhideC PY cj w hm)
              unfold putVal at P1
              have hfr := (unhideC HD).toBs.front j (by omega)
              have cvq : ∀ k : Nat, (convert 55 9 (.slice (some ⟨wr.heap.size, 0, none⟩) (U.putL cj).length (U.putL cj).length)).run Tryz.prog ((wr.alloc (putObj cj)).drewN k) = .ok (.string (strOfNums (U.putL cj))) ((wr.alloc (putObj cj)).drewN k) := fun k =>
                ((put_bs cj hm wr).later (below_drewN (Below.refl _ _) k) (Nat.le_refl _)).str
              have cvb : ∀ k : Nat, (convert 55 9 (.slice (some ⟨b, off + n, none⟩) j (cap - n))).run Tryz.prog ((wr.alloc (putObj cj)).drewN k) = .ok (.string (strOfNums (l'.take j))) ((wr.alloc (putObj cj)).drewN k) := fun k =>
                (hfr.later (below_drewN (hbW.alloc hbW.size _) k) (Nat.le_refl _)).str
              have cvq2 : ∀ k1 k : Nat, (convert 55 9 (.slice (some ⟨wr.heap.size, 0, none⟩) (U.putL cj).length (U.putL cj).length)).run Tryz.prog (((wr.drewN k1).alloc (putObj cj)).drewN k) = .ok (.string (strOfNums (U.putL cj))) (((wr.drewN k1).alloc (putObj cj)).drewN k) := fun k1 k =>
                ((put_bs cj hm (wr.drewN k1)).later (below_drewN (Below.refl _ _) k) (Nat.le_refl _)).str
              have cvb2 : ∀ k1 k : Nat, (convert 55 9 (.slice (some ⟨b, off + n, none⟩) j (cap - n))).run Tryz.prog (((wr.drewN k1).alloc (putObj cj)).drewN k) = .ok (.string (strOfNums (l'.take j))) (((wr.drewN k1).alloc (putObj cj)).drewN k) := fun k1 k =>
                (hfr.later (below_drewN ((below_drewN hbW k1).alloc hbW.size _) k) (Nat.le_refl _)).str
              have se := strEq (U.putL_bytes hm) hfr.hbytes
              have HM := hideC hm
              have i5 : (n : Int) ≤ (n : Int) + (j : Int) := by omega
              have i6 : (n : Int) + (j : Int) ≤ (cap : Int) := by omega
              have tn : ((n : Int) + (j : Int)).toNat = n + j := by omega
              have tn2 : n + j - n = j := by omega
              by_cases hh : U.putL cj = l'.take j
              · rw [decide_eq_true hh] at se
                have hit : Hit l' j := ⟨by rw [← CC.out]; exact hm, by rw [← CC.out]; exact hh⟩
                have fin := hit.next (by have := unhideC HL; omega)
                rw [← CC.out] at fin
                have FIN := hideC fin
                clear fin hit hh hfr hm
                generalize (U.putL cj).length = m at *
                generalize strOfNums (U.putL cj) = s1 at *
                generalize strOfNums (l'.take j) = s2 at *
                generalize putObj cj = oq at *
                go_wp2_with fail
                refine (unhideC P1 _).mono ?_
                rintro e w' ⟨rfl, rfl⟩
                go_wp2_with fail
                go_quiet (fail)
                go_wp2_with fail
                go_ret2
                refine ⟨by rw [unhideC FIN]; rfl, ?_⟩
                exact below_drewN ((below_drewN hbW _).alloc hbW.size _) _
              · rw [decide_eq_false hh] at se
                have nh : Hid (¬ Hit l' j) := fun hit => hh (by have := hit.2; rw [← CC.out] at this; exact this)
                clear hh hfr hm
                generalize (U.putL cj).length = m at *
                generalize strOfNums (U.putL cj) = s1 at *
                generalize strOfNums (l'.take j) = s2 at *
                generalize putObj cj = oq at *
                go_wp2_with fail
                refine (unhideC P1 _).mono ?_
                rintro e w' ⟨rfl, rfl⟩
                go_wp2_with fail
                go_quiet (fail)
                go_wp2_with fail
                go_roundw
                case rel =>
                  have nh2 : Hid (∀ m, 1 ≤ m → m < j + 1 → m ≤ l'.length → ¬ Hit l' m) := by
                    intro m h1 h2 h3
                    by_cases hmj : m = j
                    · subst hmj; exact nh.out
                    · exact hno.out m h1 (by omega) h3
                  first
                    | exact ⟨j + 1, by omega, by omega, by go_num, nh2, below_drewN ((below_drewN hb _).alloc (by have := hb.size; simpa using this) _) _⟩
                    | ((repeat apply Exists.intro); exact ⟨⟨j + 1, by omega, by omega, by go_num, nh2, below_drewN ((below_drewN hb _).alloc (by have := hb.size; simpa using this) _) _⟩, rfl⟩)
                case measure => simp [intOf]; omega
      · have fin : U.nextL l' = (-1, 1) := by
          have hL := unhideC HL
          refine noHit (unhideC HD).hbytes (by intro e; rw [e] at hL; simp at hL; omega) ?_
          intro m h1 h2 h3
          exact hno.out m h1 (by omega) h3
        have FIN := hideC fin
        have i2 : (len : Int) - (n : Int) < (k : Int) := by omega
        clear fin
        go_wp2_with fail
        go_ret2
        exact ⟨by rw [unhideC FIN]; rfl, hbW⟩
    · have fin : U.nextL l' = (-1, 1) := by
        have hL := unhideC HL
        refine noHit (unhideC HD).hbytes (by intro e; rw [e] at hL; simp at hL; omega) ?_
        intro m h1 h2 h3
        exact hno.out m h1 (by omega) h3
      have FIN := hideC fin
      clear fin
      go_wp2_with fail
      go_ret2
      exact ⟨by rw [unhideC FIN]; rfl, hbW⟩

theorem refNext_any (a : Option Addr) (len cap : Nat) (l : List Int) (w : World) (h : Bs w a len cap l) (at' : Int) :
    Calls Tryz.prog 162 #[.slice a len cap, .int .i64 at'] w fun e w' => e = .returned (.tuple #[.int .i64 (nx l at').1, .int .i64 (nx l at').2]) ∧ Below w.heap.size w w' := by
  have hl := h.hlen
  by_cases ho : at' < 0 ∨ (len : Int) ≤ at'
  · have e : nx l at' = (-1, 0) := by unfold nx; rw [if_pos (by omega)]
    rw [e]
    refine (refNext_out a len cap w at' ho).mono ?_
    rintro e w' ⟨rfl, rfl⟩
    exact ⟨rfl, Below.refl _ _⟩
  · have e : nx l at' = U.nextL (l.drop at'.toNat) := by unfold nx; rw [if_neg (by omega)]
    rw [e]; clear e
    obtain ⟨n, rfl⟩ := Int.eq_ofNat_of_zero_le (by omega : 0 ≤ at')
    obtain ⟨b, off, rfl, hb⟩ := h.open (by omega)
    exact refNext_in b off len cap l w n hb (by omega)

end Go.Proofs.YtdaadeohamkoiaaGreatDoor
