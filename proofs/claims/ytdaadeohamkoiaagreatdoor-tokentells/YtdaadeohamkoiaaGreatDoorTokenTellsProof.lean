/-
  TokenTells: of any text and any two tokens the law returns true, and its arguments read as they did. No condition but the card's own: the library's tables that it lists lie as Go's own text lays them.
-/
import Derived.Test.YtdaadeohamkoiaaGreatDoorTokenTellsMore3
import Derived.Test.YtdaadeohamkoiaaGreatDoorUtfAwake
import Derived.ProofKit
import Derived.OpenShut
import Derived.Test.YtdaadeohamkoiaaGreatDoorRows
import Derived.LaidMore
import Derived.ChangeSame
import Derived.Stop.Joined
import GoSem.PinnedTables
import Derived.Test.YtdaadeohamkoiaaGreatDoorRgBase
import Derived.Deep.SlicePairs
import Derived.Lib.SmallJoins
import Derived.Test.YtdaadeohamkoiaaGreatDoorTie
import Derived.Test.YtdaadeohamkoiaaGreatDoorCards
import Derived.WalkKit
import Derived.ShutString
import Derived.ChangeOld
import Derived.Below
import Derived.SevenTiedAt
import Derived.ChangeMaps5
/- Contracts of the document's own answers of layer 5: whether a token may be, and its text; two lists of tokens. -/
namespace Go.Proofs.YtdaadeohamkoiaaGreatDoor.T
open Go.RowKit
set_option linter.unusedVariables false
set_option linter.unusedSimpArgs false

/-- is a range such that it can be told? -/
def rgB (k : Int) (r : Int × Int) : Bool := (decide (k ≠ 2) || (U.mayB r.1 && U.mayB r.2)) && (decide (k ≠ 3) || decide (r.2 ≤ 255))
theorem parts_is (k : Int) (x : List Int) (R : List (Int × Int)) : partsB (k, x, R) = (decide (0 ≤ k) && decide (k ≤ 5) && G.mayB R && R.all (rgB k)) := rfl
theorem mayL_no {t : Tk} (h : partsB t = false) : mayL t = false := by rw [mayL_one, h, Bool.false_and]
theorem mayL_yes {t : Tk} (h : partsB t = true) : mayL t = oneB t (allL (textL t)) := by rw [mayL_one, h, Bool.true_and]
theorem parts_low {k : Int} {x : List Int} {R : List (Int × Int)} (h : k < 0 ∨ 5 < k) : partsB (k, x, R) = false := by
  rw [parts_is]
  rcases h with h | h
  · rw [decide_eq_false (by omega : ¬ 0 ≤ k)]; rfl
  · rw [decide_eq_false (by omega : ¬ k ≤ 5), Bool.and_false]; rfl
theorem parts_ord {k : Int} {x : List Int} {R : List (Int × Int)} (h : G.mayB R = false) : partsB (k, x, R) = false := by
  rw [parts_is, h, Bool.and_false]; rfl
theorem parts_bad {k : Int} {x : List Int} {R : List (Int × Int)} {r : Int × Int} (hr : r ∈ R) (h : rgB k r = false) : partsB (k, x, R) = false := by
  have : R.all (rgB k) = false := by
    rw [List.all_eq_false]
    exact ⟨r, hr, by rw [h]; simp⟩
  rw [parts_is, this, Bool.and_false]
theorem parts_good {k : Int} {x : List Int} {R : List (Int × Int)} (h0 : 0 ≤ k) (h5 : k ≤ 5) (hm : G.mayB R = true) (h : R.all (rgB k) = true) : partsB (k, x, R) = true := by
  rw [parts_is, h, hm, decide_eq_true h0, decide_eq_true h5]; rfl
theorem parts_set {t : Tk} (h : partsB t = true) : setOk t := by
  obtain ⟨k, x, R⟩ := t
  rw [parts_is, Bool.and_eq_true, Bool.and_eq_true] at h
  obtain ⟨⟨-, hm⟩, ha⟩ := h
  rw [List.all_eq_true] at ha
  refine ⟨fun e r hr => ?_, fun e r hr => ?_⟩
  · simp only at e hr
    have := ha r hr
    subst e
    simp [rgB] at this
    have a1 := (U.may_iff r.1).1 this.1
    have a2 := (U.may_iff r.2).1 this.2
    have e : topO false = 1114111 := rfl
    rw [e]
    omega
  · simp only at e hr
    have h1 := ha r hr
    have h2 := G.may_mem hm hr
    subst e
    simp [rgB] at h1
    have e : topO true = 255 := rfl
    rw [e]
    omega
theorem text_bytes {t : Tk} (hx : U.isBytes t.2.1) (ho : setOk t) : U.isBytes (textL t) := by
  obtain ⟨k, x, R⟩ := t
  obtain ⟨o2, o3⟩ := ho
  simp only at hx o2 o3
  have one : ∀ c : Int, 0 ≤ c → c ≤ 255 → U.isBytes [c] := fun c a b => bytes_cons a b (fun z hz => by cases hz)
  have item : ∀ (b : Bool), (∀ r ∈ R, 0 ≤ r.1 ∧ 0 ≤ r.2 ∧ r.1 ≤ topO b ∧ r.2 ≤ topO b) → U.isBytes (R.flatMap (showI b)) := fun b ok => (flat_bytes _ 30 R (fun r hr => by
      obtain ⟨a1, a2, a3, a4⟩ := ok r hr
      have s1 := showO_ok b a1 a3
      have s2 := showO_ok b a2 a4
      unfold showI
      split
      · exact ⟨bytes_app s1.1 (bytes_cons (by omega) (by omega) s2.1), by rw [List.length_append, List.length_cons]; omega⟩
      · exact ⟨s1.1, by omega⟩)).1
  unfold textL
  simp only
  split
  · exact bytes_cons (by omega) (by omega) hx
  · split
    · exact bytes_cons (by omega) (by omega) (bytes_app (flat_bytes showP 4 x (fun z hz => showP_bytes (hx z hz))).1 (one 34 (by omega) (by omega)))
    · split
      · next h => exact bytes_cons (by omega) (by omega) (bytes_app (item false (o2 h)) (one 93 (by omega) (by omega)))
      · split
        · next h => exact bytes_cons (by omega) (by omega) (bytes_app (item true (o3 h)) (one 62 (by omega) (by omega)))
        · exact hx
theorem take_all {k : Int} {R : List (Int × Int)} {j : Nat} {r : Int × Int} (ht : R.take (j + 1) = R.take j ++ [r]) (h : (R.take j).all (rgB k) = true) (h2 : rgB k r = true) : (R.take (j + 1)).all (rgB k) = true := by
  rw [ht, List.all_append, h]
  simp [h2]
theorem one_len2 {t : Tk} {ts : List (Tk × Nat)} (h : ts.length ≠ 1) : oneB t (.inr ts) = false := by
  match ts, h with
  | [], _ => rfl
  | [x], h => exact absurd rfl h
  | _ :: _ :: _, _ => rfl
set_option maxRecDepth 20000 in
set_option maxHeartbeats 8000000 in
theorem rmay_any (t : Tk) (a : Option Addr) (c : Nat) (p : Int) (w : World) (h : TokA w t a c) :
    Calls Tryz.prog 11 #[.agg (tokAgg t a c p)] w fun e w' => e = .returned (.bool (mayL t)) ∧ Below w.heap.size w w' := by
  have HA := hideR h
  obtain ⟨k, x, R⟩ := t
  have hxl := h.hxl
  have hrl := h.hrl
  have hcap := h.hr.hcap
  have hmax := h.hr.hmax
  have hfk := h.hk
  unfold maxLen at hmax
  unfold fits at hfk
  simp only at hxl hrl hcap hfk
  have zx : (strOfNums x).size ≤ 3000 := by rw [strOfNums_size]; exact hxl
  have B1 : ∀ o, Below w.heap.size w (w.alloc o) := fun o => Below.new1 o
  have C0 := hideR (fun o => rgRefMay_any a R.length c R (w.alloc o) (Rs.later h.hr (B1 o) (Nat.le_refl _)))
  clear h
  by_cases k0 : k < 0
  · rw [mayL_no (parts_low (.inl k0))]
    unfold tokAgg
    simp only
    clear HA
    generalize strOfNums x = S at *
    go_enter Tryz.func11, Tryz.ntmps11
    go_wp2_with fail
    refine (unhideR C0 _).mono ?_
    rintro e w1 ⟨rfl, b1⟩
    clear C0
    obtain ⟨q0, q1, q2, q3⟩ := (cells4 (kept_new b1)).1
    go_wp2_with fail
    go_ret
    exact ⟨rfl, bthen (B1 _) b1⟩
  by_cases k5 : 5 < k
  · rw [mayL_no (parts_low (.inr k5))]
    unfold tokAgg
    simp only
    clear HA
    generalize strOfNums x = S at *
    go_enter Tryz.func11, Tryz.ntmps11
    go_wp2_with fail
    refine (unhideR C0 _).mono ?_
    rintro e w1 ⟨rfl, b1⟩
    clear C0
    obtain ⟨q0, q1, q2, q3⟩ := (cells4 (kept_new b1)).1
    go_wp2_with fail
    go_ret
    exact ⟨rfl, bthen (B1 _) b1⟩
  cases hm : G.mayB R with
  | false =>
    rw [mayL_no (parts_ord hm)]
    rw [hm] at C0
    unfold tokAgg
    simp only
    clear HA
    generalize strOfNums x = S at *
    go_enter Tryz.func11, Tryz.ntmps11
    go_wp2_with fail
    refine (unhideR C0 _).mono ?_
    rintro e w1 ⟨rfl, b1⟩
    clear C0
    obtain ⟨q0, q1, q2, q3⟩ := (cells4 (kept_new b1)).1
    go_wp2_with fail
    go_ret
    exact ⟨rfl, bthen (B1 _) b1⟩
  | true =>
    rw [hm] at C0
    have HM := hideR hm
    have HX : Hid (U.isBytes x) := (unhideR HA).hx
    have HR : Hid (Rs w a R.length c R) := (unhideR HA).hr
    have CU := hideR (fun (r : Int) W => refMay_any r W)
    have CT := hideR (fun (ho : setOk (k, x, R)) W (bW : Below w.heap.size w W) => rtext_any (k, x, R) a c p W ⟨(unhideR HA).hk, (unhideR HA).hx, (unhideR HA).hxl, Rs.later (unhideR HA).hr bW (Nat.le_refl _), (unhideR HA).hrl⟩ ho)
    unfold tokAgg at *
    simp only at *
    clear HA hm
    generalize hS : strOfNums x = S at *
    have HSX := hideR hS
    clear hS
    go_enter Tryz.func11, Tryz.ntmps11
    go_wp2_with fail
    refine (unhideR C0 _).mono ?_
    rintro e w1 ⟨rfl, b1⟩
    clear C0
    have HG := hideR (kept_new b1)
    have BW1 := bthen (B1 _) b1
    obtain ⟨q0, q1, q2, q3⟩ := (cells4 (kept_new b1)).1
    go_wp2_with fail
    clear q0 q1 q2 q3
    go_loopw [4] (fun i wr => ∃ j : Nat, j ≤ R.length ∧ i = .int .i64 (j : Int) ∧ Hid ((R.take j).all (rgB k) = true) ∧ Hid (wr.heap[w.heap.size]? = some (.cells #[.int .i64 k, .string S, .slice a R.length c, .int .i64 p] 24)) ∧ Below w.heap.size w wr) (fun i _ => R.length - (intOf i).toNat)
    case atStart => exact ⟨0, Nat.zero_le _, rfl, (by show _ = _; rfl), HG, BW1⟩
    case round =>
      obtain ⟨j, hj, rfl, hal, hg, hb⟩ := hrel
      clear HG BW1
      obtain ⟨q0, q1, q2, q3⟩ := (cells4 (unhideR hg)).1
      by_cases hlt : j < R.length
      · obtain ⟨g, off, rfl, hr⟩ := (Rs.later (unhideR HR) hb (Nat.le_refl _)).open (by omega)
        obtain ⟨lo, hi, hmem, ht, f1, f2, c0, c1⟩ := hr.at j hlt
        unfold fits at f1 f2
        have hin : (lo, hi) ∈ R := List.mem_of_mem_drop (by rw [hmem]; exact List.mem_cons_self ..)
        have C1 := hideR (unhideR CU lo wr)
        have C2 := hideR (unhideR CU hi wr)
        have BAD : Hid (rgB k (lo, hi) = false → mayL (k, x, R) = false) := fun e => mayL_no (parts_bad hin e)
        have GOOD : Hid (rgB k (lo, hi) = true → (R.take (j + 1)).all (rgB k) = true) := fun e => take_all ht (unhideR hal) e
        clear hr hmem ht hin hal HR HM CT HX CU HSX
        by_cases k2 : k = 2
        · have e2 : (k == 2) = true := by rw [k2]; rfl
          have e23 : (k == 3) = false := by rw [k2]; rfl
          have K2 := hideR k2
          clear k2
          cases h1 : U.mayB lo with
          | false =>
            have E0 := hideR (unhideR BAD (by simp [rgB, h1, unhideR K2]))
            rw [h1] at C1
            clear BAD GOOD
            cases h2 : U.mayB hi with
            | false =>
              rw [h2] at C2
              go_wp2_with fail
              refine (unhideR C1).mono ?_
              rintro e w2 ⟨rfl, hw2⟩
              obtain rfl : wr = w2 := hw2.symm
              clear C1 hw2
              go_wp2_with fail
              refine (unhideR C2).mono ?_
              rintro e w2 ⟨rfl, hw2⟩
              obtain rfl : wr = w2 := hw2.symm
              clear C2 hw2
              go_wp2_with fail
              go_ret
              exact ⟨ret_bool (unhideR E0).symm, hb⟩
            | true =>
              rw [h2] at C2
              go_wp2_with fail
              refine (unhideR C1).mono ?_
              rintro e w2 ⟨rfl, hw2⟩
              obtain rfl : wr = w2 := hw2.symm
              clear C1 hw2
              go_wp2_with fail
              refine (unhideR C2).mono ?_
              rintro e w2 ⟨rfl, hw2⟩
              obtain rfl : wr = w2 := hw2.symm
              clear C2 hw2
              go_wp2_with fail
              go_ret
              exact ⟨ret_bool (unhideR E0).symm, hb⟩
          | true =>
            rw [h1] at C1
            cases h2 : U.mayB hi with
            | false =>
              have E0 := hideR (unhideR BAD (by simp [rgB, h2, unhideR K2]))
              rw [h2] at C2
              clear BAD GOOD
              go_wp2_with fail
              refine (unhideR C1).mono ?_
              rintro e w2 ⟨rfl, hw2⟩
              obtain rfl : wr = w2 := hw2.symm
              clear C1 hw2
              go_wp2_with fail
              refine (unhideR C2).mono ?_
              rintro e w2 ⟨rfl, hw2⟩
              obtain rfl : wr = w2 := hw2.symm
              clear C2 hw2
              go_wp2_with fail
              go_ret
              exact ⟨ret_bool (unhideR E0).symm, hb⟩
            | true =>
              have NX := hideR (unhideR GOOD (by simp [rgB, h1, h2, unhideR K2]))
              rw [h2] at C2
              clear BAD GOOD
              go_wp2_with fail
              refine (unhideR C1).mono ?_
              rintro e w2 ⟨rfl, hw2⟩
              obtain rfl : wr = w2 := hw2.symm
              clear C1 hw2
              go_wp2_with fail
              refine (unhideR C2).mono ?_
              rintro e w2 ⟨rfl, hw2⟩
              obtain rfl : wr = w2 := hw2.symm
              clear C2 hw2
              go_wp2_with fail
              go_roundw
              case rel => exact ⟨j + 1, by omega, by go_num, NX, hg, hb⟩
              case measure => simp [intOf]; omega
        · have n2 : (k == 2) = false := beq_eq_false_iff_ne.2 k2
          generalize U.mayB lo = m1 at *
          generalize U.mayB hi = m2 at *
          by_cases k3 : k = 3
          · have e3 : (k == 3) = true := by rw [k3]; rfl
            have K3 := hideR k3
            clear k3 k2
            by_cases h255 : 255 < hi
            · have E0 := hideR (unhideR BAD (by simp [rgB, unhideR K3]; omega))
              clear BAD GOOD
              go_wp2_with fail
              refine (unhideR C1).mono ?_
              rintro e w2 ⟨rfl, hw2⟩
              obtain rfl : wr = w2 := hw2.symm
              clear C1 hw2
              go_wp2_with fail
              refine (unhideR C2).mono ?_
              rintro e w2 ⟨rfl, hw2⟩
              obtain rfl : wr = w2 := hw2.symm
              clear C2 hw2
              go_wp2_with fail
              go_ret
              exact ⟨ret_bool (unhideR E0).symm, hb⟩
            · have NX := hideR (unhideR GOOD (by simp [rgB, unhideR K3]; omega))
              have h256 : hi ≤ 255 := by omega
              clear BAD GOOD
              go_wp2_with fail
              refine (unhideR C1).mono ?_
              rintro e w2 ⟨rfl, hw2⟩
              obtain rfl : wr = w2 := hw2.symm
              clear C1 hw2
              go_wp2_with fail
              refine (unhideR C2).mono ?_
              rintro e w2 ⟨rfl, hw2⟩
              obtain rfl : wr = w2 := hw2.symm
              clear C2 hw2
              go_wp2_with fail
              go_roundw
              case rel => exact ⟨j + 1, by omega, by go_num, NX, hg, hb⟩
              case measure => simp [intOf]; omega
          · have n3 : (k == 3) = false := beq_eq_false_iff_ne.2 k3
            have NX := hideR (unhideR GOOD (by simp [rgB, k2, k3]))
            clear BAD GOOD
            go_wp2_with fail
            refine (unhideR C1).mono ?_
            rintro e w2 ⟨rfl, hw2⟩
            obtain rfl : wr = w2 := hw2.symm
            clear C1 hw2
            go_wp2_with fail
            refine (unhideR C2).mono ?_
            rintro e w2 ⟨rfl, hw2⟩
            obtain rfl : wr = w2 := hw2.symm
            clear C2 hw2
            go_wp2_with fail
            go_roundw
            case rel => exact ⟨j + 1, by omega, by go_num, NX, hg, hb⟩
            case measure => simp [intOf]; omega
      · obtain rfl : j = R.length := by omega
        have hal' := unhideR hal
        rw [List.take_length] at hal'
        have hp : partsB (k, x, R) = true := parts_good (by omega) (by omega) (unhideR HM) hal'
        have so := parts_set hp
        have tb := text_bytes (t := (k, x, R)) (unhideR HX) so
        have CW := hideR (fun W (bW : Below w.heap.size w W) => unhideR CT so W bW)
        have CA := hideR (fun W => rall_any _ _ (St.of tb) W)
        have HML := hideR (mayL_yes hp)
        have HWB := hideR tb
        clear CT hal' hp so tb hal CU HM
        generalize hTL : textL (k, x, R) = TL at *
        generalize strOfNums TL = TLS at *
        have lnk : ¬ ((R.length : Int) < (R.length : Int)) := by omega
        go_wp2_with fail
        refine (unhideR CW _ hb).mono ?_
        rintro e w2 ⟨rfl, b2⟩
        clear CW
        go_wp2_with fail
        refine (unhideR CA _).mono ?_
        rintro e w3 ⟨ar, b3⟩
        clear CA q0 q1 q2 q3
        have B3 := bthen b2 b3
        have BB := bthen hb B3
        have HG3 : w3.heap[w.heap.size]? = some (.cells #[.int .i64 k, .string S, .slice a R.length c, .int .i64 p] 24) := (B3.block _ (by have := (Array.getElem?_eq_some_iff.1 (unhideR hg)).1; exact this)).trans (unhideR hg)
        obtain ⟨q0, q1, q2, q3⟩ := (cells4 HG3).1
        rcases ar with ⟨pa, er, ea, rfl⟩ | ⟨ts, v, ea, rfl, tk⟩
        · have er0 : (er != 0) = true := by rcases allL_err ea with rfl | rfl <;> rfl
          have EM := hideR ea
          clear ea HWB HR HX HSX
          go_wp2_with fail
          go_ret
          exact ⟨ret_bool (by rw [unhideR HML, unhideR EM]; rfl), BB⟩
        · have EM := hideR ea
          by_cases h1 : ts.length = 1
          · obtain ⟨⟨u, kq⟩, rfl⟩ : ∃ x, ts = [x] := List.length_eq_one_iff.1 h1
            obtain ⟨g, cap, bb, d, rfl, g1, g2, g3, y0, y1, y2, y3, hr⟩ := tks_at tk (i := 0) rfl
            simp only [Nat.mul_zero, Nat.zero_add, List.length_singleton] at g1 y0 y1 y2 y3
            have fu : fits u.1 ∧ U.isBytes u.2.1 := ok_parts (allL_ok (unhideR HWB) ea (u, kq) (List.mem_singleton.2 rfl))
            have rt : Rs w3 a R.length c R := Rs.later (unhideR HR) BB (Nat.le_refl _)
            have C1 := hideR (fun W (bW : Below w3.heap.size w3 W) => rsame_any u (k, x, R) bb a d c (kq : Int) p W fu.2 (Rs.later hr bW (Nat.le_refl _)) (unhideR HX) (Rs.later rt bW (Nat.le_refl _)))
            unfold tokAgg at C1
            simp only at C1
            rw [unhideR HSX] at C1
            clear ea hr rt fu tk HWB HR HX HSX
            generalize hDD : decide (u = (k, x, R)) = D at *
            have HDD := hideR hDD
            clear hDD
            generalize strOfNums u.2.1 = S2 at *
            generalize u.1 = K2 at *
            generalize u.2.2.length = M2 at *
            go_wp2_with fail
            refine wp_region_held_drew (S := (fun w' => w'.cell? ⟨g, 0, none⟩ = some (.int .i64 K2) ∧ w'.cell? ⟨g, 1, none⟩ = some (.string S2) ∧ w'.cell? ⟨g, 2, none⟩ = some (.slice bb M2 d) ∧ w'.cell? ⟨g, 3, none⟩ = some (.int .i64 (kq : Int)) ∧ w'.cell? ⟨w.heap.size, 0, none⟩ = some (.int .i64 k) ∧ w'.cell? ⟨w.heap.size, 1, none⟩ = some (.string S) ∧ w'.cell? ⟨w.heap.size, 2, none⟩ = some (.slice a R.length c) ∧ w'.cell? ⟨w.heap.size, 3, none⟩ = some (.int .i64 p))) (by kernel_rfl) (⟨y0, y1, y2, y3, q0, q1, q2, q3⟩) (fun hHeld => ?_)
            refine wpAnyH_take (i := 0) (v := ?_) rfl (by kernel_rfl) (by kernel_rfl) (by kernel_rfl) (fun _ _ _ h => h) (Or.inl ⟨by kernel_rfl, ?_⟩) (by assumption) ?_
            rotate_left
            · intro w hSw; (try dsimp only at hSw); go_simp; (try with_reducible rfl)
            try simp only [Act.put, List.getElem_toArray, List.getElem_cons_succ, List.getElem_cons_zero, List.setIfInBounds_toArray, List.set_cons_zero, List.set_cons_succ]
            refine wpAnyH_take (i := 1) (v := ?_) rfl (by kernel_rfl) (by kernel_rfl) (by kernel_rfl) (fun _ _ _ h => h) (Or.inl ⟨by kernel_rfl, ?_⟩) (by assumption) ?_
            rotate_left
            · intro w hSw; (try dsimp only at hSw); go_simp; (try with_reducible rfl)
            try simp only [Act.put, List.getElem_toArray, List.getElem_cons_succ, List.getElem_cons_zero, List.setIfInBounds_toArray, List.set_cons_zero, List.set_cons_succ]
            refine wpAnyH_take (i := 2) (v := ?_) rfl (by kernel_rfl) (by kernel_rfl) (by kernel_rfl) (fun _ _ _ h => h) (Or.inl ⟨by kernel_rfl, ?_⟩) (by assumption) ?_
            rotate_left
            · intro w hSw; (try dsimp only at hSw); go_simp; (try with_reducible rfl)
            try simp only [Act.put, List.getElem_toArray, List.getElem_cons_succ, List.getElem_cons_zero, List.setIfInBounds_toArray, List.set_cons_zero, List.set_cons_succ]
            refine wpAnyH_take (i := 3) (v := ?_) rfl (by kernel_rfl) (by kernel_rfl) (by kernel_rfl) (fun _ _ _ h => h) (Or.inl ⟨by kernel_rfl, ?_⟩) (by assumption) ?_
            rotate_left
            · intro w hSw; (try dsimp only at hSw); go_simp; (try with_reducible rfl)
            try simp only [Act.put, List.getElem_toArray, List.getElem_cons_succ, List.getElem_cons_zero, List.setIfInBounds_toArray, List.set_cons_zero, List.set_cons_succ]
            refine wpAnyH_ready (rs := [4]) (by kernel_rfl) (by simp) ?_
            refine AllReadyH.cons rfl (fun K hK => ?_) AllReadyH.nil
            go_simp
            refine (unhideR C1 _ draws_b).mono ?_; rintro e w3 ⟨rfl, b3⟩
            go_wp2_with fail
            refine hK.out _ _ (by obtain ⟨h0, h1, h2, h3, h4, h5, h6, h7⟩ := hHeld; exact ⟨keep_c b3 rfl h0, keep_c b3 rfl h1, keep_c b3 rfl h2, keep_c b3 rfl h3, keep_c b3 rfl h4, keep_c b3 rfl h5, keep_c b3 rfl h6, keep_c b3 rfl h7⟩) (fun hHeld => ?_)
            clear hK K
            try simp only [Act.put, List.getElem_toArray, List.getElem_cons_succ, List.getElem_cons_zero, List.setIfInBounds_toArray, List.set_cons_zero, List.set_cons_succ]
            refine wpAnyH_take (i := 5) (v := ?_) rfl (by kernel_rfl) (by kernel_rfl) (by kernel_rfl) (fun _ _ _ h => h) (Or.inl ⟨by kernel_rfl, ?_⟩) (by assumption) ?_
            rotate_left
            · intro w hSw; (try dsimp only at hSw); go_simp; (try with_reducible rfl)
            try simp only [Act.put, List.getElem_toArray, List.getElem_cons_succ, List.getElem_cons_zero, List.setIfInBounds_toArray, List.set_cons_zero, List.set_cons_succ]
            refine wpAnyH_done (by kernel_rfl) ?_ _
            clear C1 y0 y1 y2 y3 q0 q1 q2 q3
            go_wp2_with fail
            go_ret
            exact ⟨ret_bool (by rw [unhideR HML, unhideR EM, ← unhideR HDD]; rfl), bthen BB (bthen draws_b b3)⟩
          · have HE1 := hideR (one_len2 (t := (k, x, R)) h1)
            obtain ⟨cs, ho, -⟩ := tk
            obtain ⟨p7, c7, e7⟩ := own_form ho
            have t1 : ((ts.length : Int) != 1) = true := by rw [bne_iff_ne]; omega
            clear ea ho HWB HR HX HSX
            subst e7
            go_wp2_with fail
            go_ret
            exact ⟨ret_bool (by rw [unhideR HML, unhideR EM]; exact (unhideR HE1).symm), BB⟩
set_option maxRecDepth 20000 in
set_option maxHeartbeats 4000000 in
theorem rtxt_any (t : Tk) (a : Option Addr) (c : Nat) (p : Int) (w : World) (h : TokA w t a c) :
    Calls Tryz.prog 15 #[.agg (tokAgg t a c p)] w fun e w' => e = .returned (.string (strOfNums (txtL t))) ∧ Below w.heap.size w w' := by
  have B1 : ∀ o, Below w.heap.size w (w.alloc o) := fun o => Below.new1 o
  have CM := hideR (fun o => rmay_any t a c p (w.alloc o) ⟨h.hk, h.hx, h.hxl, Rs.later h.hr (B1 o) (Nat.le_refl _), h.hrl⟩)
  have CW := hideR (fun (ho : setOk t) W (bW : Below w.heap.size w W) => rtext_any t a c p W ⟨h.hk, h.hx, h.hxl, Rs.later h.hr bW (Nat.le_refl _), h.hrl⟩ ho)
  unfold txtL
  unfold tokAgg at *
  clear h
  generalize strOfNums t.2.1 = S at *
  cases em : mayL t with
  | false =>
    rw [em] at CM
    rw [if_neg (by simp)]
    have e0 : strOfNums [] = ⟨#[]⟩ := rfl
    rw [e0]
    clear e0 em CW
    go_enter Tryz.func15, Tryz.ntmps15
    go_wp2_with fail
    refine (unhideR CM _).mono ?_
    rintro e w1 ⟨rfl, b1⟩
    clear CM
    go_wp2_with fail
    go_ret
    exact ⟨rfl, bthen (B1 _) b1⟩
  | true =>
    have hp : partsB t = true := by rw [mayL_one, Bool.and_eq_true] at em; exact em.1
    have CX := hideR (fun W (bW : Below w.heap.size w W) => unhideR CW (parts_set hp) W bW)
    rw [em] at CM
    rw [if_pos rfl]
    generalize strOfNums (textL t) = X at *
    clear em hp CW
    go_enter Tryz.func15, Tryz.ntmps15
    go_wp2_with fail
    refine (unhideR CM _).mono ?_
    rintro e w1 ⟨rfl, b1⟩
    clear CM
    obtain ⟨q0, q1, q2, q3⟩ := (cells4 (kept_new b1)).1
    go_wp2_with fail
    refine (unhideR CX _ (bthen (B1 _) b1)).mono ?_
    rintro e w2 ⟨rfl, b2⟩
    clear CX
    go_wp2_with fail
    go_ret
    exact ⟨rfl, bthen (bthen (B1 _) b1) b2⟩
set_option maxRecDepth 20000 in
set_option maxHeartbeats 4000000 in
theorem toks_any (w : World) (ts : List (Tk × Nat)) (base base' : Nat) (v v' : Value) (h : Tks w base v ts) (h' : Tks w base' v' ts) (hok : ∀ x ∈ ts, okT x.1) (hl : ts.length ≤ 600) :
    Calls Tryz.prog 10 #[v, v'] w fun e w' => e = .returned (.bool true) ∧ Below w.heap.size w w' := by
  obtain ⟨qa, ca, rfl⟩ := tks_form h
  obtain ⟨qb, cb, rfl⟩ := tks_form h'
  have HKA := hideR h
  have HKB := hideR h'
  have HOK := hideR hok
  clear h h' hok
  have g0 : ((ts.length : Int) != (ts.length : Int)) = false := by simp
  go_enter Tryz.func10, Tryz.ntmps10
  go_wp2_with fail
  go_loopw [5] (fun j wz => ∃ i : Nat, i ≤ ts.length ∧ j = .int .i64 (i : Int) ∧ Below w.heap.size w wz) (fun j _ => ts.length - (intOf j).toNat)
  case atStart => exact ⟨0, Nat.zero_le _, rfl, Below.refl _ _⟩
  case round =>
    obtain ⟨i, hi, rfl, hb2⟩ := hrel
    by_cases hlt : i < ts.length
    · obtain ⟨⟨t, q⟩, hta⟩ : ∃ x, ts[i]? = some x := ⟨_, List.getElem?_eq_getElem hlt⟩
      obtain ⟨ga, ra, c5, rfl, gla, fa⟩ := tks_cells (unhideR HKA) hta
      obtain ⟨gb, rb, c6, rfl, glb, fb⟩ := tks_cells (unhideR HKB) hta
      have okt := ok_parts (unhideR HOK (t, q) (List.mem_of_getElem? hta))
      have C := hideR (fun W (bW : Below w.heap.size w W) => rsame_any t t ra rb c5 c6 q q W okt.2 (fa W bW).2.2.2.2 okt.2 (fb W bW).2.2.2.2)
      have dt : decide (t = t) = true := by simp
      rw [dt] at C
      unfold tokAgg at C
      obtain ⟨y0, y1, y2, y3, -⟩ := fa _ hb2
      obtain ⟨z0, z1, z2, z3, -⟩ := fb _ hb2
      have FA := hideR (fun W (bW : Below w.heap.size w W) => (fa W bW).2.2.2.1)
      have FB := hideR (fun W (bW : Below w.heap.size w W) => (fb W bW).2.2.2.1)
      have hkI : (i : Int) < (ts.length : Int) := by omega
      generalize strOfNums t.2.1 = S1 at *
      generalize t.1 = K1 at *
      generalize t.2.2.length = M1 at *
      clear HKA HKB HOK okt fa fb dt hta
      go_wp2_with fail
      refine wp_region_held_drew (S := (fun w' => w'.cell? ⟨ga, i * 4, none⟩ = some (.int .i64 K1) ∧ w'.cell? ⟨ga, i * 4 + 1, none⟩ = some (.string S1) ∧ w'.cell? ⟨ga, i * 4 + 2, none⟩ = some (.slice ra M1 c5) ∧ w'.cell? ⟨ga, i * 4 + 3, none⟩ = some (.int .i64 (q : Int)) ∧ w'.cell? ⟨gb, i * 4, none⟩ = some (.int .i64 K1) ∧ w'.cell? ⟨gb, i * 4 + 1, none⟩ = some (.string S1) ∧ w'.cell? ⟨gb, i * 4 + 2, none⟩ = some (.slice rb M1 c6) ∧ w'.cell? ⟨gb, i * 4 + 3, none⟩ = some (.int .i64 (q : Int)))) (by kernel_rfl) (⟨y0, y1, y2, y3, z0, z1, z2, z3⟩) (fun hHeld => ?_)
      refine wpAnyH_take (i := 0) (v := ?_) rfl (by kernel_rfl) (by kernel_rfl) (by kernel_rfl) (fun _ _ _ h => h) (Or.inl ⟨by kernel_rfl, ?_⟩) (by assumption) ?_
      rotate_left
      · intro w hSw; (try dsimp only at hSw); go_simp; (try with_reducible rfl)
      try simp only [Act.put, List.getElem_toArray, List.getElem_cons_succ, List.getElem_cons_zero, List.setIfInBounds_toArray, List.set_cons_zero, List.set_cons_succ]
      refine wpAnyH_take (i := 1) (v := ?_) rfl (by kernel_rfl) (by kernel_rfl) (by kernel_rfl) (fun _ _ _ h => h) (Or.inl ⟨by kernel_rfl, ?_⟩) (by assumption) ?_
      rotate_left
      · intro w hSw; (try dsimp only at hSw); go_simp; (try with_reducible rfl)
      try simp only [Act.put, List.getElem_toArray, List.getElem_cons_succ, List.getElem_cons_zero, List.setIfInBounds_toArray, List.set_cons_zero, List.set_cons_succ]
      refine wpAnyH_take (i := 2) (v := ?_) rfl (by kernel_rfl) (by kernel_rfl) (by kernel_rfl) (fun _ _ _ h => h) (Or.inl ⟨by kernel_rfl, ?_⟩) (by assumption) ?_
      rotate_left
      · intro w hSw; (try dsimp only at hSw); go_simp; (try with_reducible rfl)
      try simp only [Act.put, List.getElem_toArray, List.getElem_cons_succ, List.getElem_cons_zero, List.setIfInBounds_toArray, List.set_cons_zero, List.set_cons_succ]
      refine wpAnyH_take (i := 3) (v := ?_) rfl (by kernel_rfl) (by kernel_rfl) (by kernel_rfl) (fun _ _ _ h => h) (Or.inl ⟨by kernel_rfl, ?_⟩) (by assumption) ?_
      rotate_left
      · intro w hSw; (try dsimp only at hSw); go_simp; (try with_reducible rfl)
      try simp only [Act.put, List.getElem_toArray, List.getElem_cons_succ, List.getElem_cons_zero, List.setIfInBounds_toArray, List.set_cons_zero, List.set_cons_succ]
      refine wpAnyH_take (i := 4) (v := ?_) rfl (by kernel_rfl) (by kernel_rfl) (by kernel_rfl) (fun _ _ _ h => h) (Or.inl ⟨by kernel_rfl, ?_⟩) (by assumption) ?_
      rotate_left
      · intro w hSw; (try dsimp only at hSw); go_simp; (try with_reducible rfl)
      try simp only [Act.put, List.getElem_toArray, List.getElem_cons_succ, List.getElem_cons_zero, List.setIfInBounds_toArray, List.set_cons_zero, List.set_cons_succ]
      refine wpAnyH_take (i := 5) (v := ?_) rfl (by kernel_rfl) (by kernel_rfl) (by kernel_rfl) (fun _ _ _ h => h) (Or.inl ⟨by kernel_rfl, ?_⟩) (by assumption) ?_
      rotate_left
      · intro w hSw; (try dsimp only at hSw); go_simp; (try with_reducible rfl)
      try simp only [Act.put, List.getElem_toArray, List.getElem_cons_succ, List.getElem_cons_zero, List.setIfInBounds_toArray, List.set_cons_zero, List.set_cons_succ]
      refine wpAnyH_take (i := 6) (v := ?_) rfl (by kernel_rfl) (by kernel_rfl) (by kernel_rfl) (fun _ _ _ h => h) (Or.inl ⟨by kernel_rfl, ?_⟩) (by assumption) ?_
      rotate_left
      · intro w hSw; (try dsimp only at hSw); go_simp; (try with_reducible rfl)
      try simp only [Act.put, List.getElem_toArray, List.getElem_cons_succ, List.getElem_cons_zero, List.setIfInBounds_toArray, List.set_cons_zero, List.set_cons_succ]
      refine wpAnyH_take (i := 7) (v := ?_) rfl (by kernel_rfl) (by kernel_rfl) (by kernel_rfl) (fun _ _ _ h => h) (Or.inl ⟨by kernel_rfl, ?_⟩) (by assumption) ?_
      rotate_left
      · intro w hSw; (try dsimp only at hSw); go_simp; (try with_reducible rfl)
      try simp only [Act.put, List.getElem_toArray, List.getElem_cons_succ, List.getElem_cons_zero, List.setIfInBounds_toArray, List.set_cons_zero, List.set_cons_succ]
      refine wpAnyH_ready (rs := [8]) (by kernel_rfl) (by simp) ?_
      refine AllReadyH.cons rfl (fun K hK => ?_) AllReadyH.nil
      go_simp
      refine (unhideR C _ (hb2.trans draws_b)).mono ?_; rintro e x3 ⟨rfl, c3⟩
      go_wp2_with fail
      refine hK.out _ _ (by obtain ⟨h0, h1, h2, h3, h4, h5, h6, h7⟩ := hHeld; exact ⟨keep_c c3 rfl h0, keep_c c3 rfl h1, keep_c c3 rfl h2, keep_c c3 rfl h3, keep_c c3 rfl h4, keep_c c3 rfl h5, keep_c c3 rfl h6, keep_c c3 rfl h7⟩) (fun hHeld => ?_)
      clear hK K
      try simp only [Act.put, List.getElem_toArray, List.getElem_cons_succ, List.getElem_cons_zero, List.setIfInBounds_toArray, List.set_cons_zero, List.set_cons_succ]
      refine wpAnyH_take (i := 9) (v := ?_) rfl (by kernel_rfl) (by kernel_rfl) (by kernel_rfl) (fun _ _ _ h => h) (Or.inl ⟨by kernel_rfl, ?_⟩) (by assumption) ?_
      rotate_left
      · intro w hSw; (try dsimp only at hSw); go_simp; (try with_reducible rfl)
      try simp only [Act.put, List.getElem_toArray, List.getElem_cons_succ, List.getElem_cons_zero, List.setIfInBounds_toArray, List.set_cons_zero, List.set_cons_succ]
      refine wpAnyH_done (by kernel_rfl) ?_ _
      clear C y0 y1 y2 y3 z0 z1 z2 z3
      have HB3 := hb2.trans (draws_b.trans (c3.mono (by have := hb2.size; exact this)))
      have k0 : ∀ d, (x3.drewN d).cell? ⟨ga, i * 4 + 3, none⟩ = some (.int .i64 (q : Int)) := fun d => by simpa using unhideR FA x3 HB3
      have k1 : ∀ d, (x3.drewN d).cell? ⟨gb, i * 4 + 3, none⟩ = some (.int .i64 (q : Int)) := fun d => by simpa using unhideR FB x3 HB3
      go_wp2_with fail
      go_quiet (fail)
      go_wp2_with fail
      go_roundw
      case rel => exact ⟨i + 1, by omega, by go_num, below_drew HB3 _⟩
      case measure => simp [intOf]; omega
    · obtain rfl : i = ts.length := by omega
      have lnk : ¬ ((ts.length : Int) < (ts.length : Int)) := by omega
      go_wp2_with fail
      go_ret
      exact ⟨rfl, hb2⟩
end Go.Proofs.YtdaadeohamkoiaaGreatDoor.T

/- The walk of TokenTells. -/
namespace Go.Proofs.YtdaadeohamkoiaaGreatDoor.T
open Go.RowKit
set_option linter.unusedVariables false
set_option linter.unusedSimpArgs false

/-- what two such answers of one text tell -/
theorem all_both {w2 w3 : World} {B B' : Nat} {l : List Int} {e e' : Ending} (hb : U.isBytes l) (h : AllR w2 B l e) (h' : AllR w3 B' l e') (b : Below w2.heap.size w2 w3) :
    ∃ (ts : List (Tk × Nat)) (q : Option Addr) (c : Nat) (q' : Option Addr) (c' : Nat) (n : Nat) (er : Int), e = .returned (.tuple #[.slice q ts.length c, .int .i64 (n : Int), .int .i64 er]) ∧ e' = .returned (.tuple #[.slice q' ts.length c', .int .i64 (n : Int), .int .i64 er]) ∧
      Tks w3 B (.slice q ts.length c) ts ∧ Tks w3 B' (.slice q' ts.length c') ts ∧ (∀ x ∈ ts, okT x.1) ∧ ts.length ≤ 600 := by
  rcases h with ⟨pa, er, ea, rfl⟩ | ⟨ts, v, ea, rfl, tk⟩
  · rcases h' with ⟨pa', er', ea', rfl⟩ | ⟨ts', v', ea', rfl, tk'⟩
    · rw [ea] at ea'
      injection ea' with ea'
      injection ea' with e1 e2
      subst e1; subst e2
      exact ⟨[], none, 0, none, 0, pa, er, rfl, rfl, ⟨[], World.ownsRow_nil _ _ _ _, rfl⟩, ⟨[], World.ownsRow_nil _ _ _ _, rfl⟩, (fun x hx => by cases hx), by simp⟩
    · rw [ea] at ea'; cases ea'
  · rcases h' with ⟨pa', er', ea', rfl⟩ | ⟨ts', v', ea', rfl, tk'⟩
    · rw [ea] at ea'; cases ea'
    · obtain rfl : ts' = ts := by rw [ea] at ea'; injection ea' with ea'; exact ea'.symm
      obtain ⟨q, c, rfl⟩ := tks_form tk
      obtain ⟨q', c', rfl⟩ := tks_form tk'
      obtain ⟨cs, ho, hc⟩ := tk
      exact ⟨ts', q, c, q', c', l.length, 0, rfl, rfl, ⟨cs, ownL b ho, TkC.later hc b⟩, tk', allL_ok hb ea, all_bound hb ea⟩
set_option maxRecDepth 20000 in
set_option maxHeartbeats 16000000 in
theorem tokenTells_walk (s : ByteArray) (K : Int) (S : ByteArray) (a : Option Addr) (n c : Nat) (R : List (Int × Int)) (p : Int) (K2 : Int) (S2 : ByteArray) (a2 : Option Addr) (n2 c2 : Nat) (R2 : List (Int × Int)) (p2 : Int) (w : World) (hs0 : s.size ≤ maxLen) (hK : fits K) (h : Rs w a n c R) (hK2 : fits K2) (h2 : Rs w a2 n2 c2 R2) (hd : Db w) :
    Calls Tryz.prog 3 #[.string s, .agg #[.int .i64 K, .string S, .slice a n c, .int .i64 p], .agg #[.int .i64 K2, .string S2, .slice a2 n2 c2, .int .i64 p2]] w fun e w' => e = .returned (.bool true) ∧ Below w.heap.size w w' := by
  have CU := hideR (fun o1 o2 => awake5_any ((w.alloc o1).alloc o2))
  obtain rfl := h.hlen
  obtain rfl := h2.hlen
  unfold maxLen at hs0
  by_cases L1 : 4000 < s.size
  · have t1 : (4000 : Int) < (s.size : Int) := by omega
    clear h h2 hd hK hK2
    go_enter Tryz.func3, Tryz.ntmps3
    go_wp2_with fail
    refine (unhideR CU _ _).mono ?_
    rintro e w1 ⟨rfl, b1⟩
    obtain ⟨g1, g2⟩ := two_new b1
    obtain ⟨q0, q1, q2, q3⟩ := (cells4 g1).1
    obtain ⟨y0, y1, y2, y3⟩ := (cells4 g2).1
    clear CU
    go_wp2_with fail
    go_ret
    exact ⟨rfl, b2_of b1⟩
  have t1 : (s.size : Int) ≤ 4000 := by omega
  by_cases L2 : 300 < S.size
  · have t1 : (300 : Int) < (S.size : Int) := by omega
    clear h h2 hd hK hK2
    go_enter Tryz.func3, Tryz.ntmps3
    go_wp2_with fail
    refine (unhideR CU _ _).mono ?_
    rintro e w1 ⟨rfl, b1⟩
    obtain ⟨g1, g2⟩ := two_new b1
    obtain ⟨q0, q1, q2, q3⟩ := (cells4 g1).1
    obtain ⟨y0, y1, y2, y3⟩ := (cells4 g2).1
    clear CU
    go_wp2_with fail
    go_ret
    exact ⟨rfl, b2_of b1⟩
  have t2 : (S.size : Int) ≤ 300 := by omega
  by_cases L3 : 60 < R.length
  · have t1 : (60 : Int) < (R.length : Int) := by omega
    clear h h2 hd hK hK2
    go_enter Tryz.func3, Tryz.ntmps3
    go_wp2_with fail
    refine (unhideR CU _ _).mono ?_
    rintro e w1 ⟨rfl, b1⟩
    obtain ⟨g1, g2⟩ := two_new b1
    obtain ⟨q0, q1, q2, q3⟩ := (cells4 g1).1
    obtain ⟨y0, y1, y2, y3⟩ := (cells4 g2).1
    clear CU
    go_wp2_with fail
    go_ret
    exact ⟨rfl, b2_of b1⟩
  have t3 : (R.length : Int) ≤ 60 := by omega
  by_cases L4 : 60 < R2.length
  · have t1 : (60 : Int) < (R2.length : Int) := by omega
    clear h h2 hd hK hK2
    go_enter Tryz.func3, Tryz.ntmps3
    go_wp2_with fail
    refine (unhideR CU _ _).mono ?_
    rintro e w1 ⟨rfl, b1⟩
    obtain ⟨g1, g2⟩ := two_new b1
    obtain ⟨q0, q1, q2, q3⟩ := (cells4 g1).1
    obtain ⟨y0, y1, y2, y3⟩ := (cells4 g2).1
    clear CU
    go_wp2_with fail
    go_ret
    exact ⟨rfl, b2_of b1⟩
  have t4 : (R2.length : Int) ≤ 60 := by omega
  obtain ⟨ls, hs⟩ := st_of' s
  obtain ⟨x, hx⟩ := st_of' S
  obtain ⟨x2, hx2⟩ := st_of' S2
  obtain rfl := hx.1
  obtain rfl := hx2.1
  have zs := hs.size
  have zx := hx.size
  have TA : ∀ W, Below w.heap.size w W → TokA W (K, x, R) a c := fun W bW => ⟨hK, hx.2, by simp only; omega, Rs.later h bW (Nat.le_refl _), by simp only; omega⟩
  have EN : ∀ W, Below w.heap.size w W → Enders W shA R := fun W bW => ender_any W (hd.later bW) R h.hfit
  have wb := (wr_bytes (t := (K, x, R)) hx.2 (by simp only; omega) (by simp only; omega) (EN w (Below.refl _ _))).1
  have CM := hideR (fun W (bW : Below w.heap.size w W) => may_l shA (K, x, R) a c p W (TA W bW) (EN W bW))
  have CT := hideR (fun W (bW : Below w.heap.size w W) => text_l shA (K, x, R) a c p W (TA W bW) (EN W bW))
  have CS := hideR (fun W (bW : Below w.heap.size w W) => same_l (K, x, R) (K2, x2, R2) a a2 c c2 p p2 W hK hx.2 (Rs.later h bW (Nat.le_refl _)) hK2 hx2.2 (Rs.later h2 bW (Nat.le_refl _)))
  have CM2 := hideR (fun W (bW : Below w.heap.size w W) => rmay_any (K, x, R) a c p W (TA W bW))
  have CT2 := hideR (fun W (bW : Below w.heap.size w W) => rtxt_any (K, x, R) a c p W (TA W bW))
  have CS2 := hideR (fun W (bW : Below w.heap.size w W) => rsame_any (K, x, R) (K2, x2, R2) a a2 c c2 p p2 W hx.2 (Rs.later h bW (Nat.le_refl _)) hx2.2 (Rs.later h2 bW (Nat.le_refl _)))
  rw [mayW_all wb] at CM
  rw [txtW_all wb] at CT
  have et : (if mayL (K, x, R) then textL (K, x, R) else []) = txtL (K, x, R) := rfl
  rw [et] at CT
  unfold tokAgg at CM CT CS CM2 CT2 CS2
  simp only at CM CT CS CM2 CT2 CS2
  have CA := hideR (fun W => all_l s ls hs (by omega) W)
  have CB := hideR (fun W => rall_any s ls hs W)
  have CK := hideR (fun W ts B B' v v' k1 k2 k3 k4 => toks_any W ts B B' v v' k1 k2 k3 k4)
  have HBS := hideR hs.2
  clear TA EN wb h h2 hd hs zs hx hx2 zx hK hK2 et
  generalize hS1 : strOfNums x = S at *
  generalize hS2 : strOfNums x2 = S2 at *
  generalize strOfNums (txtL (K, x, R)) = TT at *
  generalize decide (((K, x, R) : Tk) = (K2, x2, R2)) = DD at *
  generalize mayL (K, x, R) = MM at *
  clear hS1 hS2
  have lb : (MM == MM) = true := by simp
  have ld : (DD == DD) = true := by simp
  have lt : (TT.toList == TT.toList) = true := by simp
  go_enter Tryz.func3, Tryz.ntmps3
  go_wp2_with fail
  refine (unhideR CU _ _).mono ?_
  rintro e w1 ⟨rfl, b1⟩
  clear CU
  have BA := b2_of b1
  obtain ⟨g1, g2⟩ := two_new b1
  obtain ⟨q0, q1, q2, q3⟩ := (cells4 g1).1
  obtain ⟨y0, y1, y2, y3⟩ := (cells4 g2).1
  go_wp2_with fail
  refine (unhideR CA _).mono ?_
  rintro e w2 ⟨ar, b2⟩
  obtain ⟨e, rfl⟩ : ∃ f, e = f := ⟨e, rfl⟩
  have HAR := hideR ar
  have FORM : ∃ q n c m er, e = .returned (.tuple #[.slice q n c, .int .i64 m, .int .i64 er]) := by
    rcases ar with ⟨pa, er, ea, rfl⟩ | ⟨ts, v, ea, rfl, tk⟩
    · exact ⟨_, _, _, _, _, rfl⟩
    · obtain ⟨q, c, rfl⟩ := tks_form tk
      exact ⟨_, _, _, _, _, rfl⟩
  obtain ⟨u1, u2, u3, u4, u5, rfl⟩ := FORM
  clear CA ar
  go_wp2_with fail
  refine (unhideR CB _).mono ?_
  rintro e w3 ⟨ar2, b3⟩
  clear CB
  obtain ⟨ts, qa, ca, qb, cb, m, er, e1, e2, k1, k2, k3, k4⟩ := all_both (unhideR HBS) (unhideR HAR) ar2 b3
  injection e1 with e1
  injection e1 with e1
  simp only [Array.mk.injEq, List.cons.injEq, and_true] at e1
  obtain ⟨e1, e4, e5⟩ := e1
  injection e1 with v1 v2 v3
  injection e4 with _ e4
  injection e5 with _ e5
  subst v1; subst v2; subst v3; subst e4; subst e5; subst e2
  have C5 := hideR (unhideR CK w3 ts _ _ _ _ k1 k2 k3 k4)
  clear CK HAR ar2 HBS k1 k2 k3 q0 q1 q2 q3 y0 y1 y2 y3
  have B3 := bthen (bthen BA b2) b3
  have b13 := bthen b2 b3
  go_wp2_with fail
  refine (unhideR C5).mono ?_
  rintro e w4 ⟨rfl, b4⟩
  clear C5
  have b14 := bthen b13 b4
  have B4 := bthen B3 b4
  have FQ : ∀ W, Below w1.heap.size w1 W → W.heap[w.heap.size]? = some (.cells #[.int .i64 K, .string S, .slice a R.length c, .int .i64 p] 24) ∧ W.heap[w.heap.size + 1]? = some (.cells #[.int .i64 K2, .string S2, .slice a2 R2.length c2, .int .i64 p2] 24) := fun W bW => ⟨(bW.block _ (Array.getElem?_eq_some_iff.1 g1).1).trans g1, (bW.block _ (Array.getElem?_eq_some_iff.1 g2).1).trans g2⟩
  have HFQ := hideR FQ
  clear FQ g1 g2
  obtain ⟨g1, g2⟩ := unhideR HFQ _ b14
  obtain ⟨q0, q1, q2, q3⟩ := (cells4 g1).1
  obtain ⟨y0, y1, y2, y3⟩ := (cells4 g2).1
  clear g1 g2
  go_wp2_with fail
  refine (unhideR CM2 _ B4).mono ?_
  rintro e w5 ⟨rfl, b5⟩
  clear CM2 q0 q1 q2 q3 y0 y1 y2 y3
  have b15 := bthen b14 b5
  have B5 := bthen B4 b5
  obtain ⟨g1, g2⟩ := unhideR HFQ _ b15
  obtain ⟨q0, q1, q2, q3⟩ := (cells4 g1).1
  obtain ⟨y0, y1, y2, y3⟩ := (cells4 g2).1
  clear g1 g2
  go_wp2_with fail
  refine (unhideR CS2 _ B5).mono ?_
  rintro e w6 ⟨rfl, b6⟩
  clear CS2 q0 q1 q2 q3 y0 y1 y2 y3
  have b16 := bthen b15 b6
  have BB := bthen B5 b6
  obtain ⟨g1, g2⟩ := unhideR HFQ _ b16
  obtain ⟨q0, q1, q2, q3⟩ := (cells4 g1).1
  obtain ⟨y0, y1, y2, y3⟩ := (cells4 g2).1
  clear g1 g2 HFQ b1 b2 b3 b4 b5 b6 b13 b14 b15 b16 BA B3 B4 B5
  go_wp2_with fail
  refine wp_region_held_drew (S := (fun w' => w'.cell? ⟨w.heap.size, 0, none⟩ = some (.int .i64 K) ∧ w'.cell? ⟨w.heap.size, 1, none⟩ = some (.string S) ∧ w'.cell? ⟨w.heap.size, 2, none⟩ = some (.slice a R.length c) ∧ w'.cell? ⟨w.heap.size, 3, none⟩ = some (.int .i64 p) ∧ w'.cell? ⟨w.heap.size + 1, 0, none⟩ = some (.int .i64 K2) ∧ w'.cell? ⟨w.heap.size + 1, 1, none⟩ = some (.string S2) ∧ w'.cell? ⟨w.heap.size + 1, 2, none⟩ = some (.slice a2 R2.length c2) ∧ w'.cell? ⟨w.heap.size + 1, 3, none⟩ = some (.int .i64 p2))) (by kernel_rfl) (⟨q0, q1, q2, q3, y0, y1, y2, y3⟩) (fun hHeld => ?_)
  refine wpAnyH_take (i := 0) (v := ?_) rfl (by kernel_rfl) (by kernel_rfl) (by kernel_rfl) (fun _ _ _ h => h) (Or.inl ⟨by kernel_rfl, ?_⟩) (by assumption) ?_
  rotate_left
  · intro w hSw; (try dsimp only at hSw); go_simp; (try with_reducible rfl)
  try simp only [Act.put, List.getElem_toArray, List.getElem_cons_succ, List.getElem_cons_zero, List.setIfInBounds_toArray, List.set_cons_zero, List.set_cons_succ]
  refine wpAnyH_take (i := 1) (v := ?_) rfl (by kernel_rfl) (by kernel_rfl) (by kernel_rfl) (fun _ _ _ h => h) (Or.inl ⟨by kernel_rfl, ?_⟩) (by assumption) ?_
  rotate_left
  · intro w hSw; (try dsimp only at hSw); go_simp; (try with_reducible rfl)
  try simp only [Act.put, List.getElem_toArray, List.getElem_cons_succ, List.getElem_cons_zero, List.setIfInBounds_toArray, List.set_cons_zero, List.set_cons_succ]
  refine wpAnyH_take (i := 2) (v := ?_) rfl (by kernel_rfl) (by kernel_rfl) (by kernel_rfl) (fun _ _ _ h => h) (Or.inl ⟨by kernel_rfl, ?_⟩) (by assumption) ?_
  rotate_left
  · intro w hSw; (try dsimp only at hSw); go_simp; (try with_reducible rfl)
  try simp only [Act.put, List.getElem_toArray, List.getElem_cons_succ, List.getElem_cons_zero, List.setIfInBounds_toArray, List.set_cons_zero, List.set_cons_succ]
  refine wpAnyH_take (i := 3) (v := ?_) rfl (by kernel_rfl) (by kernel_rfl) (by kernel_rfl) (fun _ _ _ h => h) (Or.inl ⟨by kernel_rfl, ?_⟩) (by assumption) ?_
  rotate_left
  · intro w hSw; (try dsimp only at hSw); go_simp; (try with_reducible rfl)
  try simp only [Act.put, List.getElem_toArray, List.getElem_cons_succ, List.getElem_cons_zero, List.setIfInBounds_toArray, List.set_cons_zero, List.set_cons_succ]
  refine wpAnyH_take (i := 4) (v := ?_) rfl (by kernel_rfl) (by kernel_rfl) (by kernel_rfl) (fun _ _ _ h => h) (Or.inl ⟨by kernel_rfl, ?_⟩) (by assumption) ?_
  rotate_left
  · intro w hSw; (try dsimp only at hSw); go_simp; (try with_reducible rfl)
  try simp only [Act.put, List.getElem_toArray, List.getElem_cons_succ, List.getElem_cons_zero, List.setIfInBounds_toArray, List.set_cons_zero, List.set_cons_succ]
  refine wpAnyH_take (i := 5) (v := ?_) rfl (by kernel_rfl) (by kernel_rfl) (by kernel_rfl) (fun _ _ _ h => h) (Or.inl ⟨by kernel_rfl, ?_⟩) (by assumption) ?_
  rotate_left
  · intro w hSw; (try dsimp only at hSw); go_simp; (try with_reducible rfl)
  try simp only [Act.put, List.getElem_toArray, List.getElem_cons_succ, List.getElem_cons_zero, List.setIfInBounds_toArray, List.set_cons_zero, List.set_cons_succ]
  refine wpAnyH_take (i := 6) (v := ?_) rfl (by kernel_rfl) (by kernel_rfl) (by kernel_rfl) (fun _ _ _ h => h) (Or.inl ⟨by kernel_rfl, ?_⟩) (by assumption) ?_
  rotate_left
  · intro w hSw; (try dsimp only at hSw); go_simp; (try with_reducible rfl)
  try simp only [Act.put, List.getElem_toArray, List.getElem_cons_succ, List.getElem_cons_zero, List.setIfInBounds_toArray, List.set_cons_zero, List.set_cons_succ]
  refine wpAnyH_take (i := 7) (v := ?_) rfl (by kernel_rfl) (by kernel_rfl) (by kernel_rfl) (fun _ _ _ h => h) (Or.inl ⟨by kernel_rfl, ?_⟩) (by assumption) ?_
  rotate_left
  · intro w hSw; (try dsimp only at hSw); go_simp; (try with_reducible rfl)
  try simp only [Act.put, List.getElem_toArray, List.getElem_cons_succ, List.getElem_cons_zero, List.setIfInBounds_toArray, List.set_cons_zero, List.set_cons_succ]
  refine wpAnyH_take (i := 8) (v := ?_) rfl (by kernel_rfl) (by kernel_rfl) (by kernel_rfl) (fun _ _ _ h => h) (Or.inl ⟨by kernel_rfl, ?_⟩) (by assumption) ?_
  rotate_left
  · intro w hSw; (try dsimp only at hSw); go_simp; (try with_reducible rfl)
  try simp only [Act.put, List.getElem_toArray, List.getElem_cons_succ, List.getElem_cons_zero, List.setIfInBounds_toArray, List.set_cons_zero, List.set_cons_succ]
  refine wpAnyH_take (i := 9) (v := ?_) rfl (by kernel_rfl) (by kernel_rfl) (by kernel_rfl) (fun _ _ _ h => h) (Or.inl ⟨by kernel_rfl, ?_⟩) (by assumption) ?_
  rotate_left
  · intro w hSw; (try dsimp only at hSw); go_simp; (try with_reducible rfl)
  try simp only [Act.put, List.getElem_toArray, List.getElem_cons_succ, List.getElem_cons_zero, List.setIfInBounds_toArray, List.set_cons_zero, List.set_cons_succ]
  refine wpAnyH_take (i := 10) (v := ?_) rfl (by kernel_rfl) (by kernel_rfl) (by kernel_rfl) (fun _ _ _ h => h) (Or.inl ⟨by kernel_rfl, ?_⟩) (by assumption) ?_
  rotate_left
  · intro w hSw; (try dsimp only at hSw); go_simp; (try with_reducible rfl)
  try simp only [Act.put, List.getElem_toArray, List.getElem_cons_succ, List.getElem_cons_zero, List.setIfInBounds_toArray, List.set_cons_zero, List.set_cons_succ]
  refine wpAnyH_take (i := 11) (v := ?_) rfl (by kernel_rfl) (by kernel_rfl) (by kernel_rfl) (fun _ _ _ h => h) (Or.inl ⟨by kernel_rfl, ?_⟩) (by assumption) ?_
  rotate_left
  · intro w hSw; (try dsimp only at hSw); go_simp; (try with_reducible rfl)
  try simp only [Act.put, List.getElem_toArray, List.getElem_cons_succ, List.getElem_cons_zero, List.setIfInBounds_toArray, List.set_cons_zero, List.set_cons_succ]
  refine wpAnyH_take (i := 12) (v := ?_) rfl (by kernel_rfl) (by kernel_rfl) (by kernel_rfl) (fun _ _ _ h => h) (Or.inl ⟨by kernel_rfl, ?_⟩) (by assumption) ?_
  rotate_left
  · intro w hSw; (try dsimp only at hSw); go_simp; (try with_reducible rfl)
  try simp only [Act.put, List.getElem_toArray, List.getElem_cons_succ, List.getElem_cons_zero, List.setIfInBounds_toArray, List.set_cons_zero, List.set_cons_succ]
  refine wpAnyH_take (i := 14) (v := ?_) rfl (by kernel_rfl) (by kernel_rfl) (by kernel_rfl) (fun _ _ _ h => h) (Or.inl ⟨by kernel_rfl, ?_⟩) (by assumption) ?_
  rotate_left
  · intro w hSw; (try dsimp only at hSw); go_simp; (try with_reducible rfl)
  try simp only [Act.put, List.getElem_toArray, List.getElem_cons_succ, List.getElem_cons_zero, List.setIfInBounds_toArray, List.set_cons_zero, List.set_cons_succ]
  refine wpAnyH_ready (rs := [13]) (by kernel_rfl) (by simp) ?_
  refine AllReadyH.cons rfl (fun K hK => ?_) AllReadyH.nil
  go_simp
  refine (unhideR CM _ (BB.trans draws_b)).mono ?_; rintro e x1 ⟨rfl, d1⟩
  go_wp2_with fail
  refine hK.out _ _ (by obtain ⟨h0, h1, h2, h3, h4, h5, h6, h7⟩ := hHeld; exact ⟨keep_c d1 rfl h0, keep_c d1 rfl h1, keep_c d1 rfl h2, keep_c d1 rfl h3, keep_c d1 rfl h4, keep_c d1 rfl h5, keep_c d1 rfl h6, keep_c d1 rfl h7⟩) (fun hHeld => ?_)
  clear hK K
  try simp only [Act.put, List.getElem_toArray, List.getElem_cons_succ, List.getElem_cons_zero, List.setIfInBounds_toArray, List.set_cons_zero, List.set_cons_succ]
  refine wpAnyH_take (i := 15) (v := ?_) rfl (by kernel_rfl) (by kernel_rfl) (by kernel_rfl) (fun _ _ _ h => h) (Or.inl ⟨by kernel_rfl, ?_⟩) (by assumption) ?_
  rotate_left
  · intro w hSw; (try dsimp only at hSw); go_simp; (try with_reducible rfl)
  try simp only [Act.put, List.getElem_toArray, List.getElem_cons_succ, List.getElem_cons_zero, List.setIfInBounds_toArray, List.set_cons_zero, List.set_cons_succ]
  refine wpAnyH_take (i := 16) (v := ?_) rfl (by kernel_rfl) (by kernel_rfl) (by kernel_rfl) (fun _ _ _ h => h) (Or.inl ⟨by kernel_rfl, ?_⟩) (by assumption) ?_
  rotate_left
  · intro w hSw; (try dsimp only at hSw); go_simp; (try with_reducible rfl)
  try simp only [Act.put, List.getElem_toArray, List.getElem_cons_succ, List.getElem_cons_zero, List.setIfInBounds_toArray, List.set_cons_zero, List.set_cons_succ]
  refine wpAnyH_take (i := 17) (v := ?_) rfl (by kernel_rfl) (by kernel_rfl) (by kernel_rfl) (fun _ _ _ h => h) (Or.inl ⟨by kernel_rfl, ?_⟩) (by assumption) ?_
  rotate_left
  · intro w hSw; (try dsimp only at hSw); go_simp; (try with_reducible rfl)
  try simp only [Act.put, List.getElem_toArray, List.getElem_cons_succ, List.getElem_cons_zero, List.setIfInBounds_toArray, List.set_cons_zero, List.set_cons_succ]
  refine wpAnyH_take (i := 18) (v := ?_) rfl (by kernel_rfl) (by kernel_rfl) (by kernel_rfl) (fun _ _ _ h => h) (Or.inl ⟨by kernel_rfl, ?_⟩) (by assumption) ?_
  rotate_left
  · intro w hSw; (try dsimp only at hSw); go_simp; (try with_reducible rfl)
  try simp only [Act.put, List.getElem_toArray, List.getElem_cons_succ, List.getElem_cons_zero, List.setIfInBounds_toArray, List.set_cons_zero, List.set_cons_succ]
  refine wpAnyH_take (i := 20) (v := ?_) rfl (by kernel_rfl) (by kernel_rfl) (by kernel_rfl) (fun _ _ _ h => h) (Or.inl ⟨by kernel_rfl, ?_⟩) (by assumption) ?_
  rotate_left
  · intro w hSw; (try dsimp only at hSw); go_simp; (try with_reducible rfl)
  try simp only [Act.put, List.getElem_toArray, List.getElem_cons_succ, List.getElem_cons_zero, List.setIfInBounds_toArray, List.set_cons_zero, List.set_cons_succ]
  refine wpAnyH_ready (rs := [19]) (by kernel_rfl) (by simp) ?_
  refine AllReadyH.cons rfl (fun K hK => ?_) AllReadyH.nil
  go_simp
  refine (unhideR CT _ (bthen BB (bthen draws_b d1))).mono ?_; rintro e x2 ⟨rfl, d2⟩
  go_wp2_with fail
  refine hK.out _ _ (by obtain ⟨h0, h1, h2, h3, h4, h5, h6, h7⟩ := hHeld; exact ⟨keep_c d2 rfl h0, keep_c d2 rfl h1, keep_c d2 rfl h2, keep_c d2 rfl h3, keep_c d2 rfl h4, keep_c d2 rfl h5, keep_c d2 rfl h6, keep_c d2 rfl h7⟩) (fun hHeld => ?_)
  clear hK K
  try simp only [Act.put, List.getElem_toArray, List.getElem_cons_succ, List.getElem_cons_zero, List.setIfInBounds_toArray, List.set_cons_zero, List.set_cons_succ]
  refine wpAnyH_ready (rs := [21]) (by kernel_rfl) (by simp) ?_
  refine AllReadyH.cons rfl (fun K hK => ?_) AllReadyH.nil
  go_simp
  refine (unhideR CT2 _ (bthen BB (bthen (bthen draws_b d1) d2))).mono ?_; rintro e x3 ⟨rfl, d3⟩
  go_wp2_with fail
  refine hK.out _ _ (by obtain ⟨h0, h1, h2, h3, h4, h5, h6, h7⟩ := hHeld; exact ⟨keep_c d3 rfl h0, keep_c d3 rfl h1, keep_c d3 rfl h2, keep_c d3 rfl h3, keep_c d3 rfl h4, keep_c d3 rfl h5, keep_c d3 rfl h6, keep_c d3 rfl h7⟩) (fun hHeld => ?_)
  clear hK K
  try simp only [Act.put, List.getElem_toArray, List.getElem_cons_succ, List.getElem_cons_zero, List.setIfInBounds_toArray, List.set_cons_zero, List.set_cons_succ]
  refine wpAnyH_take (i := 22) (v := ?_) rfl (by kernel_rfl) (by kernel_rfl) (by kernel_rfl) (fun _ _ _ h => h) (Or.inl ⟨by kernel_rfl, ?_⟩) (by assumption) ?_
  rotate_left
  · intro w hSw; (try dsimp only at hSw); go_simp; (try with_reducible rfl)
  try simp only [Act.put, List.getElem_toArray, List.getElem_cons_succ, List.getElem_cons_zero, List.setIfInBounds_toArray, List.set_cons_zero, List.set_cons_succ]
  refine wpAnyH_take (i := 23) (v := ?_) rfl (by kernel_rfl) (by kernel_rfl) (by kernel_rfl) (fun _ _ _ h => h) (Or.inl ⟨by kernel_rfl, ?_⟩) (by assumption) ?_
  rotate_left
  · intro w hSw; (try dsimp only at hSw); go_simp; (try with_reducible rfl)
  try simp only [Act.put, List.getElem_toArray, List.getElem_cons_succ, List.getElem_cons_zero, List.setIfInBounds_toArray, List.set_cons_zero, List.set_cons_succ]
  refine wpAnyH_take (i := 24) (v := ?_) rfl (by kernel_rfl) (by kernel_rfl) (by kernel_rfl) (fun _ _ _ h => h) (Or.inl ⟨by kernel_rfl, ?_⟩) (by assumption) ?_
  rotate_left
  · intro w hSw; (try dsimp only at hSw); go_simp; (try with_reducible rfl)
  try simp only [Act.put, List.getElem_toArray, List.getElem_cons_succ, List.getElem_cons_zero, List.setIfInBounds_toArray, List.set_cons_zero, List.set_cons_succ]
  refine wpAnyH_take (i := 25) (v := ?_) rfl (by kernel_rfl) (by kernel_rfl) (by kernel_rfl) (fun _ _ _ h => h) (Or.inl ⟨by kernel_rfl, ?_⟩) (by assumption) ?_
  rotate_left
  · intro w hSw; (try dsimp only at hSw); go_simp; (try with_reducible rfl)
  try simp only [Act.put, List.getElem_toArray, List.getElem_cons_succ, List.getElem_cons_zero, List.setIfInBounds_toArray, List.set_cons_zero, List.set_cons_succ]
  refine wpAnyH_take (i := 26) (v := ?_) rfl (by kernel_rfl) (by kernel_rfl) (by kernel_rfl) (fun _ _ _ h => h) (Or.inl ⟨by kernel_rfl, ?_⟩) (by assumption) ?_
  rotate_left
  · intro w hSw; (try dsimp only at hSw); go_simp; (try with_reducible rfl)
  try simp only [Act.put, List.getElem_toArray, List.getElem_cons_succ, List.getElem_cons_zero, List.setIfInBounds_toArray, List.set_cons_zero, List.set_cons_succ]
  refine wpAnyH_take (i := 28) (v := ?_) rfl (by kernel_rfl) (by kernel_rfl) (by kernel_rfl) (fun _ _ _ h => h) (Or.inl ⟨by kernel_rfl, ?_⟩) (by assumption) ?_
  rotate_left
  · intro w hSw; (try dsimp only at hSw); go_simp; (try with_reducible rfl)
  try simp only [Act.put, List.getElem_toArray, List.getElem_cons_succ, List.getElem_cons_zero, List.setIfInBounds_toArray, List.set_cons_zero, List.set_cons_succ]
  refine wpAnyH_ready (rs := [27]) (by kernel_rfl) (by simp) ?_
  refine AllReadyH.cons rfl (fun K hK => ?_) AllReadyH.nil
  go_simp
  refine (unhideR CS _ (bthen BB (bthen (bthen (bthen draws_b d1) d2) d3))).mono ?_; rintro e x4 ⟨rfl, d4⟩
  go_wp2_with fail
  refine hK.out _ _ (by obtain ⟨h0, h1, h2, h3, h4, h5, h6, h7⟩ := hHeld; exact ⟨keep_c d4 rfl h0, keep_c d4 rfl h1, keep_c d4 rfl h2, keep_c d4 rfl h3, keep_c d4 rfl h4, keep_c d4 rfl h5, keep_c d4 rfl h6, keep_c d4 rfl h7⟩) (fun hHeld => ?_)
  clear hK K
  try simp only [Act.put, List.getElem_toArray, List.getElem_cons_succ, List.getElem_cons_zero, List.setIfInBounds_toArray, List.set_cons_zero, List.set_cons_succ]
  refine wpAnyH_take (i := 29) (v := ?_) rfl (by kernel_rfl) (by kernel_rfl) (by kernel_rfl) (fun _ _ _ h => h) (Or.inl ⟨by kernel_rfl, ?_⟩) (by assumption) ?_
  rotate_left
  · intro w hSw; (try dsimp only at hSw); go_simp; (try with_reducible rfl)
  try simp only [Act.put, List.getElem_toArray, List.getElem_cons_succ, List.getElem_cons_zero, List.setIfInBounds_toArray, List.set_cons_zero, List.set_cons_succ]
  refine wpAnyH_take (i := 30) (v := ?_) rfl (by kernel_rfl) (by kernel_rfl) (by kernel_rfl) (fun _ _ _ h => h) (Or.inl ⟨by kernel_rfl, ?_⟩) (by assumption) ?_
  rotate_left
  · intro w hSw; (try dsimp only at hSw); go_simp; (try with_reducible rfl)
  try simp only [Act.put, List.getElem_toArray, List.getElem_cons_succ, List.getElem_cons_zero, List.setIfInBounds_toArray, List.set_cons_zero, List.set_cons_succ]
  refine wpAnyH_take (i := 31) (v := ?_) rfl (by kernel_rfl) (by kernel_rfl) (by kernel_rfl) (fun _ _ _ h => h) (Or.inl ⟨by kernel_rfl, ?_⟩) (by assumption) ?_
  rotate_left
  · intro w hSw; (try dsimp only at hSw); go_simp; (try with_reducible rfl)
  try simp only [Act.put, List.getElem_toArray, List.getElem_cons_succ, List.getElem_cons_zero, List.setIfInBounds_toArray, List.set_cons_zero, List.set_cons_succ]
  refine wpAnyH_done (by kernel_rfl) ?_ _
  clear CM CT CT2 CS q0 q1 q2 q3 y0 y1 y2 y3
  go_wp2_with fail
  go_ret
  exact ⟨retB (by first | rfl | simp), bthen BB (bthen (bthen (bthen (bthen draws_b d1) d2) d3) d4)⟩
end Go.Proofs.YtdaadeohamkoiaaGreatDoor.T

/- Slices of bytes that came in, as the row's reading tells them. -/
namespace Go.Proofs.YtdaadeohamkoiaaGreatDoor.T
open Go.ChangeShapes Go.WideShapes Go.RowKit
set_option linter.unusedVariables false

theorem bs_trod {H : Type} {enc : TypeId × Value → H} {W : World} {base : Nat} {held : Bool} {fuel : Nat} {a : Option Addr} {len cap : Nat} {x : DataW H × List MemPlace}
    (h : DataW.trod enc Tryz.prog W base (fun _ => true) held fuel 55 [.slice a len cap] = some x) : ∃ l, Bs W a len cap l ∧ (a = Option.none → cap = 0) := by
  rcases open_ints Tryz.underlying55 Tryz.underlying5 (by kernel_rfl) h with ⟨hcs, _⟩ | ⟨y, l, c, zs, hcs, _, hl, hm, hz, _, hcell, hwz⟩
  · simp at hcs
    obtain ⟨rfl, rfl, rfl⟩ := hcs
    exact ⟨_, Bs.ofRow (zs := []) (.inl ⟨rfl, rfl, rfl, rfl⟩), fun _ => rfl⟩
  · simp at hcs
    obtain ⟨rfl, rfl, rfl⟩ := hcs
    exact ⟨_, Bs.ofRow (zs := zs) (.inr ⟨_, rfl, hl, hm, by simpa using hz, hcell, hwz⟩), fun e => by cases e⟩
end Go.Proofs.YtdaadeohamkoiaaGreatDoor.T

/- A world in which the listed variables lie as the rows list them: a witness. -/
namespace Go.Proofs.YtdaadeohamkoiaaGreatDoor
open Go.ChangeShapes Go.WideShapes Go.RowKit
set_option linter.unusedVariables false

abbrev laidT : List (String × DataW Unit) := [("math/bits.deBruijn32tab", Rows.laid_math_bits_deBruijn32tab), ("math/bits.deBruijn64tab", Rows.laid_math_bits_deBruijn64tab), ("internal/strconv.uint64pow10", Rows.laid_internal_strconv_uint64pow10), ("unicode/utf8.acceptRanges", Rows.laid_unicode_utf8_acceptRanges), ("unicode/utf8.first", Rows.laid_unicode_utf8_first)]
theorem firstG : Tryz.prog.globalNamed "unicode/utf8.first" = some 2 := by kernel_rfl
theorem firstT : (Tryz.prog.globals[2]?).map (·.type) = some 218 := by kernel_rfl
set_option maxRecDepth 100000 in
theorem doorT_met (os : Os) (args : Array Value) : laidMetH Tryz.prog laidT (World.forCall ({ World.doorLaid Tryz.prog 400 os with heap := (World.doorLaid Tryz.prog 400 os).heap.setIfInBounds 2 (.cells (Pinned.utf8FirstZ.map fun (n : Nat) => Value.int .u8 (n : Int)).toArray 218) }) (fun _ _ => 0) ⟨#[], args, []⟩).memory :=
  laidMetH_of_parts3 (fuel := 8) (laidMet_of_run' 8 (by kernel_rfl) (by kernel_rfl)) (by kernel_rfl) (by kernel_rfl)
theorem gDb : Tryz.prog.globalNamed "math/bits.deBruijn64tab" = some 7 := by kernel_rfl
theorem tDb : (Tryz.prog.globals[7]?).map (·.type) = some 239 := by kernel_rfl
set_option maxRecDepth 100000 in
theorem db_of_laid {W : World} (h : laidMetH Tryz.prog laidT W) : T.Db W := by
  rw [MakeChecks.laidMetH_plain _ _ _ (by kernel_rfl)] at h
  obtain ⟨ps, hv, _⟩ := h
  obtain ⟨_, _, _, _, _, _, _, _, _, _, hv, _⟩ := hv
  obtain ⟨g, t, cs, fuel, p, q, hg, ht, hvar, hd, _, _⟩ := hv
  obtain rfl := Option.some.inj (gDb.symm.trans hg)
  obtain rfl := Option.some.inj (tDb.symm.trans ht)
  have c1 : Tryz.prog.cellsOf 5 = 1 := by kernel_rfl
  have ca : Tryz.prog.cellsOf 239 = 64 := by kernel_rfl
  obtain ⟨xs, m, rfl, hx, hlen, hn, hel⟩ := DataW.trod_array Tryz.underlying239 hd
  have e := hel 15 (by decide)
  rw [c1, Nat.mul_one] at e
  rw [ca] at hlen
  have h15 : 15 < cs.toList.length := by omega
  rw [List.drop_eq_getElem_cons h15, List.take_succ_cons, List.take_zero] at e
  have hx1 := congrArg Prod.fst hx
  simp only at hx1
  unfold Rows.laid_math_bits_deBruijn64tab at hx1
  injection hx1 with hx1
  have hx2 := congrArg (fun l => l[15]?) hx1
  simp only [List.getElem?_map] at hx2
  rw [← e] at hx2
  generalize he : DataW.trod (fun _ => ()) Tryz.prog W 0 (fun _ => true) false m 5 [cs.toList[15]] = r at hx2
  cases r with
  | none => cases hx2
  | some x =>
    obtain ⟨z, e1, e2, _⟩ := DataW.trod_int Tryz.underlying5 he
    simp at e1
    have hz : DataW.lit (H := Unit) (.int .u8 4) = x.1 := Option.some.inj hx2
    rw [e2] at hz
    injection hz with hz
    injection hz with _ hz
    subst hz
    simp only [World.var?, gDb, Option.bind_some] at hvar
    split at hvar
    · next cs' t' fr he' =>
      injection hvar with hvar
      subst hvar
      unfold T.Db
      simp only [World.cell?, he']
      rw [Array.getElem?_eq_getElem (by simpa using h15)]
      simpa using e1
    · cases hvar
end Go.Proofs.YtdaadeohamkoiaaGreatDoor

/- A slice of ranges that came in, as the row's reading tells it. -/
namespace Go.Proofs.YtdaadeohamkoiaaGreatDoor
open Go.RowKit Go.Deep
set_option linter.unusedVariables false

theorem fits_wf {n : Int} (h : (Lit.int .i64 n).wf = true) : fits n := by
  have := bounds_i64 h
  unfold fits; omega

theorem Rs.ofTrod {H : Type} {enc : TypeId × Value → H} {W : World} {base : Nat} {spare : Nat → Bool} {held : Bool} {fuel : Nat} {a : Option Addr} {len cap : Nat} {x : DataW H × List MemPlace}
    (h : DataW.trod enc Tryz.prog W base spare held fuel 22 [.slice a len cap] = some x) : ∃ L, Rs W a len cap L := by
  rcases open_slice_pairs Tryz.underlying22 Tryz.underlying54 (by kernel_rfl) rfl rfl (by kernel_rfl) (by kernel_rfl) h with ⟨hc, -⟩ | ⟨ad, l, c, m, n, V0, V1, D0, D1, P0, P1, hc, -, hl, hm, hmm, -, hall⟩
  · simp at hc
    obtain ⟨rfl, rfl, rfl⟩ := hc
    exact ⟨[], Rs.nil W⟩
  · simp at hc
    obtain ⟨rfl, rfl, rfl⟩ := hc
    have hlm : len ≤ m := by rw [hmm]; split <;> omega
    have one : ∀ i, i < len → ∃ p q, V0 i = .int .i64 p ∧ V1 i = .int .i64 q ∧ fits p ∧ fits q := by
      intro i hi
      obtain ⟨-, -, t0, t1⟩ := hall i (by omega)
      obtain ⟨p, e0, -, w0⟩ := DataW.trod_int Tryz.underlying3 t0
      obtain ⟨q, e1, -, w1⟩ := DataW.trod_int Tryz.underlying3 t1
      simp at e0 e1
      exact ⟨p, q, e0, e1, fits_wf w0, fits_wf w1⟩
    refine ⟨(List.range len).map fun i => (intOf (V0 i), intOf (V1 i)), by simp, hl, hm, fun r hr => ?_, fun i hi => ?_⟩
    · simp only [List.mem_map, List.mem_range] at hr
      obtain ⟨i, hi, rfl⟩ := hr
      obtain ⟨p, q, e0, e1, f0, f1⟩ := one i hi
      rw [e0, e1]; exact ⟨f0, f1⟩
    · obtain ⟨p, q, e0, e1, f0, f1⟩ := one i hi
      obtain ⟨c0, c1, -, -⟩ := hall i (by omega)
      obtain ⟨b, off, spot⟩ := ad
      have hspot : spot = none := by simpa [Addr.add] using World.cell?_spot (hall 0 (by omega)).1
      subst hspot
      rw [Addr.add_lit] at c0 c1
      have eL : ((List.range len).map fun i => (intOf (V0 i), intOf (V1 i))).getD i (0, 0) = (intOf (V0 i), intOf (V1 i)) := by simp [List.getD, hi]
      rw [eL]
      refine ⟨b, off, rfl, ?_, ?_⟩
      · rw [c0, e0]; rfl
      · rw [← Nat.add_assoc] at c1; rw [c1, e1]; rfl

end Go.Proofs.YtdaadeohamkoiaaGreatDoor

/- A token that came in, as the row's reading tells it. -/
namespace Go.Proofs.YtdaadeohamkoiaaGreatDoor.T
open Go.ChangeShapes Go.WideShapes Go.RowKit Go.Joins
set_option linter.unusedVariables false

theorem fits_wf {n : Int} (h : (Lit.int .i64 n).wf = true) : fits n := by
  simp [Lit.wf, IntKind.min, IntKind.max, IntKind.bits, IntKind.signed] at h
  unfold fits
  omega
set_option maxRecDepth 20000 in
theorem tok_trod {H : Type} {enc : TypeId × Value → H} {W : World} {r : Reach} {b0 base : Nat} {spare : Nat → Bool} {held : Bool} {v : Value} {d : DataW H} {p : List MemPlace}
    (hv : Value.okWide Tryz.prog W r b0 24 v) (h : DataW.Trod enc Tryz.prog W base spare held 24 v d p) :
    ∃ K S a n c R q, v = .agg #[.int .i64 K, .string S, .slice a n c, .int .i64 q] ∧ fits K ∧ Rs W a n c R := by
  obtain ⟨v0, v1, v2, v3, y0, y1, y2, y3, m, rfl, -, -, h0, h1, h2, h3⟩ := open_agg4 Tryz.underlying24 (by kernel_rfl) (by kernel_rfl) hv h
  obtain ⟨K, e0, -, w0⟩ := DataW.trod_int Tryz.underlying3 h0
  obtain ⟨S, e1, -, w1⟩ := DataW.trod_string Tryz.underlying9 h1
  obtain ⟨a, n, c, e2⟩ := slice_form Tryz.underlying22 h2
  obtain ⟨q, e3, -, w3⟩ := DataW.trod_int Tryz.underlying3 h3
  simp only [List.cons.injEq, and_true] at e0 e1 e2 e3
  subst e0; subst e1; subst e2; subst e3
  obtain ⟨R, hR⟩ := Rs.ofTrod h2
  exact ⟨K, S, a, n, c, R, q, rfl, fits_wf w0, hR⟩
end Go.Proofs.YtdaadeohamkoiaaGreatDoor.T


namespace Go.Proofs.YtdaadeohamkoiaaGreatDoor.tokenTells
open Go.ChangeShapes Go.WideShapes Go.ChangeAt Go.RowKit
set_option linter.unusedVariables false

theorem own : ownKnob Tryz.prog.godebug = none := by kernel_rfl
theorem laidOut : laidOutB Tryz.prog = true := by kernel_rfl

theorem walk (a0 : ByteArray) (K1 : Int) (S1 : ByteArray) (a1 : Option Addr) (len1 cap1 : Nat) (L1 : List (Int × Int)) (q1 : Int) (K2 : Int) (S2 : ByteArray) (a2 : Option Addr) (len2 cap2 : Nat) (L2 : List (Int × Int)) (q2 : Int) (w : World) (w0 : a0.size ≤ maxLen) (f1 : fits K1) (w1 : Rs w a1 len1 cap1 L1) (f2 : fits K2) (w2 : Rs w a2 len2 cap2 L2) (hdb : T.Db w) :
    Calls Tryz.prog 3 #[.string a0, .agg #[.int .i64 K1, .string S1, .slice a1 len1 cap1, .int .i64 q1], .agg #[.int .i64 K2, .string S2, .slice a2 len2 cap2, .int .i64 q2]] w fun e w' => e = .returned (.bool true) ∧ Below w.heap.size w w' :=
  T.tokenTells_walk a0 K1 S1 a1 len1 cap1 L1 q1 K2 S2 a2 len2 cap2 L2 q2 w w0 f1 w1 f2 w2 hdb

set_option maxRecDepth 100000 in
theorem lifted (os : Os) (started : os.Started) (H : Type) (enc : TypeId × Value → H) :
    ReturnsInHanded {} Tryz.checked os 3 .any (fun w args => (Rows.tokenTellsSpec.pre enc Tryz.prog Tryz.f3 [] false w args ∧ laidMetH Tryz.prog laidT w) ∧ sizedMet enc Tryz.prog Tryz.f3 (OpenSpec.ofChange Rows.tokenTellsSpec) false w args)
      (Rows.tokenTellsSpec.post enc Tryz.prog Tryz.f3 false true false false) := by
  refine returnsInHanded_of_change_and (C := Tryz.checked) (X := fun w _ => laidMetH Tryz.prog laidT w) (fun _ _ _ hh h => h.of_heap hh) own started (by kernel_rfl) Tryz.func3
    (ChangeSpec.witness_shaped (enc := enc) (C := Tryz.checked) (os := os) (X := fun w _ => laidMetH Tryz.prog laidT w) false ({ World.doorLaid Tryz.prog 400 os with heap := (World.doorLaid Tryz.prog 400 os).heap.setIfInBounds 2 (.cells (Pinned.utf8FirstZ.map fun (n : Nat) => Value.int .u8 (n : Int)).toArray 218) }) #[.string ⟨#[]⟩, .agg #[.int .i64 0, .string ⟨#[]⟩, .slice none 0 0, .int .i64 0], .agg #[.int .i64 0, .string ⟨#[]⟩, .slice none 0 0, .int .i64 0]] 8 rfl (World.shaped_of_RefB (by kernel_rfl) (by kernel_rfl)) (by kernel_rfl) (by kernel_rfl) (by kernel_rfl) (doorT_met os _)) ?_
  intro W base args ds gs before hval0 hW _ _ hL _
  have hval : ∀ (j : Nat) t v, Tryz.f3.params[j]? = some t → args[j]? = some v → Value.okWide Tryz.prog W .any base t v := hval0
  have hW' := hW
  obtain ⟨p, q, hA0, hV, rfl, hfz, hnd⟩ := hW
  have hA : DataW.TrodAll enc Tryz.prog W 0 (fun _ => true) true Tryz.f3.params.toList args.toList ds p := hA0
  rw [Tryz.params3] at hA hval
  obtain ⟨v0, vs0, d0, ds0, p0, q0, hargs, rfl, rfl, h0, r0⟩ := trodAll_cons hA
  obtain ⟨v1, vs1, d1, ds1, p1, q1, rfl, rfl, rfl, h1, r1⟩ := trodAll_cons r0
  obtain ⟨v2, vs2, d2, ds2, p2, q2, rfl, rfl, rfl, h2, r2⟩ := trodAll_cons r1
  obtain ⟨rfl, rfl, rfl⟩ := trodAll_nil r2
  obtain rfl : args = #[v0, v1, v2] := by cases args; simp_all
  obtain ⟨rfl, rfl⟩ := trodVars_none hV
  obtain ⟨a0, rfl, rfl, rfl, w0⟩ := Go.ChangeMaps.open_string Tryz.underlying9 (hval 0 9 v0 rfl rfl) h0
  have k1 := h1
  have lt1 : ∀ x ∈ p1, x.block < W.heap.size := by obtain ⟨m, hm⟩ := k1; exact DataW.trod_lt m _ _ _ hm
  obtain ⟨K1, S1, a1, len1, cap1, L1, q1, rfl, f1, w1⟩ := T.tok_trod (hval 1 24 v1 rfl rfl) h1
  have k2 := h2
  have lt2 : ∀ x ∈ p2, x.block < W.heap.size := by obtain ⟨m, hm⟩ := k2; exact DataW.trod_lt m _ _ _ hm
  obtain ⟨K2, S2, a2, len2, cap2, L2, q2, rfl, f2, w2⟩ := T.tok_trod (hval 2 24 v2 rfl rfl) h2
  clear hA0 hval0
  refine (walk a0 K1 S1 a1 len1 cap1 L1 q1 K2 S2 a2 len2 cap2 L2 q2 W w0 f1 w1 f2 w2 (db_of_laid hL)).mono fun e W' ⟨he, bel⟩ => ?_
  subst he
  exact ⟨_, rfl, _, _, _, [], _, [], hW', trodAll_mk1 (shut_bool Tryz.underlying4 _), (trodAll_cons_mk (Go.ChangeMaps.shut_string Tryz.underlying9 w0) (trodAll_cons_mk (Below.trod laidOut (by kernel_rfl) (of_decide_eq_true (by kernel_rfl)) k1 bel lt1) (trodAll_cons_mk (Below.trod laidOut (by kernel_rfl) (of_decide_eq_true (by kernel_rfl)) k2 bel lt2) trodAll_mk0))), rfl, bel.frame _, fun h => by cases h⟩

theorem over : Rows.TokenTellsSaid :=
  OpenClaim.holds_of_wide 3 Tryz.f3 rfl rfl rfl rfl rfl rfl rfl ⟨rfl, rfl, rfl, rfl, rfl⟩ rfl rfl rfl rfl rfl (by kernel_rfl) Tryz.func3 (by kernel_rfl)
    (of_decide_eq_true (by kernel_rfl)) (by unfold Func.isWrapper; first | (rw [if_pos (by decide +kernel)]; kernel_rfl) | (rw [if_neg (by decide +kernel)]; exact ⟨rfl, rfl⟩))
    (fun os started H enc _ => lifted os started H enc)

theorem proved : Rows.TokenTellsCardSaid :=
  Claim7.holds_tied_plain_at .later [] [.data, .data, .data, .data, .pinned] true (true, "655103ff55cdd4a261404efaa4c921623f2c694facfedfc14bb24b834b94ba01") true
    over (fun _ h => by cases h) (by kernel_rfl) (fun _ h => by cases h) tokenTells_row_tie rfl ⟨rfl, rfl⟩ (by kernel_rfl) rfl
    (fun f fn hf hfn => by
      obtain rfl : f = 3 := Option.some.inj ((show Tryz.prog.funcNamed "exegete/exegetelaw05.TokenTells" = some 3 by kernel_rfl).symm.trans hf) |>.symm
      obtain rfl : fn = Tryz.f3 := (Option.some.inj (Tryz.func3.symm.trans hfn)).symm
      exact ⟨by kernel_rfl, fun j t ht => by
        rw [Tryz.params3] at ht
        have hm : t ∈ [9, 24, 24] := by simpa using Array.mem_of_getElem? ht
        have hall : ([9, 24, 24].all fun u => !Tryz.prog.wantsStandIn u) = true := by kernel_rfl
        exact (show Tryz.prog.wantsStandIn t = false by simpa using List.all_eq_true.1 hall t hm)⟩)
    (by kernel_rfl)
end Go.Proofs.YtdaadeohamkoiaaGreatDoor.tokenTells

namespace Go.Proofs.YtdaadeohamkoiaaGreatDoor
theorem tokenTells_holds : Rows.TokenTellsCardSaid := tokenTells.proved
end Go.Proofs.YtdaadeohamkoiaaGreatDoor
