/- The walks of the statements UtfOrder and UtfCut. -/
import Derived.Test.YtfppnpophinniaaUtfAwake
namespace Go.Proofs.Ytfppnpophinniaa
open Go.RowKit
set_option linter.unusedVariables false

theorem strLess {l m : List Int} (hl : U.isBytes l) (hm : U.isBytes m) : Op.bytesLess (strOfNums l).toList (strOfNums m).toList = true ↔ U.lessP l m := by
  rw [ByteArray.toList_eq, ByteArray.toList_eq, strOfNums_data, strOfNums_data]
  induction l generalizing m with
  | nil => cases m <;> simp [Op.bytesLess, U.lessP]
  | cons a l ih => cases m with
    | nil => simp [Op.bytesLess, U.lessP]
    | cons b m =>
      have ba := U.isBytes_head hl
      have bb := U.isBytes_head hm
      simp only [List.map_cons, Op.bytesLess, U.lessP, Bool.or_eq_true, Bool.and_eq_true, decide_eq_true_eq, beq_iff_eq, ih (U.isBytes_tail hl) (U.isBytes_tail hm)]
      have e1 : (UInt8.ofNat a.toNat < UInt8.ofNat b.toNat) ↔ a < b := by
        rw [UInt8.lt_iff_toNat_lt, UInt8.toNat_ofNat', UInt8.toNat_ofNat', Nat.mod_eq_of_lt (by omega), Nat.mod_eq_of_lt (by omega)]; omega
      have e2 : (UInt8.ofNat a.toNat = UInt8.ofNat b.toNat) ↔ a = b := by
        rw [← UInt8.toNat_inj, UInt8.toNat_ofNat', UInt8.toNat_ofNat', Nat.mod_eq_of_lt (by omega), Nat.mod_eq_of_lt (by omega)]; omega
      rw [e1, e2]
theorem strEq {l m : List Int} (hl : U.isBytes l) (hm : U.isBytes m) : ((strOfNums l).toList == (strOfNums m).toList) = decide (l = m) := by
  rw [ByteArray.toList_eq, ByteArray.toList_eq]
  by_cases h : l = m
  · subst h; simp only [beq_self_eq_true, decide_true]
  · have : ¬ (strOfNums l).data.toList = (strOfNums m).data.toList := by
      intro e
      apply h
      apply strOf_inj hl hm
      cases hx : strOfNums l with | mk x => cases hy : strOfNums m with | mk y =>
      rw [hx, hy] at e
      have : x = y := by cases x; cases y; simpa using e
      rw [this]
    rw [beq_eq_false_iff_ne.2 this, decide_eq_false h]

/-- what is put stays readable later -/
theorem put_bs (r : Int) (hr : U.mayB r = true) (w : World) : Bs (w.alloc (putObj r)) (some ⟨w.heap.size, 0, none⟩) (U.putL r).length (U.putL r).length (U.putL r) :=
  Bs.fresh w (U.putL r) (U.putL_bytes hr) (by have := (U.putL_len r).2; unfold maxLen; omega)

set_option maxHeartbeats 1000000 in
theorem utfOrder_walk (a b : Int) (w : World) :
    Calls Try.prog 7 #[.int .i64 a, .int .i64 b] w fun e w' => e = .returned (.bool true) ∧ Below w.heap.size w w' := by
  have AW := hideC awake_any
  cases ha : U.mayB a
  · have PA := hideC (fun w => put_no a w ha)
    cases hb : U.mayB b
    · have PB := hideC (fun w => put_no b w hb)
      clear ha hb
      go_enter Try.func7, Try.ntmps7
      go_wp2_with fail
      refine (unhideC AW _).mono ?_
      rintro e w1 ⟨rfl, hb1⟩
      go_wp2_with fail
      refine (unhideC PA _).mono ?_
      rintro e w2 ⟨rfl, rfl⟩
      go_wp2_with fail
      refine (unhideC PB _).mono ?_
      rintro e w3 ⟨rfl, rfl⟩
      go_wp2_with fail
      go_ret
      exact ⟨rfl, hb1⟩
    · have PB := hideC (fun w => put_yes b w hb)
      clear ha hb
      go_enter Try.func7, Try.ntmps7
      go_wp2_with fail
      refine (unhideC AW _).mono ?_
      rintro e w1 ⟨rfl, hb1⟩
      go_wp2_with fail
      refine (unhideC PA _).mono ?_
      rintro e w2 ⟨rfl, rfl⟩
      go_wp2_with fail
      refine (unhideC PB _).mono ?_
      rintro e w3 ⟨rfl, rfl⟩
      go_wp2_with fail
      go_ret
      exact ⟨rfl, hb1.alloc hb1.size _⟩
  · have PA := hideC (fun w => put_yes a w ha)
    cases hb : U.mayB b
    · have PB := hideC (fun w => put_no b w hb)
      clear ha hb
      go_enter Try.func7, Try.ntmps7
      go_wp2_with fail
      refine (unhideC AW _).mono ?_
      rintro e w1 ⟨rfl, hb1⟩
      go_wp2_with fail
      refine (unhideC PA _).mono ?_
      rintro e w2 ⟨rfl, rfl⟩
      go_wp2_with fail
      refine (unhideC PB _).mono ?_
      rintro e w3 ⟨rfl, rfl⟩
      go_wp2_with fail
      go_ret
      exact ⟨rfl, hb1.alloc hb1.size _⟩
    · have PB := hideC (fun w => put_yes b w hb)
      have sa := fun w => (put_bs a ha w)
      have sb := fun w => (put_bs b hb w)
      have ls := (strLess (U.putL_bytes ha) (U.putL_bytes hb)).trans (U.put_less ha hb)
      have le : ¬ b < a → (U.putL a).length ≤ (U.putL b).length := fun h => U.put_len_le (by omega)
      clear ha hb
      unfold putVal at PA PB
      have la := U.putL_len a
      have lb := U.putL_len b
      have fin : ∀ bl : Bool, decide (a < b) = bl → Op.bytesLess (strOfNums (U.putL a)).toList (strOfNums (U.putL b)).toList = bl → Calls Try.prog 7 #[.int .i64 a, .int .i64 b] w fun e w' => e = .returned (.bool true) ∧ Below w.heap.size w w' := by
        intro bl e1 e2
        have cv1 : ∀ w : World, (convert 22 9 (.slice (some ⟨w.heap.size, 0, none⟩) (U.putL a).length (U.putL a).length)).run Try.prog ((w.alloc (putObj a)).alloc (putObj b)) = .ok (.string (strOfNums (U.putL a))) ((w.alloc (putObj a)).alloc (putObj b)) := fun w =>
          ((sa w).later (Below.one _) (Nat.le_refl _)).str
        have cv2 : ∀ w : World, (convert 22 9 (.slice (some ⟨w.heap.size + 1, 0, none⟩) (U.putL b).length (U.putL b).length)).run Try.prog ((w.alloc (putObj a)).alloc (putObj b)) = .ok (.string (strOfNums (U.putL b))) ((w.alloc (putObj a)).alloc (putObj b)) := fun w => by
          have := (sb (w.alloc (putObj a))).str
          simpa using this
        clear sa sb ls
        generalize (U.putL a).length = na at *
        generalize (U.putL b).length = nb at *
        generalize strOfNums (U.putL a) = sa at *
        generalize strOfNums (U.putL b) = sb at *
        generalize putObj a = oa at *
        generalize putObj b = ob at *
        by_cases hgt : b < a
        · go_enter Try.func7, Try.ntmps7
          go_wp2_with fail
          refine (unhideC AW _).mono ?_
          rintro e w1 ⟨rfl, hb1⟩
          go_wp2_with fail
          refine (unhideC PA _).mono ?_
          rintro e w2 ⟨rfl, rfl⟩
          go_wp2_with fail
          refine (unhideC PB _).mono ?_
          rintro e w3 ⟨rfl, rfl⟩
          go_wp2_with fail
          go_ret
          exact ⟨rfl, (hb1.alloc hb1.size _).alloc (by simp; have := hb1.size; omega) _⟩
        · have le' := le hgt
          clear le
          go_enter Try.func7, Try.ntmps7
          go_wp2_with fail
          refine (unhideC AW _).mono ?_
          rintro e w1 ⟨rfl, hb1⟩
          go_wp2_with fail
          refine (unhideC PA _).mono ?_
          rintro e w2 ⟨rfl, rfl⟩
          go_wp2_with fail
          refine (unhideC PB _).mono ?_
          rintro e w3 ⟨rfl, rfl⟩
          go_wp2_with fail
          go_ret
          exact ⟨rfl, (hb1.alloc hb1.size _).alloc (by simp; have := hb1.size; omega) _⟩
      by_cases hab : a < b
      · exact fin true (by simp [hab]) (ls.2 hab)
      · refine fin false (by simp [hab]) ?_
        cases hx : Op.bytesLess (strOfNums (U.putL a)).toList (strOfNums (U.putL b)).toList
        · rfl
        · exact absurd (ls.1 hx) hab

set_option maxHeartbeats 1000000 in
theorem utfCut_walk (r left : Int) (w : World) :
    Calls Try.prog 8 #[.int .i64 r, .int .i64 left] w fun e w' => e = .returned (.bool true) ∧ Below w.heap.size w w' := by
  have AW := hideC awake_any
  cases hr : U.mayB r
  · have PA := hideC (fun w => put_no r w hr)
    clear hr
    go_enter Try.func8, Try.ntmps8
    go_wp2_with fail
    refine (unhideC AW _).mono ?_
    rintro e w1 ⟨rfl, hb1⟩
    go_wp2_with fail
    refine (unhideC PA _).mono ?_
    rintro e w2 ⟨rfl, rfl⟩
    go_wp2_with fail
    go_ret
    exact ⟨rfl, hb1⟩
  · have PA := hideC (fun w => put_yes r w hr)
    unfold putVal at PA
    have la := U.putL_len r
    by_cases h1 : left < 1
    · clear hr
      generalize (U.putL r).length = na at *
      go_enter Try.func8, Try.ntmps8
      go_wp2_with fail
      refine (unhideC AW _).mono ?_
      rintro e w1 ⟨rfl, hb1⟩
      go_wp2_with fail
      refine (unhideC PA _).mono ?_
      rintro e w2 ⟨rfl, rfl⟩
      go_wp2_with fail
      go_ret
      exact ⟨rfl, hb1.alloc hb1.size _⟩
    by_cases h2 : ((U.putL r).length : Int) ≤ left
    · clear hr
      generalize (U.putL r).length = na at *
      go_enter Try.func8, Try.ntmps8
      go_wp2_with fail
      refine (unhideC AW _).mono ?_
      rintro e w1 ⟨rfl, hb1⟩
      go_wp2_with fail
      refine (unhideC PA _).mono ?_
      rintro e w2 ⟨rfl, rfl⟩
      go_wp2_with fail
      go_ret
      exact ⟨rfl, hb1.alloc hb1.size _⟩
    obtain ⟨k, rfl⟩ := Int.eq_ofNat_of_zero_le (by omega : 0 ≤ left)
    have k1 : 1 ≤ k := by omega
    have k2 : k < (U.putL r).length := by omega
    clear h1 h2
    have cut : ∀ w w' : World, Below (w.heap.size + 1) (w.alloc (putObj r)) w' → Bs w' (some ⟨w.heap.size, 0, none⟩) k (U.putL r).length ((U.putL r).take k) := by
      intro w w' hb
      have hs := (put_bs r hr w).later hb (by simp)
      refine ⟨by rw [List.length_take]; omega, by omega, hs.hmax, U.isBytes_take hs.hbytes k, fun i hi => ?_⟩
      obtain ⟨b, off, e, hc⟩ := hs.hcell i (by omega)
      exact ⟨b, off, e, by rw [hc]; simp [hi]⟩
    have n1 : nx ((U.putL r).take k) 0 = (-1, 1) := by
      unfold nx
      rw [if_neg (by rw [List.length_take]; omega)]
      exact U.cut_next hr k1 k2
    have NX := hideC (fun w w' (hb : Below (w.heap.size + 1) (w.alloc (putObj r)) w') => next_any _ _ _ _ w' (cut w w' hb) 0)
    have UN := hideC (fun w w' (hb : Below (w.heap.size + 1) (w.alloc (putObj r)) w') => units_any _ _ _ _ w' (cut w w' hb))
    rw [n1] at NX
    rw [U.cut_units hr k1 k2] at UN
    clear hr cut n1
    generalize putObj r = o at *
    generalize (U.putL r).length = na at *
    go_enter Try.func8, Try.ntmps8
    go_wp2_with fail
    refine (unhideC AW _).mono ?_
    rintro e w1 ⟨rfl, hb1⟩
    go_wp2_with fail
    refine (unhideC PA _).mono ?_
    rintro e w2 ⟨rfl, rfl⟩
    go_wp2_with fail
    refine (unhideC NX _ _ (Below.refl _ _)).mono ?_
    rintro e w3 ⟨rfl, hb3⟩
    go_wp2_with fail
    have hb3' : Below (w1.heap.size + 1) (w1.alloc o) w3 := by simpa using hb3
    refine (unhideC UN _ _ hb3').mono ?_
    rintro e w4 ⟨rfl, hb4⟩
    go_wp2_with fail
    go_ret
    have s1 := hb1.size
    have s3 := hb3'.size
    simp only [World.size_alloc] at s3
    refine ⟨rfl, (hb1.alloc s1 _).trans ((hb3'.mono (by omega)).trans (hb4.mono (by omega)))⟩
end Go.Proofs.Ytfppnpophinniaa
