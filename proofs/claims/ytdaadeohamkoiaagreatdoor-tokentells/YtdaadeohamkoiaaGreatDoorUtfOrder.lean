/- The walks of the statements UtfOrder and UtfCut. -/
import Derived.Test.YtdaadeohamkoiaaGreatDoorUtfAwake
namespace Go.Proofs.YtdaadeohamkoiaaGreatDoor
open Go.RowKit
set_option linter.unusedVariables false

theorem strLess {l m : List Int} (hl : U.isBytes l) (hm : U.isBytes m) : Op.bytesLess (strOfNums l).toList (strOfNums m).toList = true ↔ U.lessP l m := by
  rw [ByteArray.toList_eq, ByteArray.toList_eq, strOfNums_data, strOfNums_data]
  induction l generalizing m with
  | nil => cases m <;> simp [Op.bytesLess, U.lessP]
  | cons a l ih => cases m with
    | nil => simp [Op.bytesLess, U.lessP]
    | cons b m =>
      have ba := U.isBytes_head hl
      have bb := U.isBytes_head hm
      simp only [List.map_cons, Op.bytesLess, U.lessP, Bool.or_eq_true, Bool.and_eq_true, decide_eq_true_eq, beq_iff_eq, ih (U.isBytes_tail hl) (U.isBytes_tail hm)]
      have e1 : (UInt8.ofNat a.toNat < UInt8.ofNat b.toNat) ↔ a < b := by
        rw [UInt8.lt_iff_toNat_lt, UInt8.toNat_ofNat', UInt8.toNat_ofNat', Nat.mod_eq_of_lt (by omega), Nat.mod_eq_of_lt (by omega)]; omega
      have e2 : (UInt8.ofNat a.toNat = UInt8.ofNat b.toNat) ↔ a = b := by
        rw [← UInt8.toNat_inj, UInt8.toNat_ofNat', UInt8.toNat_ofNat', Nat.mod_eq_of_lt (by omega), Nat.mod_eq_of_lt (by omega)]; omega
      rw [e1, e2]
theorem strEq {l m : List Int} (hl : U.isBytes l) (hm : U.isBytes m) : ((strOfNums l).toList == (strOfNums m).toList) = decide (l = m) := by
  rw [ByteArray.toList_eq, ByteArray.toList_eq]
  by_cases h : l = m
  · subst h; simp only [beq_self_eq_true, decide_true]
  · have : ¬ (strOfNums l).data.toList = (strOfNums m).data.toList := by
      intro e
      apply h
      apply strOf_inj hl hm
      cases hx : strOfNums l with | mk x => cases hy : strOfNums m with | mk y =>
      rw [hx, hy] at e
      have : x = y := by cases x; cases y; simpa using e
      rw [this]
    rw [beq_eq_false_iff_ne.2 this, decide_eq_false h]

/-- what is put stays readable later -/
theorem put_bs (r : Int) (hr : U.mayB r = true) (w : World) : Bs (w.alloc (putObj r)) (some ⟨w.heap.size, 0, none⟩) (U.putL r).length (U.putL r).length (U.putL r) :=
  Bs.fresh w (U.putL r) (U.putL_bytes hr) (by have := (U.putL_len r).2; unfold maxLen; omega)

end Go.Proofs.YtdaadeohamkoiaaGreatDoor
