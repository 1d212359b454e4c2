/- Contracts of package token: ranges, as text. -/
import Derived.Test.YtlofickahemlfaaGreatDoorTkP
namespace Go.Proofs.YtlofickahemlfaaGreatDoor.T
open Go.RowKit
set_option linter.unusedVariables false
set_option linter.unusedSimpArgs false

/-! ### A builder that the call has made, holding these bytes -/
def Bd (w : World) (B b : Nat) (l : List Int) : Prop := Lib.IsBuilderF 95 5 B b (Lib.byteCells (Lib.bytesOf l)) w
theorem Bd.new (w : World) : Bd (w.alloc (.cells #[.pointer none, .slice none 0 0] 95)) w.heap.size w.heap.size [] := Lib.IsBuilderF.of (Lib.fresh_isBuilder _ _ w)
theorem atf_later {T e : TypeId} {B b : Nat} {p : Value} {bs : List Value} {w w' : World} (h : Lib.BuilderAtF T e B b p bs w) (hb : Below w.heap.size w w') : Lib.BuilderAtF T e B b p bs w' := by
  have hlt := h.lt
  obtain ⟨hB, v, h1, hown, hne⟩ := h
  exact ⟨hB, v, (hb.block b hlt).trans h1, hown.kept (show w.grownBy w' none from ⟨hb.os, hb.tape, hb.output, hb.size, fun k hk _ => hb.block k hk⟩) (by cases hv : v.ownBlock <;> simp), hne⟩
theorem Bd.later {w w' : World} {B b : Nat} {l : List Int} (h : Bd w B b l) (hb : Below w.heap.size w w') : Bd w' B b l := h.elim (fun x => .inl (atf_later x hb)) (fun x => .inr (atf_later x hb))
theorem bytes_cells (l : List Int) (h : U.isBytes l) : Lib.byteCells (Lib.bytesOf l) = l.map (Value.int .u8) := by
  unfold Lib.byteCells Lib.bytesOf
  rw [List.map_map]
  refine List.map_congr_left fun z hz => ?_
  have := h z hz
  simp [UInt8.toNat_ofNat']
  omega
theorem str_cells {s : ByteArray} {p : List Int} (h : St s p) : Lib.strCells s = Lib.byteCells (Lib.bytesOf p) := by
  unfold Lib.strCells Lib.byteCells
  rw [h.1, strOfNums_data]
  rfl
theorem bytesOf_app (a b : List Int) : Lib.bytesOf (a ++ b) = Lib.bytesOf a ++ Lib.bytesOf b := by simp [Lib.bytesOf]
theorem wbyte_l (B b : Nat) (l : List Int) (c : Int) (h0 : 0 ≤ c) (h1 : c ≤ 255) (w : World) (h : Bd w B b l) (hl : l.length ≤ 10000000) (hB : B ≤ w.heap.size) :
    Calls Tryz.prog 77 #[.pointer (some ⟨b, 0, none⟩), .int .u8 c] w fun e w' => e = .returned .nilIface ∧ Bd w' B b (l ++ [c]) ∧ Below B w w' ∧ Lib.OthersKept 5 (some b) w w' := by
  have := Any.Builder_WriteByte_k bWByte_lays bWByte_extra B b (Lib.byteCells (Lib.bytesOf l)) c w h (by rw [Lib.byteCells_length]; simp [Lib.bytesOf]; omega) hB
  refine Calls.mono this fun e w' hh => ⟨hh.1, ?_, hh.2.2.1, hh.2.2.2⟩
  refine .inr ?_
  have e1 : Lib.byteCells (Lib.bytesOf (l ++ [c])) = Lib.byteCells (Lib.bytesOf l) ++ [.int .u8 c] := by
    rw [bytesOf_app, Lib.byteCells_append]
    congr 1
    exact bytes_cells [c] (fun z hz => by simp at hz; omega)
  rw [e1]
  exact hh.2.1
theorem wstr_l (B b : Nat) (l : List Int) (s : ByteArray) (p : List Int) (hs : St s p) (w : World) (h : Bd w B b l) (hl : l.length + p.length ≤ 10000000) (hB : B ≤ w.heap.size) :
    Calls Tryz.prog 78 #[.pointer (some ⟨b, 0, none⟩), .string s] w fun e w' => e = .returned (.tuple #[.int .i64 s.size, .nilIface]) ∧ Bd w' B b (l ++ p) ∧ Below B w w' ∧ Lib.OthersKept 5 (some b) w w' := by
  have hsz := hs.size
  have := Any.Builder_WriteString_k bWStr_lays bWStr_extra B b (Lib.byteCells (Lib.bytesOf l)) s w h (by rw [Lib.byteCells_length]; simp [Lib.bytesOf]; omega) hB
  refine Calls.mono this fun e w' hh => ⟨hh.1, ?_, hh.2.2.1, hh.2.2.2⟩
  refine .inr ?_
  have e1 : Lib.byteCells (Lib.bytesOf (l ++ p)) = Lib.byteCells (Lib.bytesOf l) ++ Lib.strCells s := by
    rw [bytesOf_app, Lib.byteCells_append, str_cells hs]
  rw [e1]
  exact hh.2.1
theorem bstr_l (B b : Nat) (l : List Int) (w : World) (h : Bd w B b l) (hB : B ≤ w.heap.size) :
    Calls Tryz.prog 79 #[.pointer (some ⟨b, 0, none⟩)] w fun e w' => e = .returned (.string (strOfNums l)) ∧ Below B w w' := by
  have := Any.Builder_String_any_k bStr_lays bStr_extra B b (Lib.bytesOf l) w h hB
  exact Calls.mono this fun e w' hh => ⟨hh.1, hh.2.2.1⟩
theorem St.app {a b : ByteArray} {x y : List Int} (h : St a x) (k : St b y) : St (a ++ b) (x ++ y) := by
  refine ⟨?_, fun z hz => ?_⟩
  · have ha := h.1
    have hb := k.1
    subst ha hb
    apply ByteArray.ext
    apply Array.ext'
    rw [show (strOfNums x ++ strOfNums y).data = (strOfNums x).data ++ (strOfNums y).data from ByteArray.data_append]
    rw [Array.toList_append, strOfNums_data, strOfNums_data, strOfNums_data, List.map_append]
  · rcases List.mem_append.1 hz with h' | h'
    · exact h.2 z h'
    · exact k.2 z h'

/-! ### A scalar that stands for itself -/
set_option maxRecDepth 20000 in
set_option maxHeartbeats 2000000 in
theorem scalarT_plain (n : Int) (h : plainB n = true) (w : World) :
    Calls Tryz.prog 54 #[.int .i64 n] w fun e w' => e = .returned (.string (strOfNums [n])) ∧ Below w.heap.size w w' := by
  unfold plainB at h
  simp at h
  have h1 : seenB n = true := by simp [seenB]; omega
  have h2 : standB n = true := by simp [standB, clsB]; omega
  have hm : U.mayB n = true := (U.may_iff n).2 (by omega)
  have C1 := hideR (isSeen_l n (by omega) (by omega))
  have C2 := hideR (fun W => standsInClass_l n (.inr hm) W)
  rw [h1] at C1
  rw [h2] at C2
  have i1 : IntKind.i32.wrap n = n := by rw [IntKind.wrap_i32]; omega
  have e1 : Utf8.encode n = strOfNums [n] := by
    unfold Utf8.encode
    have hv : Utf8.valid n = true := by unfold Utf8.valid; simp; omega
    simp only [hv, if_true]
    rw [if_pos (by omega)]
    rfl
  have cv := fun W => run_convert_int_string (P := Tryz.prog) W 21 9 .i32 n (by rw [Tryz.underlying21]; rfl) Tryz.underlying9
  rw [e1] at cv
  clear hm h1 h2 e1 h
  generalize strOfNums [n] = S at *
  go_enter Tryz.func54, Tryz.ntmps54
  go_wp2_with fail
  refine (unhideR C1 _).mono ?_
  rintro e w1 ⟨rfl, hw1⟩
  obtain rfl : w = w1 := hw1.symm
  clear hw1 C1
  go_wp2_with fail
  refine (unhideR C2 _).mono ?_
  rintro e w2 ⟨rfl, b2⟩
  clear C2
  go_wp2_with fail
  go_ret
  exact ⟨rfl, b2⟩
end Go.Proofs.YtlofickahemlfaaGreatDoor.T
