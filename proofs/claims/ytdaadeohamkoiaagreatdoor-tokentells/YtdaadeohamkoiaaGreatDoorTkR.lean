/- Contracts of package token: ranges, as text. -/
import Derived.Test.YtdaadeohamkoiaaGreatDoorTkP
namespace Go.Proofs.YtdaadeohamkoiaaGreatDoor.T
open Go.RowKit
set_option linter.unusedVariables false
set_option linter.unusedSimpArgs false

/-! ### A builder that the call has made, holding these bytes -/
def Bd (w : World) (B b : Nat) (l : List Int) : Prop := Lib.IsBuilderF 81 5 B b (Lib.byteCells (Lib.bytesOf l)) w
theorem Bd.new (w : World) : Bd (w.alloc (.cells #[.pointer none, .slice none 0 0] 81)) w.heap.size w.heap.size [] := Lib.IsBuilderF.of (Lib.fresh_isBuilder _ _ w)
theorem atf_later {T e : TypeId} {B b : Nat} {p : Value} {bs : List Value} {w w' : World} (h : Lib.BuilderAtF T e B b p bs w) (hb : Below w.heap.size w w') : Lib.BuilderAtF T e B b p bs w' := by
  have hlt := h.lt
  obtain ⟨hB, v, h1, hown, hne⟩ := h
  exact ⟨hB, v, (hb.block b hlt).trans h1, hown.kept (show w.grownBy w' none from ⟨hb.os, hb.tape, hb.output, hb.size, fun k hk _ => hb.block k hk⟩) (by cases hv : v.ownBlock <;> simp), hne⟩
theorem Bd.later {w w' : World} {B b : Nat} {l : List Int} (h : Bd w B b l) (hb : Below w.heap.size w w') : Bd w' B b l := h.elim (fun x => .inl (atf_later x hb)) (fun x => .inr (atf_later x hb))
theorem bytes_cells (l : List Int) (h : U.isBytes l) : Lib.byteCells (Lib.bytesOf l) = l.map (Value.int .u8) := by
  unfold Lib.byteCells Lib.bytesOf
  rw [List.map_map]
  refine List.map_congr_left fun z hz => ?_
  have := h z hz
  simp [UInt8.toNat_ofNat']
  omega
theorem str_cells {s : ByteArray} {p : List Int} (h : St s p) : Lib.strCells s = Lib.byteCells (Lib.bytesOf p) := by
  unfold Lib.strCells Lib.byteCells
  rw [h.1, strOfNums_data]
  rfl
theorem bytesOf_app (a b : List Int) : Lib.bytesOf (a ++ b) = Lib.bytesOf a ++ Lib.bytesOf b := by simp [Lib.bytesOf]
theorem wbyte_l (B b : Nat) (l : List Int) (c : Int) (h0 : 0 ≤ c) (h1 : c ≤ 255) (w : World) (h : Bd w B b l) (hl : l.length ≤ 10000000) (hB : B ≤ w.heap.size) :
    Calls Tryz.prog 95 #[.pointer (some ⟨b, 0, none⟩), .int .u8 c] w fun e w' => e = .returned .nilIface ∧ Bd w' B b (l ++ [c]) ∧ Below B w w' ∧ Lib.OthersKept 5 (some b) w w' := by
  have := Any.Builder_WriteByte_k bWByte_lays bWByte_extra B b (Lib.byteCells (Lib.bytesOf l)) c w h (by rw [Lib.byteCells_length]; simp [Lib.bytesOf]; omega) hB
  refine Calls.mono this fun e w' hh => ⟨hh.1, ?_, hh.2.2.1, hh.2.2.2⟩
  refine .inr ?_
  have e1 : Lib.byteCells (Lib.bytesOf (l ++ [c])) = Lib.byteCells (Lib.bytesOf l) ++ [.int .u8 c] := by
    rw [bytesOf_app, Lib.byteCells_append]
    congr 1
    exact bytes_cells [c] (fun z hz => by simp at hz; omega)
  rw [e1]
  exact hh.2.1
theorem wstr_l (B b : Nat) (l : List Int) (s : ByteArray) (p : List Int) (hs : St s p) (w : World) (h : Bd w B b l) (hl : l.length + p.length ≤ 10000000) (hB : B ≤ w.heap.size) :
    Calls Tryz.prog 96 #[.pointer (some ⟨b, 0, none⟩), .string s] w fun e w' => e = .returned (.tuple #[.int .i64 s.size, .nilIface]) ∧ Bd w' B b (l ++ p) ∧ Below B w w' ∧ Lib.OthersKept 5 (some b) w w' := by
  have hsz := hs.size
  have := Any.Builder_WriteString_k bWStr_lays bWStr_extra B b (Lib.byteCells (Lib.bytesOf l)) s w h (by rw [Lib.byteCells_length]; simp [Lib.bytesOf]; omega) hB
  refine Calls.mono this fun e w' hh => ⟨hh.1, ?_, hh.2.2.1, hh.2.2.2⟩
  refine .inr ?_
  have e1 : Lib.byteCells (Lib.bytesOf (l ++ p)) = Lib.byteCells (Lib.bytesOf l) ++ Lib.strCells s := by
    rw [bytesOf_app, Lib.byteCells_append, str_cells hs]
  rw [e1]
  exact hh.2.1
theorem bstr_l (B b : Nat) (l : List Int) (w : World) (h : Bd w B b l) (hB : B ≤ w.heap.size) :
    Calls Tryz.prog 73 #[.pointer (some ⟨b, 0, none⟩)] w fun e w' => e = .returned (.string (strOfNums l)) ∧ Below B w w' := by
  have := Any.Builder_String_any_k bStr_lays bStr_extra B b (Lib.bytesOf l) w h hB
  exact Calls.mono this fun e w' hh => ⟨hh.1, hh.2.2.1⟩
theorem St.app {a b : ByteArray} {x y : List Int} (h : St a x) (k : St b y) : St (a ++ b) (x ++ y) := by
  refine ⟨?_, fun z hz => ?_⟩
  · have ha := h.1
    have hb := k.1
    subst ha hb
    apply ByteArray.ext
    apply Array.ext'
    rw [show (strOfNums x ++ strOfNums y).data = (strOfNums x).data ++ (strOfNums y).data from ByteArray.data_append]
    rw [Array.toList_append, strOfNums_data, strOfNums_data, strOfNums_data, List.map_append]
  · rcases List.mem_append.1 hz with h' | h'
    · exact h.2 z h'
    · exact k.2 z h'

/-! ### A scalar that stands for itself -/
set_option maxRecDepth 20000 in
set_option maxHeartbeats 2000000 in
theorem scalarT_plain (n : Int) (h : plainB n = true) (w : World) :
    Calls Tryz.prog 62 #[.int .i64 n] w fun e w' => e = .returned (.string (strOfNums [n])) ∧ Below w.heap.size w w' := by
  unfold plainB at h
  simp at h
  have h1 : seenB n = true := by simp [seenB]; omega
  have h2 : standB n = true := by simp [standB, clsB]; omega
  have hm : U.mayB n = true := (U.may_iff n).2 (by omega)
  have C1 := hideR (isSeen_l n (by omega) (by omega))
  have C2 := hideR (fun W => standsInClass_l n (.inr hm) W)
  rw [h1] at C1
  rw [h2] at C2
  have i1 : IntKind.i32.wrap n = n := by rw [IntKind.wrap_i32]; omega
  have e1 : Utf8.encode n = strOfNums [n] := by
    unfold Utf8.encode
    have hv : Utf8.valid n = true := by unfold Utf8.valid; simp; omega
    simp only [hv, if_true]
    rw [if_pos (by omega)]
    rfl
  have cv := fun W => run_convert_int_string (P := Tryz.prog) W 21 9 .i32 n (by rw [Tryz.underlying21]; rfl) Tryz.underlying9
  rw [e1] at cv
  clear hm h1 h2 e1 h
  generalize strOfNums [n] = S at *
  go_enter Tryz.func62, Tryz.ntmps62
  go_wp2_with fail
  refine (unhideR C1 _).mono ?_
  rintro e w1 ⟨rfl, hw1⟩
  obtain rfl : w = w1 := hw1.symm
  clear hw1 C1
  go_wp2_with fail
  refine (unhideR C2 _).mono ?_
  rintro e w2 ⟨rfl, b2⟩
  clear C2
  go_wp2_with fail
  go_ret
  exact ⟨rfl, b2⟩
end Go.Proofs.YtdaadeohamkoiaaGreatDoor.T

/- Contracts of package token: ranges as items, each end of them written by a function. -/
namespace Go.Proofs.YtdaadeohamkoiaaGreatDoor.T
open Go.RowKit
set_option linter.unusedVariables false
set_option linter.unusedSimpArgs false

def showR (sh : Int → List Int) (r : Int × Int) : List Int := if r.1 < r.2 then sh r.1 ++ 45 :: sh r.2 else sh r.1
theorem cells2 {W : World} {g : Nat} {x0 x1 : Value} {t : TypeId} (h : W.heap[g]? = some (.cells #[x0, x1] t)) : W.cell? ⟨g, 0, none⟩ = some x0 ∧ W.cell? ⟨g, 1, none⟩ = some x1 := by
  constructor <;> simp [World.cell?, h]
theorem showR_bytes {sh : Int → List Int} {r : Int × Int} (h1 : U.isBytes (sh r.1)) (h2 : U.isBytes (sh r.2)) : U.isBytes (showR sh r) := by
  unfold showR
  split
  · exact bytes_app h1 (bytes_cons (by omega) (by omega) h2)
  · exact h1
set_option maxRecDepth 20000 in
set_option maxHeartbeats 8000000 in
theorem itemsT_S (sh : Int → List Int) (ok : Int → Prop) (hsh : ∀ n, ok n → U.isBytes (sh n) ∧ (sh n).length ≤ 100) (w : World)
    (CE0 : ∀ n, ok n → ∀ W, Below w.heap.size w W → Calls Tryz.prog 62 #[.int .i64 n] W fun e w' => e = .returned (.string (strOfNums (sh n))) ∧ Below W.heap.size W w')
    (a : Option Addr) (len cap : Nat) (l : List (Int × Int)) (h : Rs w a len cap l) (hl : len ≤ 3000) (hok : ∀ r ∈ l, ok r.1 ∧ ok r.2) :
    Calls Tryz.prog 61 #[.slice a len cap, .func (.func 62) #[] #[]] w fun e w' => e = .returned (.string (strOfNums (l.flatMap (showR sh)))) ∧ Below w.heap.size w w' := by
  have hlen := h.hlen
  have hmax := h.hmax
  have hcap := h.hcap
  have HR := hideR h
  have CE := hideR CE0
  have HOK := hideR hok
  have HSH := hideR hsh
  unfold maxLen at hmax
  clear h CE0 hok hsh
  go_enter Tryz.func61, Tryz.ntmps61
  go_wp2_with fail
  go_loopw [10] (fun j wr => ∃ (k : Nat) (acc : List Int), k ≤ len ∧ j = .int .i64 (k : Int) ∧ Hid (acc = (l.take k).flatMap (showR sh)) ∧ Hid (U.isBytes acc) ∧ acc.length ≤ 201 * k ∧ Hid (Bd wr w.heap.size w.heap.size acc) ∧ Hid (w.heap.size < wr.heap.size) ∧ Below w.heap.size w wr) (fun j _ => len - (intOf j).toNat)
  case atStart => exact ⟨0, [], Nat.zero_le _, rfl, (by show [] = _; simp), (fun z hz => by cases hz), by simp, Bd.new w, (by show _ < _; simp), Below.new1 _⟩
  case round =>
    obtain ⟨k, acc, hk, rfl, ha, hab, hal, hB, NE, hb⟩ := hrel
    by_cases hlt : k < len
    · obtain ⟨bb, off, rfl, hr⟩ := (Rs.later (unhideR HR) hb (Nat.le_refl _)).open (by omega)
      obtain ⟨lo, hi, hmem, hd, f1, f2, c0, c1⟩ := hr.at k hlt
      unfold fits at f1 f2
      have hin : (lo, hi) ∈ l := List.mem_of_mem_drop (by rw [hmem]; exact List.mem_cons_self ..)
      have hoo := unhideR HOK (lo, hi) hin
      have OK1 : Hid (ok lo ∧ U.isBytes (sh lo) ∧ (sh lo).length ≤ 100) := ⟨hoo.1, unhideR HSH lo hoo.1⟩
      have OK2 : Hid (ok hi ∧ U.isBytes (sh hi) ∧ (sh hi).length ≤ 100) := ⟨hoo.2, unhideR HSH hi hoo.2⟩
      have HA : Hid (acc ++ showR sh (lo, hi) = (l.take (k + 1)).flatMap (showR sh)) := by
        show _ = _
        rw [hd, List.flatMap_append, ← ha.out]
        simp
      have HAB : Hid (U.isBytes (acc ++ showR sh (lo, hi))) := bytes_app (unhideR hab) (showR_bytes (unhideR OK1).2.1 (unhideR OK2).2.1)
      clear hr hd hmem hin hoo ha hab HR HOK HSH
      by_cases c : lo < hi
      · have es : showR sh (lo, hi) = sh lo ++ 45 :: sh hi := by unfold showR; rw [if_pos c]
        rw [es] at HA HAB
        clear es
        go_wp2_with fail
        refine (unhideR CE lo (unhideR OK1).1 _ (hb.alloc hb.size _)).mono ?_
        rintro e w1 ⟨rfl, b1⟩
        have BD1 := Bd.later (Bd.later (unhideR hB) (Below.new1 (.cells #[.int .i64 lo, .int .i64 hi] 54))) b1
        have HR1 := kept_new b1
        have hs1 : w.heap.size ≤ w1.heap.size := by have := hb.size; have := b1.size; simp at this; omega
        have C1 := hideR (wstr_l w.heap.size w.heap.size acc _ (sh lo) (St.of (unhideR OK1).2.1) w1 BD1 (by have := (unhideR OK1).2.2; omega) hs1)
        clear BD1
        go_wp2_with fail
        refine (unhideR C1).mono ?_
        rintro e w2 ⟨rfl, BD2, b2, k2⟩
        clear C1
        have HR2 : w2.heap[wr.heap.size]? = some (.cells #[.int .i64 lo, .int .i64 hi] 54) := k2 _ _ HR1 (by intro c; injection c with c; have := hb.size; have hh := (unhideR NE); omega) (by intro c fz hh; injection hh with _ hh; exact absurd hh (by decide))
        obtain ⟨q0, q1⟩ := cells2 HR2
        have hs2 : w.heap.size ≤ w2.heap.size := by have := b2.size; omega
        have B2 : Below w.heap.size w w2 := ((hb.alloc hb.size _).trans (b1.mono (by simp; have := hb.size; omega))).trans b2
        clear k2 HR1

        go_wp2_with fail
        refine (unhideR CE hi (unhideR OK2).1 _ B2).mono ?_
        rintro e w3 ⟨rfl, b3⟩
        have BD3 := Bd.later BD2 b3
        have hs3 : w.heap.size ≤ w3.heap.size := by have := b3.size; omega
        have SD := hideR (St.app st_dash (St.of (unhideR OK2).2.1))
        have z2 : (strOfNums (sh hi)).size ≤ 100 := by rw [strOfNums_size]; exact (unhideR OK2).2.2
        clear BD2 q0 q1 HR2
        go_wp2_with fail
        refine (wstr_l w.heap.size w.heap.size (acc ++ sh lo) _ _ (unhideR SD) w3 BD3 (by rw [List.length_append, List.length_append]; have := (unhideR OK1).2.2; have := (unhideR OK2).2.2; simp; omega) hs3).mono ?_
        rintro e w4 ⟨rfl, BD4, b4, -⟩
        go_wp2_with fail
        go_roundw
        case rel => exact ⟨k + 1, acc ++ (sh lo ++ 45 :: sh hi), by omega, by go_num, HA, HAB, by rw [List.length_append, List.length_append, List.length_cons]; have := (unhideR OK1).2.2; have := (unhideR OK2).2.2; omega, (by show Bd _ _ _ _; rw [← List.append_assoc]; exact BD4), (by show _ < _; have := b4.size; have := b3.size; have := b2.size; have := b1.size; simp at this; have := unhideR NE; omega), (B2.trans (b3.mono hs2)).trans b4⟩
        case measure => simp [intOf]; omega
      · have es : showR sh (lo, hi) = sh lo := by unfold showR; rw [if_neg c]
        have c' : hi ≤ lo := by omega
        rw [es] at HA HAB
        clear es
        go_wp2_with fail
        refine (unhideR CE lo (unhideR OK1).1 _ (hb.alloc hb.size _)).mono ?_
        rintro e w1 ⟨rfl, b1⟩
        have BD1 := Bd.later (Bd.later (unhideR hB) (Below.new1 (.cells #[.int .i64 lo, .int .i64 hi] 54))) b1
        have HR1 := kept_new b1
        have hs1 : w.heap.size ≤ w1.heap.size := by have := hb.size; have := b1.size; simp at this; omega
        have C1 := hideR (wstr_l w.heap.size w.heap.size acc _ (sh lo) (St.of (unhideR OK1).2.1) w1 BD1 (by have := (unhideR OK1).2.2; omega) hs1)
        clear BD1
        go_wp2_with fail
        refine (unhideR C1).mono ?_
        rintro e w2 ⟨rfl, BD2, b2, k2⟩
        clear C1
        have HR2 : w2.heap[wr.heap.size]? = some (.cells #[.int .i64 lo, .int .i64 hi] 54) := k2 _ _ HR1 (by intro c; injection c with c; have := hb.size; have hh := (unhideR NE); omega) (by intro c fz hh; injection hh with _ hh; exact absurd hh (by decide))
        obtain ⟨q0, q1⟩ := cells2 HR2
        have hs2 : w.heap.size ≤ w2.heap.size := by have := b2.size; omega
        have B2 : Below w.heap.size w w2 := ((hb.alloc hb.size _).trans (b1.mono (by simp; have := hb.size; omega))).trans b2
        clear k2 HR1

        clear HR2
        go_wp2_with fail
        go_roundw
        case rel => exact ⟨k + 1, acc ++ sh lo, by omega, by go_num, HA, HAB, by rw [List.length_append]; have := (unhideR OK1).2.2; omega, BD2, (by show _ < _; have := b2.size; have := b1.size; simp at this; have := unhideR NE; omega), B2⟩
        case measure => simp [intOf]; omega
    · obtain rfl : k = len := by omega
      have ha' := ha.out
      rw [List.take_of_length_le (by omega)] at ha'
      have C := hideR (bstr_l w.heap.size w.heap.size acc wr (unhideR hB) hb.size)
      rw [ha'] at C
      clear ha ha' hB CE HR HOK HSH
      go_wp2_with fail
      refine (unhideR C).mono ?_
      rintro e w1 ⟨rfl, b1⟩
      clear C
      go_wp2_with fail
      go_ret
      exact ⟨rfl, hb.trans b1⟩
set_option maxRecDepth 20000 in
set_option maxHeartbeats 8000000 in
theorem itemsT_H (sh : Int → List Int) (ok : Int → Prop) (hsh : ∀ n, ok n → U.isBytes (sh n) ∧ (sh n).length ≤ 100) (w : World)
    (CE0 : ∀ n, ok n → ∀ W, Below w.heap.size w W → Calls Tryz.prog 63 #[.int .i64 n] W fun e w' => e = .returned (.string (strOfNums (sh n))) ∧ Below W.heap.size W w')
    (a : Option Addr) (len cap : Nat) (l : List (Int × Int)) (h : Rs w a len cap l) (hl : len ≤ 3000) (hok : ∀ r ∈ l, ok r.1 ∧ ok r.2) :
    Calls Tryz.prog 61 #[.slice a len cap, .func (.func 63) #[] #[]] w fun e w' => e = .returned (.string (strOfNums (l.flatMap (showR sh)))) ∧ Below w.heap.size w w' := by
  have hlen := h.hlen
  have hmax := h.hmax
  have hcap := h.hcap
  have HR := hideR h
  have CE := hideR CE0
  have HOK := hideR hok
  have HSH := hideR hsh
  unfold maxLen at hmax
  clear h CE0 hok hsh
  go_enter Tryz.func61, Tryz.ntmps61
  go_wp2_with fail
  go_loopw [10] (fun j wr => ∃ (k : Nat) (acc : List Int), k ≤ len ∧ j = .int .i64 (k : Int) ∧ Hid (acc = (l.take k).flatMap (showR sh)) ∧ Hid (U.isBytes acc) ∧ acc.length ≤ 201 * k ∧ Hid (Bd wr w.heap.size w.heap.size acc) ∧ Hid (w.heap.size < wr.heap.size) ∧ Below w.heap.size w wr) (fun j _ => len - (intOf j).toNat)
  case atStart => exact ⟨0, [], Nat.zero_le _, rfl, (by show [] = _; simp), (fun z hz => by cases hz), by simp, Bd.new w, (by show _ < _; simp), Below.new1 _⟩
  case round =>
    obtain ⟨k, acc, hk, rfl, ha, hab, hal, hB, NE, hb⟩ := hrel
    by_cases hlt : k < len
    · obtain ⟨bb, off, rfl, hr⟩ := (Rs.later (unhideR HR) hb (Nat.le_refl _)).open (by omega)
      obtain ⟨lo, hi, hmem, hd, f1, f2, c0, c1⟩ := hr.at k hlt
      unfold fits at f1 f2
      have hin : (lo, hi) ∈ l := List.mem_of_mem_drop (by rw [hmem]; exact List.mem_cons_self ..)
      have hoo := unhideR HOK (lo, hi) hin
      have OK1 : Hid (ok lo ∧ U.isBytes (sh lo) ∧ (sh lo).length ≤ 100) := ⟨hoo.1, unhideR HSH lo hoo.1⟩
      have OK2 : Hid (ok hi ∧ U.isBytes (sh hi) ∧ (sh hi).length ≤ 100) := ⟨hoo.2, unhideR HSH hi hoo.2⟩
      have HA : Hid (acc ++ showR sh (lo, hi) = (l.take (k + 1)).flatMap (showR sh)) := by
        show _ = _
        rw [hd, List.flatMap_append, ← ha.out]
        simp
      have HAB : Hid (U.isBytes (acc ++ showR sh (lo, hi))) := bytes_app (unhideR hab) (showR_bytes (unhideR OK1).2.1 (unhideR OK2).2.1)
      clear hr hd hmem hin hoo ha hab HR HOK HSH
      by_cases c : lo < hi
      · have es : showR sh (lo, hi) = sh lo ++ 45 :: sh hi := by unfold showR; rw [if_pos c]
        rw [es] at HA HAB
        clear es
        go_wp2_with fail
        refine (unhideR CE lo (unhideR OK1).1 _ (hb.alloc hb.size _)).mono ?_
        rintro e w1 ⟨rfl, b1⟩
        have BD1 := Bd.later (Bd.later (unhideR hB) (Below.new1 (.cells #[.int .i64 lo, .int .i64 hi] 54))) b1
        have HR1 := kept_new b1
        have hs1 : w.heap.size ≤ w1.heap.size := by have := hb.size; have := b1.size; simp at this; omega
        have C1 := hideR (wstr_l w.heap.size w.heap.size acc _ (sh lo) (St.of (unhideR OK1).2.1) w1 BD1 (by have := (unhideR OK1).2.2; omega) hs1)
        clear BD1
        go_wp2_with fail
        refine (unhideR C1).mono ?_
        rintro e w2 ⟨rfl, BD2, b2, k2⟩
        clear C1
        have HR2 : w2.heap[wr.heap.size]? = some (.cells #[.int .i64 lo, .int .i64 hi] 54) := k2 _ _ HR1 (by intro c; injection c with c; have := hb.size; have hh := (unhideR NE); omega) (by intro c fz hh; injection hh with _ hh; exact absurd hh (by decide))
        obtain ⟨q0, q1⟩ := cells2 HR2
        have hs2 : w.heap.size ≤ w2.heap.size := by have := b2.size; omega
        have B2 : Below w.heap.size w w2 := ((hb.alloc hb.size _).trans (b1.mono (by simp; have := hb.size; omega))).trans b2
        clear k2 HR1

        go_wp2_with fail
        refine (unhideR CE hi (unhideR OK2).1 _ B2).mono ?_
        rintro e w3 ⟨rfl, b3⟩
        have BD3 := Bd.later BD2 b3
        have hs3 : w.heap.size ≤ w3.heap.size := by have := b3.size; omega
        have SD := hideR (St.app st_dash (St.of (unhideR OK2).2.1))
        have z2 : (strOfNums (sh hi)).size ≤ 100 := by rw [strOfNums_size]; exact (unhideR OK2).2.2
        clear BD2 q0 q1 HR2
        go_wp2_with fail
        refine (wstr_l w.heap.size w.heap.size (acc ++ sh lo) _ _ (unhideR SD) w3 BD3 (by rw [List.length_append, List.length_append]; have := (unhideR OK1).2.2; have := (unhideR OK2).2.2; simp; omega) hs3).mono ?_
        rintro e w4 ⟨rfl, BD4, b4, -⟩
        go_wp2_with fail
        go_roundw
        case rel => exact ⟨k + 1, acc ++ (sh lo ++ 45 :: sh hi), by omega, by go_num, HA, HAB, by rw [List.length_append, List.length_append, List.length_cons]; have := (unhideR OK1).2.2; have := (unhideR OK2).2.2; omega, (by show Bd _ _ _ _; rw [← List.append_assoc]; exact BD4), (by show _ < _; have := b4.size; have := b3.size; have := b2.size; have := b1.size; simp at this; have := unhideR NE; omega), (B2.trans (b3.mono hs2)).trans b4⟩
        case measure => simp [intOf]; omega
      · have es : showR sh (lo, hi) = sh lo := by unfold showR; rw [if_neg c]
        have c' : hi ≤ lo := by omega
        rw [es] at HA HAB
        clear es
        go_wp2_with fail
        refine (unhideR CE lo (unhideR OK1).1 _ (hb.alloc hb.size _)).mono ?_
        rintro e w1 ⟨rfl, b1⟩
        have BD1 := Bd.later (Bd.later (unhideR hB) (Below.new1 (.cells #[.int .i64 lo, .int .i64 hi] 54))) b1
        have HR1 := kept_new b1
        have hs1 : w.heap.size ≤ w1.heap.size := by have := hb.size; have := b1.size; simp at this; omega
        have C1 := hideR (wstr_l w.heap.size w.heap.size acc _ (sh lo) (St.of (unhideR OK1).2.1) w1 BD1 (by have := (unhideR OK1).2.2; omega) hs1)
        clear BD1
        go_wp2_with fail
        refine (unhideR C1).mono ?_
        rintro e w2 ⟨rfl, BD2, b2, k2⟩
        clear C1
        have HR2 : w2.heap[wr.heap.size]? = some (.cells #[.int .i64 lo, .int .i64 hi] 54) := k2 _ _ HR1 (by intro c; injection c with c; have := hb.size; have hh := (unhideR NE); omega) (by intro c fz hh; injection hh with _ hh; exact absurd hh (by decide))
        obtain ⟨q0, q1⟩ := cells2 HR2
        have hs2 : w.heap.size ≤ w2.heap.size := by have := b2.size; omega
        have B2 : Below w.heap.size w w2 := ((hb.alloc hb.size _).trans (b1.mono (by simp; have := hb.size; omega))).trans b2
        clear k2 HR1

        clear HR2
        go_wp2_with fail
        go_roundw
        case rel => exact ⟨k + 1, acc ++ sh lo, by omega, by go_num, HA, HAB, by rw [List.length_append]; have := (unhideR OK1).2.2; omega, BD2, (by show _ < _; have := b2.size; have := b1.size; simp at this; have := unhideR NE; omega), B2⟩
        case measure => simp [intOf]; omega
    · obtain rfl : k = len := by omega
      have ha' := ha.out
      rw [List.take_of_length_le (by omega)] at ha'
      have C := hideR (bstr_l w.heap.size w.heap.size acc wr (unhideR hB) hb.size)
      rw [ha'] at C
      clear ha ha' hB CE HR HOK HSH
      go_wp2_with fail
      refine (unhideR C).mono ?_
      rintro e w1 ⟨rfl, b1⟩
      clear C
      go_wp2_with fail
      go_ret
      exact ⟨rfl, hb.trans b1⟩
end Go.Proofs.YtdaadeohamkoiaaGreatDoor.T
