/- Parts of the proof of FlatText that stand ahead of it (2). -/
import Derived.Test.YtfcfcgeodghmpaaGreatDoorFlatTextMore1
import Derived.OpenShut
import Derived.Deep.RegionWith
import Derived.Deep.RegionHeld3
import Derived.Laws.RangeString
import Derived.Laws.Runes
import Derived.WalkMore
import Derived.Laws.Tables
import Derived.Laws.Rows
import Derived.Laws.ResultCell
import Derived.Laws.CopyOwn
import Derived.OwnWalk
import Derived.Deep.AppendLies
namespace Go.Proofs.YtfcfcgeodghmpaaGreatDoor
open Go.RowKit
set_option linter.unusedVariables false

def nx (l : List Int) (at' : Int) : Int × Nat := if at' < 0 ∨ (l.length : Int) ≤ at' then (-1, 0) else U.nextL (l.drop at'.toNat)

theorem Below.one {w : World} (o : Obj) : Below w.heap.size w (w.alloc o) := (Below.refl _ _).alloc (Nat.le_refl _) o

theorem next_any (a : Option Addr) (len cap : Nat) (l : List Int) (w : World) (h : Bs w a len cap l) (at' : Int) :
    Calls Tryz.prog 147 #[.slice a len cap, .int .i64 at'] w fun e w' => e = .returned (.tuple #[.int .i64 (nx l at').1, .int .i64 (nx l at').2]) ∧ Below w.heap.size w w' := by
  have hl := h.hlen
  by_cases ho : at' < 0 ∨ (len : Int) ≤ at'
  · have e : nx l at' = (-1, 0) := by unfold nx; rw [if_pos (by omega)]
    rw [e]
    refine (next_out a len cap w at' ho).mono ?_
    rintro e w' ⟨rfl, rfl⟩
    exact ⟨rfl, Below.refl _ _⟩
  · have e : nx l at' = U.nextL (l.drop at'.toNat) := by unfold nx; rw [if_neg (by omega)]
    rw [e]; clear e
    obtain ⟨n, rfl⟩ := Int.eq_ofNat_of_zero_le (by omega : 0 ≤ at')
    simp only [Int.toNat_natCast] at *
    have hn : n < len := by omega
    clear ho
    obtain ⟨b, off, rfl, hb⟩ := h.open (by omega)
    have hd := hb.drop n hn
    have hcap := h.hcap
    have hmax := h.hmax
    generalize l.drop n = l' at hd
    have c0 := hd.hcell 0 hd.hpos
    have b0 := U.isBytes_getD hd.hbytes 0
    rw [Nat.add_zero] at c0
    have hne : l' ≠ [] := by have := hd.hlen; have := hd.hpos; intro e; subst e; simp at *; omega
    have hmx : len - n ≤ maxLen := by omega
    have cw : ∀ i x, w.cell? ⟨b, i, none⟩ = some x → (w.alloc readersObj).cell? ⟨b, i, none⟩ = some x := by
      intro i x hx
      have hlt : b < w.heap.size := block_lt_of_cell hx
      rw [(Below.one (w := w) readersObj).cell (p := ⟨b, i, none⟩) hlt]; exact hx
    by_cases hs : len - n < U.manyN (l'.getD 0 0)
    · have e : U.nextL l' = (-1, 1) := by unfold U.nextL; rw [if_neg hne, hd.hlen, if_pos hs]
      rw [e]
      refine (next_short b off len cap w n _ _ rfl hn hcap hmax c0 b0 hs).mono ?_
      rintro e w' ⟨rfl, rfl⟩
      exact ⟨rfl, Below.refl _ _⟩
    · have e : U.nextL l' = if U.readN (U.manyN (l'.getD 0 0)) l' < 0 then (-1, 1) else (U.readN (U.manyN (l'.getD 0 0)) l', U.manyN (l'.getD 0 0)) := by
        unfold U.nextL; rw [if_neg hne, hd.hlen, if_neg hs]
      have fin : ∀ f : Nat, ((U.manyN (l'.getD 0 0) = 0 ∧ f = 184) ∨ (U.manyN (l'.getD 0 0) = 1 ∧ f = 185) ∨ (U.manyN (l'.getD 0 0) = 2 ∧ f = 186) ∨ (U.manyN (l'.getD 0 0) = 3 ∧ f = 187) ∨ (U.manyN (l'.getD 0 0) = 4 ∧ f = 188)) →
          (Calls Tryz.prog f #[.slice (some ⟨b, off + n, none⟩) (len - n) (cap - n)] (w.alloc readersObj) fun e w' => e = .returned (.int .i64 (U.readN (U.manyN (l'.getD 0 0)) l')) ∧ w' = w.alloc readersObj) →
          Calls Tryz.prog 147 #[.slice (some ⟨b, off, none⟩) len cap, .int .i64 n] w fun e w' => e = .returned (.tuple #[.int .i64 (U.nextL l').1, .int .i64 (U.nextL l').2]) ∧ Below w.heap.size w w' := by
        intro f hf hr
        refine (next_long b off len cap w n _ _ _ rfl hn hcap hmax c0 b0 (by omega) f hf hr (U.nextL l').1 (U.nextL l').2 ?_).mono ?_
        · rw [e]
          by_cases hr0 : U.readN (U.manyN (l'.getD 0 0)) l' < 0
          · rw [if_pos hr0]; exact .inl ⟨hr0, rfl, rfl⟩
          · rw [if_neg hr0]; exact .inr ⟨by omega, rfl, rfl⟩
        · rintro e w' ⟨rfl, rfl⟩
          exact ⟨rfl, Below.one _⟩
      have hm : U.manyN (l'.getD 0 0) = 0 ∨ U.manyN (l'.getD 0 0) = 1 ∨ U.manyN (l'.getD 0 0) = 2 ∨ U.manyN (l'.getD 0 0) = 3 ∨ U.manyN (l'.getD 0 0) = 4 := by
        unfold U.manyN; split; · simp
        split; · simp
        split; · simp
        split; · simp
        split <;> simp
      rcases hm with hm | hm | hm | hm | hm
      · refine fin 184 (.inl ⟨hm, rfl⟩) ?_
        rw [hm, show U.readN 0 l' = -1 by simp [U.readN]]
        exact none_any _ _ _ _ _
      · refine fin 185 (.inr (.inl ⟨hm, rfl⟩)) ?_
        rw [hm, show U.readN 1 l' = l'.getD 0 0 by simp [U.readN]]
        exact one_any _ _ _ _ _ _ (by omega) (cw _ _ c0) b0
      · refine fin 186 (.inr (.inr (.inl ⟨hm, rfl⟩))) ?_
        rw [hm] at hs
        rw [hm, show U.readN 2 l' = U.fromN 128 (U.addN (l'.getD 0 0 - 192) (l'.getD 1 0)) from rfl]
        exact two_any _ _ _ _ _ _ _ (by omega) hmx (cw _ _ c0) (cw _ _ (hd.hcell 1 (by omega))) b0 (U.isBytes_getD hd.hbytes 1)
      · refine fin 187 (.inr (.inr (.inr (.inl ⟨hm, rfl⟩)))) ?_
        rw [hm] at hs
        rw [hm, show U.readN 3 l' = U.fromN 2048 (U.addN (U.addN (l'.getD 0 0 - 224) (l'.getD 1 0)) (l'.getD 2 0)) from rfl]
        exact three_any _ _ _ _ _ _ _ _ (by omega) hmx (cw _ _ c0) (cw _ _ (hd.hcell 1 (by omega))) (cw _ _ (hd.hcell 2 (by omega))) b0 (U.isBytes_getD hd.hbytes 1) (U.isBytes_getD hd.hbytes 2)
      · refine fin 188 (.inr (.inr (.inr (.inr ⟨hm, rfl⟩)))) ?_
        rw [hm] at hs
        rw [hm, show U.readN 4 l' = U.fromN 65536 (U.addN (U.addN (U.addN (l'.getD 0 0 - 240) (l'.getD 1 0)) (l'.getD 2 0)) (l'.getD 3 0)) from rfl]
        exact four_any _ _ _ _ _ _ _ _ _ (by omega) hmx (cw _ _ c0) (cw _ _ (hd.hcell 1 (by omega))) (cw _ _ (hd.hcell 2 (by omega))) (cw _ _ (hd.hcell 3 (by omega))) b0 (U.isBytes_getD hd.hbytes 1) (U.isBytes_getD hd.hbytes 2) (U.isBytes_getD hd.hbytes 3)

theorem Bs.later {w w' : World} {a : Option Addr} {len cap : Nat} {l : List Int} (h : Bs w a len cap l) {B : Nat} (hb : Below B w w') (hB : w.heap.size ≤ B) : Bs w' a len cap l := by
  refine ⟨h.hlen, h.hcap, h.hmax, h.hbytes, fun i hi => ?_⟩
  obtain ⟨b, off, ha, hc⟩ := h.hcell i hi
  have hlt : b < w.heap.size := block_lt_of_cell hc
  exact ⟨b, off, ha, by rw [hb.cell (p := ⟨b, off + i, none⟩) (Nat.lt_of_lt_of_le hlt hB)]; exact hc⟩

end Go.Proofs.YtfcfcgeodghmpaaGreatDoor

namespace Go.Proofs.YtfcfcgeodghmpaaGreatDoor
open Go.RowKit
set_option linter.unusedVariables false

theorem Bs.ofRow {w : World} {a : Option Addr} {len cap : Nat} {zs : List Int}
    (h : (a = none ∧ len = 0 ∧ cap = 0 ∧ zs = []) ∨ ∃ x, a = some x ∧ len ≤ cap ∧ cap ≤ maxLen ∧ zs.length = cap ∧ (∀ i, i < zs.length → w.cell? (x.add i) = some (.int .u8 (zs.getD i 0))) ∧ ∀ n ∈ zs, (Lit.int .u8 n).wf = true) :
    Bs w a len cap (zs.take len) := by
  rcases h with ⟨rfl, rfl, rfl, rfl⟩ | ⟨x, rfl, hl, hm, hz, hcell, hwz⟩
  · exact ⟨rfl, Nat.le_refl _, Nat.zero_le _, fun z hz => by simp at hz, fun i hi => by omega⟩
  · refine ⟨by rw [List.length_take]; omega, hl, hm, fun z hz => bounds_u8 (hwz z (List.mem_of_mem_take hz)), fun i hi => ?_⟩
    obtain ⟨b, off, spot⟩ := x
    have hc := hcell i (by omega)
    have hspot : spot = none := by simpa [Addr.add] using World.cell?_spot (hcell 0 (by omega))
    subst hspot
    refine ⟨b, off, rfl, ?_⟩
    rw [Addr.add_lit] at hc
    rw [hc]
    simp [hi]

theorem loadCells0 (w : World) (x : Addr) : (loadCells x 0).run Tryz.prog w = .ok (([] : List Int).map (Value.int .u8)).toArray w := by
  have := run_loadCells_list (P := Tryz.prog) w x [] (fun j v hj => by simp at hj)
  simpa using this

theorem Bs.str {w : World} {a : Option Addr} {len cap : Nat} {l : List Int} (h : Bs w a len cap l) :
    (convert 54 9 (.slice a len cap)).run Tryz.prog w = .ok (.string (strOfNums l)) w := by
  by_cases hp : 1 ≤ len
  · obtain ⟨b, off, rfl, hb⟩ := h.open hp
    exact run_convert_bytes_arg w 54 5 Tryz.underlying54 Tryz.underlying5 b off len cap l hb.hlen hb.hcell 9 Tryz.underlying9
  · have h0 : len = 0 := by omega
    have hl := h.hlen
    subst h0
    have : l = [] := List.eq_nil_of_length_eq_zero hl
    subst this
    cases a with
    | none => exact run_convert_bytes_nil w 54 5 Tryz.underlying54 Tryz.underlying5 0 cap 9 Tryz.underlying9
    | some x =>
      rw [run_convert_bytes_string w 54 9 5 _ 0 cap Tryz.underlying54 Tryz.underlying5 Tryz.underlying9, run_bytesToString w x 0 cap [] (loadCells0 w x)]
      rfl

theorem strOf_inj {l m : List Int} (hl : U.isBytes l) (hm : U.isBytes m) (h : strOfNums l = strOfNums m) : l = m := by
  have h' : (l.map fun n => UInt8.ofNat n.toNat) = m.map fun n => UInt8.ofNat n.toNat := by
    have := congrArg (fun s : ByteArray => s.data.toList) h
    simpa [strOfNums_data] using this
  clear h
  induction l generalizing m with
  | nil => cases m with
    | nil => rfl
    | cons => simp at h'
  | cons a l ih => cases m with
    | nil => simp at h'
    | cons b m =>
      simp only [List.map_cons, List.cons.injEq] at h'
      have e := congrArg UInt8.toNat h'.1
      have ba := U.isBytes_head hl
      have bb := U.isBytes_head hm
      simp only [UInt8.toNat_ofNat'] at e
      rw [Nat.mod_eq_of_lt (by omega), Nat.mod_eq_of_lt (by omega)] at e
      have : a = b := by omega
      subst this
      rw [ih (U.isBytes_tail hl) (U.isBytes_tail hm) h'.2]

end Go.Proofs.YtfcfcgeodghmpaaGreatDoor

namespace Go.Proofs.YtfcfcgeodghmpaaGreatDoor.T
open Go.RowKit
set_option linter.unusedVariables false
set_option linter.unusedSimpArgs false

theorem retB {a b : Bool} (h : a = b) : Ending.returned (.bool a) = .returned (.bool b) := by rw [h]
theorem dig_ix : ∀ n : Fin 256, Lib.indexByte [48, 49, 50, 51, 52, 53, 54, 55, 56, 57, 97, 98, 99, 100, 101, 102] (n.val : Int).toNat.toUInt8 = valI (n.val : Int) := by decide +kernel
theorem dig_ix' {z : Int} (h0 : 0 ≤ z) (h1 : z ≤ 255) : Lib.indexByte [48, 49, 50, 51, 52, 53, 54, 55, 56, 57, 97, 98, 99, 100, 101, 102] z.toNat.toUInt8 = valI z := by
  have := dig_ix ⟨z.toNat, by omega⟩
  simp only [Int.toNat_of_nonneg h0] at this
  exact this
set_option maxHeartbeats 400000 in
theorem digit_l (z : Int) (h0 : 0 ≤ z) (h1 : z ≤ 255) (w : World) :
    Calls Tryz.prog 179 #[.int .u8 z] w fun e w' => e = .returned (.int .i64 (valI z)) ∧ w' = w := by
  have C : Calls Tryz.prog 204 #[.string ⟨#[48, 49, 50, 51, 52, 53, 54, 55, 56, 57, 97, 98, 99, 100, 101, 102]⟩, .int .u8 z] w fun e w' => e = .returned (.int .i64 (valI z)) ∧ w' = w := by
    have := Any.strings_IndexByte ixByte_lays ⟨#[48, 49, 50, 51, 52, 53, 54, 55, 56, 57, 97, 98, 99, 100, 101, 102]⟩ z w
    rw [← dig_ix' h0 h1]
    exact this
  have CH := hideR C
  clear C
  generalize valI z = v at *
  go_enter Tryz.func179, Tryz.ntmps179
  go_wp2_with fail
  refine (unhideR CH).mono ?_
  rintro e w1 ⟨rfl, hw1⟩
  obtain rfl : w = w1 := hw1.symm
  go_wp2_with fail
  go_ret
  exact ⟨rfl, rfl⟩
set_option maxHeartbeats 400000 in
theorem isLetter_l (z : Int) (h0 : 0 ≤ z) (h1 : z ≤ 255) (w : World) :
    Calls Tryz.prog 141 #[.int .u8 z] w fun e w' => e = .returned (.bool (isLet z)) ∧ w' = w := by
  by_cases c1 : 97 ≤ z
  · by_cases c2 : z ≤ 122
    · have e : isLet z = true := by simp [isLet, c1, c2]
      rw [e]
      go_enter Tryz.func141, Tryz.ntmps141
      go_wp2
      go_ret
      exact ⟨rfl, rfl⟩
    · have e : isLet z = false := by simp [isLet, c2]
      have c2' : 122 < z := by omega
      rw [e]
      go_enter Tryz.func141, Tryz.ntmps141
      go_wp2
      go_ret
      exact ⟨rfl, rfl⟩
  · have e : isLet z = false := by simp [isLet, c1]
    have c1' : z < 97 := by omega
    rw [e]
    go_enter Tryz.func141, Tryz.ntmps141
    go_wp2
    go_ret
    exact ⟨rfl, rfl⟩
def seenB (z : Int) : Bool := decide (32 ≤ z) && decide (z ≤ 126)
set_option maxHeartbeats 400000 in
theorem isSeen_l (z : Int) (h0 : -9223372036854775808 ≤ z) (h1 : z ≤ 9223372036854775807) (w : World) :
    Calls Tryz.prog 168 #[.int .i64 z] w fun e w' => e = .returned (.bool (seenB z)) ∧ w' = w := by
  by_cases c1 : 32 ≤ z
  · by_cases c2 : z ≤ 126
    · have e : seenB z = true := by simp [seenB, c1, c2]
      rw [e]
      go_enter Tryz.func168, Tryz.ntmps168
      go_wp2
      go_ret
      exact ⟨rfl, rfl⟩
    · have e : seenB z = false := by simp [seenB, c2]
      have c2' : 126 < z := by omega
      rw [e]
      go_enter Tryz.func168, Tryz.ntmps168
      go_wp2
      go_ret
      exact ⟨rfl, rfl⟩
  · have e : seenB z = false := by simp [seenB, c1]
    have c1' : z < 32 := by omega
    rw [e]
    go_enter Tryz.func168, Tryz.ntmps168
    go_wp2
    go_ret
    exact ⟨rfl, rfl⟩
set_option maxHeartbeats 400000 in
theorem isNameByte_l (z : Int) (h0 : 0 ≤ z) (h1 : z ≤ 255) (w : World) :
    Calls Tryz.prog 142 #[.int .u8 z] w fun e w' => e = .returned (.bool (isW z)) ∧ w' = w := by
  have CL := hideR (isLetter_l z h0 h1)
  cases hL : isLet z with
  | true =>
    have e : isW z = true := by simp [isW, hL]
    rw [e]
    rw [hL] at CL
    clear hL e
    go_enter Tryz.func142, Tryz.ntmps142
    go_wp2_with fail
    refine (unhideR CL _).mono ?_
    rintro e w1 ⟨rfl, hw1⟩
    obtain rfl : w = w1 := hw1.symm
    go_wp2_with fail
    go_ret
    exact ⟨retB (by first | rfl | (simp; omega) | (simp; done)), rfl⟩
  | false =>
    rw [hL] at CL
    by_cases c1 : 48 ≤ z
    · by_cases c2 : z ≤ 57
      · have e : isW z = true := by simp [isW, isDig, c1, c2]
        rw [e]
        clear hL e
        go_enter Tryz.func142, Tryz.ntmps142
        go_wp2_with fail
        refine (unhideR CL _).mono ?_
        rintro e w1 ⟨rfl, hw1⟩
        obtain rfl : w = w1 := hw1.symm
        go_wp2_with fail
        go_ret
        exact ⟨retB (by first | rfl | (simp; omega) | (simp; done)), rfl⟩
      · have c2' : 57 < z := by omega
        by_cases c3 : z = 95
        · have e : isW z = true := by simp [isW, c3]
          rw [e]
          clear hL e
          subst c3
          go_enter Tryz.func142, Tryz.ntmps142
          go_wp2_with fail
          refine (unhideR CL _).mono ?_
          rintro e w1 ⟨rfl, hw1⟩
          obtain rfl : w = w1 := hw1.symm
          go_wp2_with fail
          go_ret
          exact ⟨retB (by first | rfl | (simp; omega) | (simp; done)), rfl⟩
        · have e : isW z = false := by simp [isW, hL, isDig, c2, c3]
          have c3' : (z == 95) = false := beq_eq_false_iff_ne.2 c3
          rw [e]
          clear hL e
          go_enter Tryz.func142, Tryz.ntmps142
          go_wp2_with fail
          refine (unhideR CL _).mono ?_
          rintro e w1 ⟨rfl, hw1⟩
          obtain rfl : w = w1 := hw1.symm
          go_wp2_with fail
          go_ret
          exact ⟨retB (by first | rfl | (simp; omega) | (simp; done)), rfl⟩
    · have c1' : z < 48 := by omega
      have c3' : (z == 95) = false := beq_eq_false_iff_ne.2 (by omega)
      have e : isW z = false := by simp [isW, hL, isDig, c1]; omega
      rw [e]
      clear hL e
      go_enter Tryz.func142, Tryz.ntmps142
      go_wp2_with fail
      refine (unhideR CL _).mono ?_
      rintro e w1 ⟨rfl, hw1⟩
      obtain rfl : w = w1 := hw1.symm
      go_wp2_with fail
      go_ret
      exact ⟨retB (by first | rfl | (simp; omega) | (simp; done)), rfl⟩
set_option maxHeartbeats 400000 in
theorem standsInLit_l (z : Int) (h0 : 0 ≤ z) (h1 : z ≤ 255) (w : World) :
    Calls Tryz.prog 143 #[.int .u8 z] w fun e w' => e = .returned (.bool (rawB z)) ∧ w' = w := by
  have CL := hideR (isSeen_l z (by omega) (by omega))
  cases hL : seenB z with
  | true =>
    rw [hL] at CL
    have hb : 32 ≤ z ∧ z ≤ 126 := by simpa [seenB] using hL
    by_cases c1 : z = 34
    · have e : rawB z = false := by simp [rawB, c1]
      rw [e]
      clear hL e hb
      subst c1
      go_enter Tryz.func143, Tryz.ntmps143
      go_wp2_with fail
      refine (unhideR CL _).mono ?_
      rintro e w1 ⟨rfl, hw1⟩
      obtain rfl : w = w1 := hw1.symm
      go_wp2_with fail
      go_ret
      exact ⟨retB (by first | rfl | (simp; omega) | (simp; done)), rfl⟩
    · have c1' : (z == 34) = false := beq_eq_false_iff_ne.2 c1
      by_cases c2 : z = 92
      · have e : rawB z = false := by simp [rawB, c2]
        rw [e]
        clear hL e hb
        subst c2
        go_enter Tryz.func143, Tryz.ntmps143
        go_wp2_with fail
        refine (unhideR CL _).mono ?_
        rintro e w1 ⟨rfl, hw1⟩
        obtain rfl : w = w1 := hw1.symm
        go_wp2_with fail
        go_ret
        exact ⟨retB (by first | rfl | (simp; omega) | (simp; done)), rfl⟩
      · have c2' : (z == 92) = false := beq_eq_false_iff_ne.2 c2
        have e : rawB z = true := by simp [rawB]; omega
        rw [e]
        clear hL e hb
        go_enter Tryz.func143, Tryz.ntmps143
        go_wp2_with fail
        refine (unhideR CL _).mono ?_
        rintro e w1 ⟨rfl, hw1⟩
        obtain rfl : w = w1 := hw1.symm
        go_wp2_with fail
        go_ret
        exact ⟨retB (by first | rfl | (simp; omega) | (simp; done)), rfl⟩
  | false =>
    rw [hL] at CL
    have e : rawB z = false := by
      simp [seenB] at hL
      simp [rawB]
      omega
    rw [e]
    clear hL e
    go_enter Tryz.func143, Tryz.ntmps143
    go_wp2_with fail
    refine (unhideR CL _).mono ?_
    rintro e w1 ⟨rfl, hw1⟩
    obtain rfl : w = w1 := hw1.symm
    go_wp2_with fail
    go_ret
    exact ⟨retB (by first | rfl | (simp; omega) | (simp; done)), rfl⟩
def markL (l : List Int) : Bool := decide (l ∈ marks)
theorem st_list {s : ByteArray} {l : List Int} (h : St s l) : ∀ (m : List Int), U.isBytes m → (s.toList = (m.map fun n => UInt8.ofNat n.toNat) ↔ l = m) := by
  intro m hm
  rw [ByteArray.toList_eq]
  constructor
  · intro e
    refine strOf_inj h.2 hm ?_
    rw [← h.1]
    cases hx : s with | mk x =>
      rw [hx] at e
      have : x = (m.map fun n => UInt8.ofNat n.toNat).toArray := by rw [← e]
      rw [this]; rfl
  · rintro rfl
    rw [h.1, strOfNums_data]
set_option maxRecDepth 20000 in
set_option maxHeartbeats 1000000 in
theorem isMark_l (s : ByteArray) (l : List Int) (h : St s l) (w : World) :
    Calls Tryz.prog 118 #[.string s] w fun e w' => e = .returned (.bool (markL l)) ∧ w' = w := by
  have key := st_list h
  have k1 : s.toList = [108, 111, 110, 103] ↔ l = [108, 111, 110, 103] := key [108, 111, 110, 103] (by intro z hz; simp at hz; omega)
  have k2 : s.toList = [114, 101, 115] ↔ l = [114, 101, 115] := key [114, 101, 115] (by intro z hz; simp at hz; omega)
  have k3 : s.toList = [111, 102, 102] ↔ l = [111, 102, 102] := key [111, 102, 102] (by intro z hz; simp at hz; omega)
  have k4 : s.toList = [98, 108, 111, 99, 107] ↔ l = [98, 108, 111, 99, 107] := key [98, 108, 111, 99, 107] (by intro z hz; simp at hz; omega)
  have k5 : s.toList = [97, 108, 105, 103, 110] ↔ l = [97, 108, 105, 103, 110] := key [97, 108, 105, 103, 110] (by intro z hz; simp at hz; omega)
  have k6 : s.toList = [115, 121, 110, 99] ↔ l = [115, 121, 110, 99] := key [115, 121, 110, 99] (by intro z hz; simp at hz; omega)
  clear key h
  by_cases c1 : l = [108, 111, 110, 103]
  · have d1 := k1.2 c1
    have e : markL l = true := by rw [c1]; decide
    rw [e]
    clear k1 k2 k3 k4 k5 k6 e c1
    go_enter Tryz.func118, Tryz.ntmps118
    go_wp2_with fail
    go_ret
    exact ⟨rfl, rfl⟩
  · have d1 : ¬ s.toList = [108, 111, 110, 103] := fun x => c1 (k1.1 x)
    clear k1
    by_cases c2 : l = [114, 101, 115]
    · have d2 := k2.2 c2
      have e : markL l = true := by rw [c2]; decide
      rw [e]
      clear k2 k3 k4 k5 k6 e c2
      go_enter Tryz.func118, Tryz.ntmps118
      go_wp2_with fail
      go_ret
      exact ⟨rfl, rfl⟩
    · have d2 : ¬ s.toList = [114, 101, 115] := fun x => c2 (k2.1 x)
      clear k2
      by_cases c3 : l = [111, 102, 102]
      · have d3 := k3.2 c3
        have e : markL l = true := by rw [c3]; decide
        rw [e]
        clear k3 k4 k5 k6 e c3
        go_enter Tryz.func118, Tryz.ntmps118
        go_wp2_with fail
        go_ret
        exact ⟨rfl, rfl⟩
      · have d3 : ¬ s.toList = [111, 102, 102] := fun x => c3 (k3.1 x)
        clear k3
        by_cases c4 : l = [98, 108, 111, 99, 107]
        · have d4 := k4.2 c4
          have e : markL l = true := by rw [c4]; decide
          rw [e]
          clear k4 k5 k6 e c4
          go_enter Tryz.func118, Tryz.ntmps118
          go_wp2_with fail
          go_ret
          exact ⟨rfl, rfl⟩
        · have d4 : ¬ s.toList = [98, 108, 111, 99, 107] := fun x => c4 (k4.1 x)
          clear k4
          by_cases c5 : l = [97, 108, 105, 103, 110]
          · have d5 := k5.2 c5
            have e : markL l = true := by rw [c5]; decide
            rw [e]
            clear k5 k6 e c5
            go_enter Tryz.func118, Tryz.ntmps118
            go_wp2_with fail
            go_ret
            exact ⟨rfl, rfl⟩
          · have d5 : ¬ s.toList = [97, 108, 105, 103, 110] := fun x => c5 (k5.1 x)
            clear k5
            by_cases c6 : l = [115, 121, 110, 99]
            · have d6 := k6.2 c6
              have e : markL l = true := by rw [c6]; decide
              rw [e]
              clear k6 e c6
              go_enter Tryz.func118, Tryz.ntmps118
              go_wp2_with fail
              go_ret
              exact ⟨rfl, rfl⟩
            · have d6 : ¬ s.toList = [115, 121, 110, 99] := fun x => c6 (k6.1 x)
              clear k6
              have e : markL l = false := by
                unfold markL marks
                simp [c1, c2, c3, c4, c5, c6]
              rw [e]
              clear e c1 c2 c3 c4 c5 c6
              have b1 := beq_eq_false_iff_ne.2 d1
              have b2 := beq_eq_false_iff_ne.2 d2
              have b3 := beq_eq_false_iff_ne.2 d3
              have b4 := beq_eq_false_iff_ne.2 d4
              have b5 := beq_eq_false_iff_ne.2 d5
              have b6 := beq_eq_false_iff_ne.2 d6
              go_enter Tryz.func118, Tryz.ntmps118
              go_wp2_with fail
              go_ret
              exact ⟨rfl, rfl⟩
end Go.Proofs.YtfcfcgeodghmpaaGreatDoor.T

/- Contracts of package token: what a tail begins by, its digits, its name. -/
namespace Go.Proofs.YtfcfcgeodghmpaaGreatDoor.T
open Go.RowKit
set_option linter.unusedVariables false
set_option linter.unusedSimpArgs false

theorem Bs.bytesIn {w : World} {a : Option Addr} {len cap : Nat} {l : List Int} (h : Bs w a len cap l) : Lib.BytesIn w a len l := by
  intro hp
  obtain ⟨b, off, ha, hb⟩ := h.open hp
  exact ⟨b, off, ha, hb.hcell⟩
def pre (p l : List Int) : Bool := decide (l.take p.length = p)
theorem pre_is {p l : List Int} (hp : U.isBytes p) (hl : U.isBytes l) : Lib.hasPrefix (Lib.bytesOf l) (Lib.bytesOf p) = pre p l := by
  unfold Lib.hasPrefix Lib.bytesOf pre
  induction p generalizing l with
  | nil => simp
  | cons x p ih =>
    cases l with
    | nil => simp [List.isPrefixOf]
    | cons y l =>
      have hx := hp x (List.mem_cons_self ..)
      have hy := hl y (List.mem_cons_self ..)
      have := ih (l := l) (fun z hz => hp z (List.mem_cons_of_mem _ hz)) (fun z hz => hl z (List.mem_cons_of_mem _ hz))
      rw [List.map_cons, List.map_cons, List.isPrefixOf, this, Bool.eq_iff_iff]
      simp only [Bool.and_eq_true, beq_iff_eq, decide_eq_true_eq, List.length_cons, List.take_succ_cons, List.cons.injEq]
      refine and_congr_left fun _ => ⟨fun h => ?_, fun h => by rw [h]⟩
      have := congrArg UInt8.toNat h
      simp [UInt8.toNat_ofNat'] at this
      omega
theorem bs_conv' (w : World) {s : ByteArray} {l : List Int} (h : St s l) (hl : l.length ≤ maxLen) (fr : Nat × Nat) :
    Bs ((w.alloc (.cells (bytesRow s (grownCap w s.size 0 5)) 5 fr)).drew) (some ⟨w.heap.size, 0, none⟩) s.size (grownCap w s.size 0 5) l := bs_conv w h hl fr
theorem new_drew' {w : World} (o : Obj) : Below w.heap.size w (w.alloc o).drew := ((Below.refl _ _).alloc (Nat.le_refl _) o).trans (draws_b (k := 1))
set_option maxRecDepth 20000 in
set_option maxHeartbeats 1000000 in
theorem begins_l (a : Option Addr) (len cap : Nat) (l : List Int) (w : World) (h : Bs w a len cap l) (s : ByteArray) (p : List Int) (hs : St s p) (hp : p.length ≤ 1000) :
    Calls Tryz.prog 120 #[.slice a len cap, .string s] w fun e w' => e = .returned (.bool (pre p l)) ∧ Below w.heap.size w w' := by
  have kc := fun W => run_bytes_of_string (P := Tryz.prog) W 9 54 5 s Tryz.underlying9 Tryz.underlying54 Tryz.underlying5
  have hsz := hs.size
  have BC := hideR (fun W fr => bs_conv' W hs (by unfold maxLen; omega) fr)
  have CP : ∀ W x c, Bs W a len cap l → Bs W x s.size c p → Calls Tryz.prog 144 #[.slice a len cap, .slice x s.size c] W fun e w' => e = .returned (.bool (pre p l)) ∧ w' = W := by
    intro W x c h1 h2
    have := Any.bytes_HasPrefix_all hasPre_lays a x len cap s.size c l p W h1.hlen h2.hlen h1.hcap (Bs.bytesIn h1) (Bs.bytesIn h2)
    rw [pre_is hs.2 h1.hbytes] at this
    exact this
  have HB := hideR h
  have CPH := hideR CP
  clear CP h hs hsz
  generalize pre p l = r at *
  go_enter Tryz.func120, Tryz.ntmps120
  go_wp2_with fail
  refine (unhideR CPH _ _ _ (Bs.later (unhideR HB) (new_drew' _) (Nat.le_refl _)) (unhideR BC _ _)).mono ?_
  rintro e w1 ⟨rfl, hw1⟩
  subst hw1
  go_wp2_with fail
  go_ret
  exact ⟨rfl, new_drew' _⟩
end Go.Proofs.YtfcfcgeodghmpaaGreatDoor.T

namespace Go.Proofs.YtfcfcgeodghmpaaGreatDoor.T
open Go.RowKit
set_option linter.unusedVariables false
set_option linter.unusedSimpArgs false

theorem bat {w : World} {b off len cap : Nat} {l : List Int} (h : Bb w b off len cap l) (k : Nat) (hk : k < len) :
    ∃ z, l.getD k 0 = z ∧ 0 ≤ z ∧ z ≤ 255 ∧ w.cell? ⟨b, off + k, none⟩ = some (.int .u8 z) :=
  ⟨_, rfl, (U.isBytes_getD h.hbytes k).1, (U.isBytes_getD h.hbytes k).2, h.hcell k hk⟩
theorem ret_two {a b c d : Int} (h : a = c) (h2 : b = d) : Ending.returned (.tuple #[.int .i64 a, .int .i64 b]) = .returned (.tuple #[.int .i64 c, .int .i64 d]) := by rw [h, h2]
theorem bnd_pow {j : Nat} (h : j ≤ 6) : 0 ≤ bnd j ∧ bnd j ≤ 16777215 := bnd_le j (by omega)

set_option maxRecDepth 20000 in
set_option maxHeartbeats 2000000 in
theorem number_l (a : Option Addr) (len cap : Nat) (l : List Int) (w : World) (h : Bs w a len cap l) (hl : len ≤ 1000000) (M : Nat) (hM : M ≤ 6) :
    Calls Tryz.prog 155 #[.slice a len cap, .int .i64 M] w fun e w' => e = .returned (.tuple #[.int .i64 (digF M 0 l).1, .int .i64 ((digF M 0 l).2 : Nat)]) ∧ w' = w := by
  have CD := hideR digit_l
  have hlen := h.hlen
  have HB := hideR h
  clear h
  go_enter Tryz.func155, Tryz.ntmps155
  go_wp2_with fail
  go_loopw [6, 7] (fun u q wr => ∃ (v : Int) (j : Nat), j ≤ M ∧ j ≤ len ∧ 0 ≤ v ∧ v ≤ bnd j ∧ u = .int .i64 v ∧ q = .int .i64 (j : Int) ∧ Hid (digF M 0 l = ((digF (M - j) v (l.drop j)).1, (digF (M - j) v (l.drop j)).2 + j)) ∧ wr = w) (fun _ q _ => len - (intOf q).toNat)
  case atStart => exact ⟨0, 0, by omega, by omega, by omega, by decide, rfl, rfl, rfl, by trivial⟩
  case round =>
    obtain ⟨v, j, hj, hjl, v0, v1, rfl, rfl, hg, hww⟩ := hrel
    obtain rfl : wr = w := hww
    have hbj := bnd_pow (j := j) (by omega)
    by_cases i1 : j < len
    · by_cases i2 : j < M
      · obtain ⟨b, off, rfl, hb⟩ := (unhideR HB).open (by omega)
        obtain ⟨z, hz, z0, z1, cz⟩ := bat hb j i1
        have vr := val_range z
        have C1 := hideR (unhideR CD z z0 z1)
        by_cases i3 : 0 ≤ valI z
        · have dy := dig_yes (m := M - (j + 1)) (v := v) (l := l) (k := j) (by omega) (by rw [hz]; exact i3)
          rw [show M - (j + 1) + 1 = M - j by omega, hz] at dy
          have hg2 : Hid (digF M 0 l = ((digF (M - (j + 1)) (16 * v + valI z) (l.drop (j + 1))).1, (digF (M - (j + 1)) (16 * v + valI z) (l.drop (j + 1))).2 + (j + 1))) := by
            show _ = _
            rw [hg.out, dy]
            simp only [Prod.mk.injEq, true_and]
            omega
          have hb2 : 16 * v + valI z ≤ bnd (j + 1) := by
            show _ ≤ 16 * bnd j + 15
            omega
          clear CD HB hb dy hg hz
          generalize valI z = d at *
          have t1 : ¬ d < 0 := by omega
          go_wp2_with fail
          refine (unhideR C1 _).mono ?_
          rintro e w1 ⟨rfl, hw1⟩
          obtain rfl : wr = w1 := hw1.symm
          clear hw1 C1
          go_wp2_with fail
          go_roundw
          case rel => exact ⟨16 * v + d, j + 1, by omega, by omega, by omega, hb2, by go_num, by go_num, hg2, by trivial⟩
          case measure => simp [intOf]; omega
        · have dn := dig_no (m := M - j) (v := v) (l := l) (k := j) (by rw [hz]; omega)
          have hg2 : digF M 0 l = (v, j) := by
            rw [hg.out, dn]
            simp only [Nat.zero_add]
          clear CD HB hb dn hg hz
          have HG := hideR hg2
          clear hg2
          generalize valI z = d at *
          have t1 : d < 0 := by omega
          go_wp2_with fail
          refine (unhideR C1 _).mono ?_
          rintro e w1 ⟨rfl, hw1⟩
          obtain rfl : wr = w1 := hw1.symm
          clear hw1 C1
          go_wp2_with fail
          go_ret2
          exact ⟨ret_two (by rw [unhideR HG]) (by rw [unhideR HG]), rfl⟩
      · have hg2 : digF M 0 l = (v, j) := by
          rw [hg.out, show M - j = 0 by omega]
          simp only [digF, Nat.zero_add]
        clear CD HB hg
        have HG := hideR hg2
        clear hg2
        obtain rfl : j = M := by omega
        go_wp2_with fail
        go_ret2
        exact ⟨ret_two (by rw [unhideR HG]) (by rw [unhideR HG]), rfl⟩
    · have hg2 : digF M 0 l = (v, j) := by
        rw [hg.out, dig_over (by omega)]
        simp only [Nat.zero_add]
      clear CD HB hg
      have HG := hideR hg2
      clear hg2
      obtain rfl : j = len := by omega
      go_wp2_with fail
      go_ret2
      exact ⟨ret_two (by rw [unhideR HG]) (by rw [unhideR HG]), rfl⟩

/-! ### HEXes -/
theorem dig_two (l : List Int) : pairR (oneL true l) = if (digF 2 0 l).2 < 2 then (0, 0) else ((digF 2 0 l).1, (digF 2 0 l).2) := by
  unfold oneL hexI pairR
  simp only [if_true]
  have zz : valI 0 = -1 := by decide
  match l with
  | [] => simp [digF, List.getD, zz]
  | [x] =>
    have := val_range x
    by_cases h : 0 ≤ valI x
    · simp [digF, List.getD, zz, h]
    · simp [digF, List.getD, zz, h]
  | x :: y :: t =>
    have h1 := val_range x
    have h2 := val_range y
    by_cases h : 0 ≤ valI x
    · by_cases h' : 0 ≤ valI y
      · have e : ¬ (valI x < 0 ∨ valI y < 0) := by omega
        have e2 : ¬ (16 * valI x + valI y < 0) := by omega
        simp [digF, List.getD, h, h', e, e2]
      · have e : (valI x < 0 ∨ valI y < 0) := by omega
        simp [digF, List.getD, h, h', e]
    · have e : (valI x < 0 ∨ valI y < 0) := by omega
      simp [digF, List.getD, h, e]
theorem dig_bound : ∀ (m : Nat) (l : List Int) (v : Int), (digF m v l).2 ≤ m ∧ (digF m v l).2 ≤ l.length := by
  intro m
  induction m with
  | zero => intro l v; simp [digF]
  | succ m ih =>
    intro l v
    cases l with
    | nil => simp [digF]
    | cons z t =>
      simp only [digF]
      split
      · have := ih t (16 * v + valI z)
        simp only [List.length_cons]
        omega
      · simp
set_option maxRecDepth 20000 in
set_option maxHeartbeats 2000000 in
theorem hex_l (a : Option Addr) (len cap : Nat) (l : List Int) (w : World) (h : Bs w a len cap l) (hl : len ≤ 1000000) :
    Calls Tryz.prog 126 #[.slice a len cap] w fun e w' => e = .returned (.tuple #[.int .i64 (pairR (oneL true l)).1, .int .i64 ((pairR (oneL true l)).2 : Nat)]) ∧ w' = w := by
  have C := hideR (number_l a len cap l w h hl 2 (by omega))
  have hd := dig_bound 2 l 0
  rw [dig_two]
  clear h
  generalize (digF 2 0 l).1 = x at *
  generalize (digF 2 0 l).2 = n at *
  by_cases c : n < 2
  · rw [if_pos c]
    simp only
    go_enter Tryz.func126, Tryz.ntmps126
    go_wp2_with fail
    refine (unhideR C).mono ?_
    rintro e w1 ⟨rfl, hw1⟩
    obtain rfl : w = w1 := hw1.symm
    clear hw1 C
    go_wp2_with fail
    go_ret2
    exact ⟨rfl, rfl⟩
  · rw [if_neg c]
    obtain rfl : n = 2 := by omega
    simp only
    go_enter Tryz.func126, Tryz.ntmps126
    go_wp2_with fail
    refine (unhideR C).mono ?_
    rintro e w1 ⟨rfl, hw1⟩
    obtain rfl : w = w1 := hw1.symm
    clear hw1 C
    go_wp2_with fail
    go_ret2
    exact ⟨rfl, rfl⟩
end Go.Proofs.YtfcfcgeodghmpaaGreatDoor.T

/- Contracts of package token: tails of tails, names, pieces. -/
namespace Go.Proofs.YtfcfcgeodghmpaaGreatDoor.T
open Go.RowKit
set_option linter.unusedVariables false
set_option linter.unusedSimpArgs false

/-! ### A tail, from a place on -/
def dropA (a : Option Addr) (cap k : Nat) : Option Addr := if cap = k then a else a.map (·.add k)
theorem tail_run (a : Option Addr) (len cap k : Nat) (i : Int) (hi : i = (k : Int)) (hk : k ≤ len) : ∀ W, (Instr.slice 104 (.slice a len cap) (some (.int .i64 i)) none none).run Tryz.prog W = .ok (.slice (dropA a cap k) (len - k) (cap - k)) W := by
  intro W
  subst hi
  have hu : Tryz.prog.underlying 104 = some (.slice 5) := Tryz.underlying104
  unfold Instr.slice dropA
  simp [hu, run_underlying, Instr.sliceBounds, Instr.sliceBound, asIntOf, hk, Tryz.sizeOf5]
theorem Bs.dropA {w : World} {a : Option Addr} {len cap : Nat} {l : List Int} (h : Bs w a len cap l) (k : Nat) (hk : k ≤ len) : Bs w (T.dropA a cap k) (len - k) (cap - k) (l.drop k) := by
  have h1 := h.hcap
  have h2 := h.hmax
  refine ⟨by rw [List.length_drop, h.hlen], by omega, by omega, U.isBytes_drop h.hbytes k, fun i hi => ?_⟩
  obtain ⟨b, off, rfl, hc⟩ := h.hcell (k + i) (by omega)
  refine ⟨b, off + k, ?_, ?_⟩
  · unfold T.dropA
    rw [if_neg (by omega)]
    simp [Addr.add]
  · rw [Nat.add_assoc, hc]
    simp [List.getD]

/-! ### Names -/
set_option maxRecDepth 20000 in
set_option maxHeartbeats 2000000 in
theorem nameBytes_l (a : Option Addr) (len cap : Nat) (l : List Int) (w : World) (h : Bs w a len cap l) (hl : len ≤ 1000000) :
    Calls Tryz.prog 117 #[.slice a len cap] w fun e w' => e = .returned (.int .i64 (wordN l : Nat)) ∧ w' = w := by
  have hlen := h.hlen
  have CL := hideR isLetter_l
  have CN := hideR isNameByte_l
  by_cases h0 : 0 < len
  · obtain ⟨b, off, rfl, hb⟩ := h.open (by omega)
    obtain ⟨z, hz, z0, z1, cz⟩ := bat hb 0 h0
    rw [Nat.add_zero] at cz
    have C1 := hideR (unhideR CL z z0 z1)
    by_cases hL : isLet z = true
    · have hw : wordN l = tailN (l.drop 1) + 1 := by unfold wordN; rw [hz, if_pos hL]
      rw [hL] at C1
      have HW := hideR hw
      have HB := hideR hb
      have t0 : ((len : Int) == 0) = false := beq_eq_false_iff_ne.2 (by omega)
      clear h hb hw hL hz
      go_enter Tryz.func117, Tryz.ntmps117
      go_wp2_with fail
      refine (unhideR C1 _).mono ?_
      rintro e w1 ⟨rfl, hw1⟩
      obtain rfl : w = w1 := hw1.symm
      clear hw1 C1 cz
      go_wp2_with fail
      go_loopw [3] (fun u wr => ∃ k : Nat, 1 ≤ k ∧ k ≤ len ∧ u = .int .i64 (k : Int) ∧ Hid (wordN l = tailN (l.drop k) + k) ∧ wr = w) (fun u _ => len - (intOf u).toNat)
      case atStart => exact ⟨1, by omega, by omega, rfl, unhideR HW, by trivial⟩
      case round =>
        obtain ⟨k, hk1, hk2, rfl, hg, hww⟩ := hrel
        obtain rfl : wr = w := hww
        by_cases hlt : k < len
        · obtain ⟨y, hy, y0, y1, cy⟩ := bat (unhideR HB) k hlt
          have ta := tail_at (l := l) (k := k) (by omega)
          rw [hy] at ta
          have C2 := hideR (unhideR CN y y0 y1)
          cases hW : isW y with
          | true =>
            rw [hW] at ta C2
            simp only [if_true] at ta
            have hg2 : Hid (wordN l = tailN (l.drop (k + 1)) + (k + 1)) := by
              show _ = _
              rw [hg.out, ta]
              omega
            clear CL CN HW HB ta hg hW hy
            go_wp2_with fail
            refine (unhideR C2 _).mono ?_
            rintro e w1 ⟨rfl, hw1⟩
            obtain rfl : wr = w1 := hw1.symm
            clear hw1 C2
            go_wp2_with fail
            go_roundw
            case rel => exact ⟨k + 1, by omega, by omega, by go_num, hg2, by trivial⟩
            case measure => simp [intOf]; omega
          | false =>
            rw [hW] at ta C2
            simp only [Bool.false_eq_true, if_false] at ta
            have HG : Hid (wordN l = k) := by
              show _ = _
              rw [hg.out, ta, Nat.zero_add]
            clear CL CN HW HB ta hg hW hy
            go_wp2_with fail
            refine (unhideR C2 _).mono ?_
            rintro e w1 ⟨rfl, hw1⟩
            obtain rfl : wr = w1 := hw1.symm
            clear hw1 C2
            go_wp2_with fail
            go_ret
            exact ⟨by rw [unhideR HG]; rfl, rfl⟩
        · have HG : Hid (wordN l = k) := by
            show _ = _
            rw [hg.out, List.drop_of_length_le (by omega)]
            show 0 + k = k
            omega
          clear CL CN HW HB hg
          obtain rfl : k = len := by omega
          go_wp2_with fail
          go_ret
          exact ⟨by rw [unhideR HG]; rfl, rfl⟩
    · have hL' : isLet z = false := by simpa using hL
      have hw : wordN l = 0 := by unfold wordN; rw [hz, if_neg hL]
      rw [hL'] at C1
      rw [hw]
      clear h hb hw hL hL' hz
      go_enter Tryz.func117, Tryz.ntmps117
      go_wp2_with fail
      refine (unhideR C1 _).mono ?_
      rintro e w1 ⟨rfl, hw1⟩
      obtain rfl : w = w1 := hw1.symm
      clear hw1 C1 cz
      go_wp2_with fail
      go_ret
      exact ⟨rfl, rfl⟩
  · obtain rfl : len = 0 := by omega
    obtain rfl : l = [] := List.eq_nil_of_length_eq_zero hlen
    have hw : wordN [] = 0 := by decide
    rw [hw]
    go_enter Tryz.func117, Tryz.ntmps117
    go_wp2_with fail
    go_ret
    exact ⟨rfl, rfl⟩

/-! ### Pieces -/
def pieceP (l : List Int) : Option (Int × Nat) := if l.getD 0 0 = 34 then none else pieceL l
theorem ret_bi {a b c d : Int} (h : a = c) (h2 : b = d) : Ending.returned (.tuple #[.int .u8 a, .int .i64 b]) = .returned (.tuple #[.int .u8 c, .int .i64 d]) := by rw [h, h2]
theorem pre2 {x y : Int} {l : List Int} (hx : x ≠ 0) : pre [x, y] l = true → 2 ≤ l.length ∧ l.getD 0 0 = x ∧ l.getD 1 0 = y := by
  intro h
  unfold pre at h
  rw [decide_eq_true_eq] at h
  match l, h with
  | [], h => simp at h
  | [p], h => simp at h
  | p :: q :: t, h => simp at h; exact ⟨by simp, by simp [h.1], by simp [h.2]⟩
theorem pre2' {x y : Int} {l : List Int} (hy : y ≠ 0) : pre [x, y] l = false → ¬ (l.getD 0 0 = x ∧ l.getD 1 0 = y) := by
  intro h c
  unfold pre at h
  rw [decide_eq_false_iff_not] at h
  match l with
  | [] => simp [List.getD] at c; omega
  | [p] => simp [List.getD] at c; omega
  | p :: q :: t => exact h (by simp [List.getD] at c; simp [c.1, c.2])
theorem pre1 {x : Int} {l : List Int} : pre [x] l = true → 1 ≤ l.length ∧ l.getD 0 0 = x := by
  intro h
  unfold pre at h
  rw [decide_eq_true_eq] at h
  match l, h with
  | [], h => simp at h
  | p :: t, h => simp at h; exact ⟨by simp, by simp [h]⟩
theorem pre1' {x : Int} {l : List Int} (hx : x ≠ 0) : pre [x] l = false → l.getD 0 0 ≠ x := by
  intro h c
  unfold pre at h
  rw [decide_eq_false_iff_not] at h
  match l with
  | [] => simp [List.getD] at c; omega
  | p :: t => exact h (by simp [List.getD] at c; simp [c])
theorem one_hex_pair (l : List Int) : (pairR (oneL true l) = (0, 0) ∧ hexI l < 0) ∨ (pairR (oneL true l) = (hexI l, 2) ∧ 0 ≤ hexI l ∧ hexI l ≤ 255) := by
  unfold oneL pairR
  simp only [if_true]
  have := hex_range l
  by_cases c : hexI l < 0
  · exact .inl ⟨by rw [if_pos c]; rfl, c⟩
  · exact .inr ⟨by rw [if_neg c]; rfl, by omega, by omega⟩
theorem st_bx : St ⟨#[92, 120]⟩ [92, 120] := ⟨rfl, by intro z hz; simp at hz; omega⟩
set_option maxRecDepth 20000 in
set_option maxHeartbeats 2000000 in
theorem piece_l (a : Option Addr) (len cap : Nat) (l : List Int) (w : World) (h : Bs w a len cap l) (hl : len ≤ 1000000) :
    Calls Tryz.prog 119 #[.slice a len cap] w fun e w' => e = .returned (.tuple #[.int .u8 (pairR (pieceP l)).1, .int .i64 ((pairR (pieceP l)).2 : Nat)]) ∧ Below w.heap.size w w' := by
  have hlen := h.hlen
  have CB := hideR (begins_l a len cap l w h ⟨#[92, 120]⟩ [92, 120] st_bx (by simp))
  cases hp : pre [92, 120] l with
  | true =>
    obtain ⟨p1, p2, p3⟩ := pre2 (by omega) hp
    have ep : pieceP l = if 0 ≤ hexI (l.drop 2) then some (hexI (l.drop 2), 4) else none := by
      unfold pieceP pieceL
      rw [if_neg (by rw [p2]; omega), if_pos p2]
      simp only [p3, true_and]
    have sl := tail_run a len cap 2 2 rfl (by omega)
    have CH := hideR (fun W (hB : Bs W a len cap l) => hex_l _ _ _ _ W (Bs.dropA hB 2 (by omega)) (by omega))
    rw [ep]
    rw [hp] at CB
    have HB := hideR h
    clear h ep hp p2 p3
    rcases one_hex_pair (l.drop 2) with ⟨e1, e2⟩ | ⟨e1, e2, e3⟩
    · rw [e1] at CH
      rw [if_neg (by omega)]
      show Calls _ _ _ _ fun e w' => e = .returned (.tuple #[.int .u8 0, .int .i64 0]) ∧ Below w.heap.size w w'
      clear e1 e2
      go_enter Tryz.func119, Tryz.ntmps119
      go_wp2_with fail
      refine (unhideR CB).mono ?_
      rintro e w1 ⟨rfl, b1⟩
      clear CB
      have HB1 := hideR (Bs.later (unhideR HB) b1 (Nat.le_refl _))
      clear HB
      go_wp2_with fail
      refine (unhideR CH _ (unhideR HB1)).mono ?_
      rintro e w2 ⟨rfl, hw2⟩
      obtain rfl : w1 = w2 := hw2.symm
      clear hw2 CH
      go_wp2_with fail
      go_ret2
      exact ⟨rfl, b1⟩
    · rw [e1] at CH
      rw [if_pos (by omega)]
      show Calls _ _ _ _ fun e w' => e = .returned (.tuple #[.int .u8 (hexI (l.drop 2)), .int .i64 4]) ∧ Below w.heap.size w w'
      clear e1
      generalize hexI (l.drop 2) = v at *
      go_enter Tryz.func119, Tryz.ntmps119
      go_wp2_with fail
      refine (unhideR CB).mono ?_
      rintro e w1 ⟨rfl, b1⟩
      clear CB
      have HB1 := hideR (Bs.later (unhideR HB) b1 (Nat.le_refl _))
      clear HB
      go_wp2_with fail
      refine (unhideR CH _ (unhideR HB1)).mono ?_
      rintro e w2 ⟨rfl, hw2⟩
      obtain rfl : w1 = w2 := hw2.symm
      clear hw2 CH
      go_wp2_with fail
      go_ret2
      exact ⟨ret_bi (by go_num) rfl, b1⟩
  | false =>
    have pp := pre2' (by omega) hp
    rw [hp] at CB
    by_cases h0 : 0 < len
    · obtain ⟨b, off, rfl, hb⟩ := h.open (by omega)
      obtain ⟨z, hz, z0, z1, cz⟩ := bat hb 0 h0
      rw [Nat.add_zero] at cz
      have CS := hideR (standsInLit_l z z0 z1)
      have HB := hideR h
      cases hr : rawB z with
      | true =>
        have ep : pieceP l = some (z, 1) := by
          unfold rawB at hr
          simp at hr
          unfold pieceP pieceL
          rw [hz, if_neg (by omega), if_neg (by omega), if_neg (by omega)]
        rw [ep]
        rw [hr] at CS
        show Calls _ _ _ _ fun e w' => e = .returned (.tuple #[.int .u8 z, .int .i64 1]) ∧ Below w.heap.size w w'
        clear h hb ep hr pp hp hz
        go_enter Tryz.func119, Tryz.ntmps119
        go_wp2_with fail
        refine (unhideR CB).mono ?_
        rintro e w1 ⟨rfl, b1⟩
        clear CB
        have cz1 : w1.cell? ⟨b, off, none⟩ = some (.int .u8 z) := by rw [b1.cell (block_lt' cz)]; exact cz
        clear cz HB
        go_wp2_with fail
        refine (unhideR CS _).mono ?_
        rintro e w2 ⟨rfl, hw2⟩
        obtain rfl : w1 = w2 := hw2.symm
        clear hw2 CS
        go_wp2_with fail
        go_ret2
        exact ⟨rfl, b1⟩
      | false =>
        have ep : pieceP l = none := by
          unfold rawB at hr
          simp at hr
          unfold pieceP
          rw [hz]
          by_cases c34 : z = 34
          · rw [if_pos c34]
          · rw [if_neg c34]
            unfold pieceL
            rw [hz]
            by_cases c92 : z = 92
            · rw [if_pos c92, if_neg (by intro c; exact pp ⟨by rw [hz, c92], c.1⟩)]
            · rw [if_neg c92, if_pos (by omega)]
        rw [ep]
        rw [hr] at CS
        show Calls _ _ _ _ fun e w' => e = .returned (.tuple #[.int .u8 0, .int .i64 0]) ∧ Below w.heap.size w w'
        clear h hb ep hr pp hp hz
        go_enter Tryz.func119, Tryz.ntmps119
        go_wp2_with fail
        refine (unhideR CB).mono ?_
        rintro e w1 ⟨rfl, b1⟩
        clear CB
        have cz1 : w1.cell? ⟨b, off, none⟩ = some (.int .u8 z) := by rw [b1.cell (block_lt' cz)]; exact cz
        clear cz HB
        go_wp2_with fail
        refine (unhideR CS _).mono ?_
        rintro e w2 ⟨rfl, hw2⟩
        obtain rfl : w1 = w2 := hw2.symm
        clear hw2 CS
        go_wp2_with fail
        go_ret2
        exact ⟨rfl, b1⟩
    · obtain rfl : len = 0 := by omega
      obtain rfl : l = [] := List.eq_nil_of_length_eq_zero hlen
      have ep : pairR (pieceP []) = (0, 0) := by decide
      rw [ep]
      clear h ep pp hp
      go_enter Tryz.func119, Tryz.ntmps119
      go_wp2_with fail
      refine (unhideR CB).mono ?_
      rintro e w1 ⟨rfl, b1⟩
      clear CB
      go_wp2_with fail
      go_ret2
      exact ⟨rfl, b1⟩
end Go.Proofs.YtfcfcgeodghmpaaGreatDoor.T

namespace Go.Proofs.YtfcfcgeodghmpaaGreatDoor
open Go.RowKit
set_option linter.unusedVariables false

theorem Below.next {w w1 w2 : World} (h : Below w.heap.size w w1) (k : Below w1.heap.size w1 w2) : Below w.heap.size w w2 := h.trans (k.mono h.size)

theorem wrapI (n : Int) (h : -9223372036854775808 ≤ n ∧ n ≤ 9223372036854775807) : IntKind.i64.wrap n = n := by rw [IntKind.wrap_i64]; omega

theorem Bs.none {w : World} {a : Option Addr} {cap : Nat} (hc : cap ≤ maxLen) : Bs w a 0 cap [] := ⟨rfl, Nat.zero_le _, hc, fun z hz => by simp at hz, fun i hi => by omega⟩

end Go.Proofs.YtfcfcgeodghmpaaGreatDoor

namespace Go.Proofs.YtfcfcgeodghmpaaGreatDoor.T
open Go.RowKit
set_option linter.unusedVariables false
set_option linter.unusedSimpArgs false

def clsB (r : Int) : Bool := decide (r = 91 ∨ r = 93 ∨ r = 94 ∨ r = 45 ∨ r = 92)
theorem st_five : St ⟨#[91, 93, 94, 45, 92]⟩ [91, 93, 94, 45, 92] := ⟨rfl, by intro z hz; simp at hz; omega⟩
theorem ix_none : ∀ (l : List UInt8) (c : UInt8), (∀ x ∈ l, x ≠ c) → Lib.indexByte l c = -1 := by
  intro l c
  induction l with
  | nil => intro _; rfl
  | cons b t ih =>
    intro h
    have h1 := h b (List.mem_cons_self ..)
    have h2 := ih fun x hx => h x (List.mem_cons_of_mem _ hx)
    unfold Lib.indexByte
    rw [h2]
    simp [h1]
theorem ix_five : ∀ n : Fin 128, decide (0 ≤ Lib.indexByte [91, 93, 94, 45, 92] (n.val : Int).toNat.toUInt8) = clsB (n.val : Int) := by decide +kernel
theorem ix_five' {z : Int} (h0 : 0 ≤ z) (h1 : z < 128) : decide (0 ≤ Lib.indexByte [91, 93, 94, 45, 92] z.toNat.toUInt8) = clsB z := by
  have := ix_five ⟨z.toNat, by omega⟩
  simp only [Int.toNat_of_nonneg h0] at this
  exact this
theorem ixByte_any (b : ByteArray) (c : Int) (W : World) : Calls Tryz.prog 204 #[.string b, .int .u8 c] W fun e w' => e = .returned (.int .i64 (Lib.indexByte b.data.toList c.toNat.toUInt8)) ∧ w' = W :=
  Any.strings_IndexByte ixByte_lays b c W
theorem ixByte_hi (b : ByteArray) (hb : b.data.toList.all (fun x => decide (x.toNat < 128)) = true) (c : Int) (h0 : 128 ≤ c) (h1 : c ≤ 255) (W : World) : Calls Tryz.prog 204 #[.string b, .int .u8 c] W fun e w' => e = .returned (.int .i64 (-1)) ∧ w' = W := by
  have := ixByte_any b c W
  rw [ix_none _ _ (fun x hx e => by
    have h := List.all_eq_true.1 hb x hx
    rw [decide_eq_true_eq] at h
    rw [e] at h
    have : (c.toNat.toUInt8).toNat = c.toNat % 256 := by simp
    omega)] at this
  exact this
theorem enc_hi {r : Int} (h0 : 128 ≤ r) (h1 : U.mayB r = true) : ∃ (n : Nat) (c : Int), 1 ≤ n ∧ n ≤ 3 ∧ 128 ≤ c ∧ c ≤ 255 ∧ (Utf8.encode r).size = n + 1 ∧ ∀ W, (Instr.index 9 (.string (Utf8.encode r)) (.int .i64 (n : Int))).run Tryz.prog W = .ok (.int .u8 c) W := by
  have hm := (U.may_iff r).1 h1
  have hv : Utf8.valid r = true := by
    unfold Utf8.valid
    simp
    omega
  have key : ∀ (m : Nat) (a : List Int), U.isBytes a → Utf8.encode r = strOfNums a → a.length = m + 1 → 1 ≤ m → m ≤ 3 → 128 ≤ a.getD m 0 →
      ∃ (n : Nat) (c : Int), 1 ≤ n ∧ n ≤ 3 ∧ 128 ≤ c ∧ c ≤ 255 ∧ (Utf8.encode r).size = n + 1 ∧ ∀ W, (Instr.index 9 (.string (Utf8.encode r)) (.int .i64 (n : Int))).run Tryz.prog W = .ok (.int .u8 c) W := by
    intro m a ha he hl hm1 hm2 hc
    have hs : St (Utf8.encode r) a := ⟨he, ha⟩
    exact ⟨m, a.getD m 0, hm1, hm2, hc, (U.isBytes_getD ha m).2, by rw [hs.size, hl], hs.ix (by omega)⟩
  have hr : r.toNat < 1114112 := by omega
  by_cases c1 : r.toNat < 2048
  · refine key 1 [((192 + r.toNat / 64 : Nat) : Int), ((128 + r.toNat % 64 : Nat) : Int)] ?_ ?_ rfl (by omega) (by omega) (by show (128 : Int) ≤ ((128 + r.toNat % 64 : Nat) : Int); omega)
    · intro z hz; simp at hz; omega
    · unfold Utf8.encode
      simp only [hv, if_true]
      rw [if_neg (by omega), if_pos (by omega)]
      rfl
  · by_cases c2 : r.toNat < 65536
    · refine key 2 [((224 + r.toNat / 4096 : Nat) : Int), ((128 + r.toNat / 64 % 64 : Nat) : Int), ((128 + r.toNat % 64 : Nat) : Int)] ?_ ?_ rfl (by omega) (by omega) (by show (128 : Int) ≤ ((128 + r.toNat % 64 : Nat) : Int); omega)
      · intro z hz; simp at hz; omega
      · unfold Utf8.encode
        simp only [hv, if_true]
        rw [if_neg (by omega), if_neg (by omega), if_pos (by omega)]
        rfl
    · refine key 3 [((240 + r.toNat / 262144 : Nat) : Int), ((128 + r.toNat / 4096 % 64 : Nat) : Int), ((128 + r.toNat / 64 % 64 : Nat) : Int), ((128 + r.toNat % 64 : Nat) : Int)] ?_ ?_ rfl (by omega) (by omega) (by show (128 : Int) ≤ ((128 + r.toNat % 64 : Nat) : Int); omega)
      · intro z hz; simp at hz; omega
      · unfold Utf8.encode
        simp only [hv, if_true]
        rw [if_neg (by omega), if_neg (by omega), if_neg (by omega)]
        rfl
set_option maxHeartbeats 400000 in
theorem validRune_l (r : Int) (hm : U.mayB r = true) (w : World) : Calls Tryz.prog 208 #[.int .i32 r] w fun e w' => e = .returned (.bool true) ∧ w' = w := by
  have h := (U.may_iff r).1 hm
  by_cases c : r < 55296
  · have c0 : 0 ≤ r := by omega
    clear h hm
    go_enter Tryz.func208, Tryz.ntmps208
    go_wp2
    go_ret
    exact ⟨rfl, rfl⟩
  · have c0 : 0 ≤ r := by omega
    have c1 : 57343 < r := by omega
    have c2 : r ≤ 1114111 := by omega
    clear h hm
    go_enter Tryz.func208, Tryz.ntmps208
    go_wp2
    go_ret
    exact ⟨rfl, rfl⟩
set_option maxRecDepth 20000 in
set_option maxHeartbeats 4000000 in
theorem ixRune_low (r : Int) (h0 : 0 ≤ r) (h1 : r < 128) (w : World) : Calls Tryz.prog 189 #[.string ⟨#[91, 93, 94, 45, 92]⟩, .int .i32 r] w fun e w' => (∃ v : Int, e = .returned (.int .i64 v) ∧ decide (0 ≤ v) = clsB r) ∧ Below w.heap.size w w' := by
  have C := hideR (fun W => ixByte_any ⟨#[91, 93, 94, 45, 92]⟩ r W)
  have HC := hideR (ix_five' h0 h1)
  show Calls _ _ _ _ _
  go_enter Tryz.func189, Tryz.ntmps189
  go_wp2_with fail
  refine (unhideR C _).mono ?_
  rintro e w1 ⟨rfl, hw1⟩
  obtain rfl : w = w1 := hw1.symm
  clear hw1 C
  go_wp2_with fail
  go_ret
  exact ⟨⟨_, rfl, unhideR HC⟩, Below.refl _ _⟩
set_option maxRecDepth 20000 in
set_option maxHeartbeats 4000000 in
theorem ixRune_hi (r : Int) (h0 : 128 ≤ r) (hne : (r == 65533) = false) (hm : U.mayB r = true) (w : World) : Calls Tryz.prog 189 #[.string ⟨#[91, 93, 94, 45, 92]⟩, .int .i32 r] w fun e w' => e = .returned (.int .i64 (-1)) ∧ Below w.heap.size w w' := by
  have CV := hideR (fun W => validRune_l r hm W)
  have hr := (U.may_iff r).1 hm
  obtain ⟨n, c, n1, n2, c0, c1, hsz, hix⟩ := enc_hi h0 hm
  have CI := hideR (fun b (hb : b.data.toList.all (fun x => decide (x.toNat < 128)) = true) W => ixByte_hi b hb c c0 c1 W)
  have cv := fun W => run_convert_int_string (P := Tryz.prog) W 21 9 .i32 r (by rw [Tryz.underlying21]; rfl) Tryz.underlying9
  have t1 : ¬ r < 128 := by omega
  have t2 : 0 ≤ r := by omega
  generalize Utf8.encode r = E at *
  clear hm hr
  have e1 : n = 1 ∨ n = 2 ∨ n = 3 := by omega
  rcases e1 with rfl | rfl | rfl
  · have hix1 : ∀ W, (Instr.index 9 (.string E) (.int .i64 1)).run Tryz.prog W = .ok (.int .u8 c) W := hix
    have hs1 : E.size = 2 := hsz
    have hi5 : ∀ W, (Instr.index 9 (.string ⟨#[91, 93, 94, 45, 92]⟩) (.int .i64 1)).run Tryz.prog W = .ok (.int .u8 93) W := st_five.ix (k := 1) (by simp)
    have hs5 : ∀ W, (Instr.slice 9 (.string ⟨#[91, 93, 94, 45, 92]⟩) (some (.int .i64 2)) none none).run Tryz.prog W = .ok (.string ⟨#[94, 45, 92]⟩) W := st_five.tail (a := 2) (by simp)
    have t5 : (((93 : Int)) == c) = false := beq_eq_false_iff_ne.2 (by omega)
    have t6 := wrapI 2 (by omega)
    have C1 := hideR (unhideR CI ⟨#[94, 45, 92]⟩ (by decide))
    clear hix hsz n1 n2 CI
    go_enter Tryz.func189, Tryz.ntmps189
    go_wp2_with fail
    refine (unhideR CV _).mono ?_
    rintro e w1 ⟨rfl, hw1⟩
    obtain rfl : w = w1 := hw1.symm
    clear hw1 CV
    go_wp2_with fail
    go_step3
    go_wp2_with fail
    go_loopw [9, 10] (fun u v wr => u = .int .i64 1 ∧ v = .int .i64 0 ∧ wr = w) (fun _ _ _ => 0)
    case atStart => exact ⟨by go_num, rfl, by trivial⟩
    case round =>
      obtain ⟨rfl, rfl, hww⟩ := hrel
      obtain rfl : wr = w := hww
      go_wp2_with fail
      go_step3
      go_wp2_with fail
      go_quiet ((go_at_call 204; exact (unhideR C1 _).mono (fun _ _ h => ⟨h.1, _, h.2⟩)))
      go_wp2_with fail
      go_quiet ((go_at_call 204; exact (unhideR C1 _).mono (fun _ _ h => ⟨h.1, _, h.2⟩)))
      go_wp2_with fail
      simp +zetaDelta only [Exit.noGoto, Exit.inBlock, Exit.then]
      go_ret
      exact ⟨rfl, draws_b⟩
  · have hix1 : ∀ W, (Instr.index 9 (.string E) (.int .i64 2)).run Tryz.prog W = .ok (.int .u8 c) W := hix
    have hs1 : E.size = 3 := hsz
    have hi5 : ∀ W, (Instr.index 9 (.string ⟨#[91, 93, 94, 45, 92]⟩) (.int .i64 2)).run Tryz.prog W = .ok (.int .u8 94) W := st_five.ix (k := 2) (by simp)
    have hs5 : ∀ W, (Instr.slice 9 (.string ⟨#[91, 93, 94, 45, 92]⟩) (some (.int .i64 3)) none none).run Tryz.prog W = .ok (.string ⟨#[45, 92]⟩) W := st_five.tail (a := 3) (by simp)
    have t5 : (((94 : Int)) == c) = false := beq_eq_false_iff_ne.2 (by omega)
    have t6 := wrapI 3 (by omega)
    have C1 := hideR (unhideR CI ⟨#[45, 92]⟩ (by decide))
    clear hix hsz n1 n2 CI
    go_enter Tryz.func189, Tryz.ntmps189
    go_wp2_with fail
    refine (unhideR CV _).mono ?_
    rintro e w1 ⟨rfl, hw1⟩
    obtain rfl : w = w1 := hw1.symm
    clear hw1 CV
    go_wp2_with fail
    go_step3
    go_wp2_with fail
    go_loopw [9, 10] (fun u v wr => u = .int .i64 2 ∧ v = .int .i64 0 ∧ wr = w) (fun _ _ _ => 0)
    case atStart => exact ⟨by go_num, rfl, by trivial⟩
    case round =>
      obtain ⟨rfl, rfl, hww⟩ := hrel
      obtain rfl : wr = w := hww
      go_wp2_with fail
      go_step3
      go_wp2_with fail
      go_quiet ((go_at_call 204; exact (unhideR C1 _).mono (fun _ _ h => ⟨h.1, _, h.2⟩)))
      go_wp2_with fail
      go_quiet ((go_at_call 204; exact (unhideR C1 _).mono (fun _ _ h => ⟨h.1, _, h.2⟩)))
      go_wp2_with fail
      simp +zetaDelta only [Exit.noGoto, Exit.inBlock, Exit.then]
      go_ret
      exact ⟨rfl, draws_b⟩
  · have hix1 : ∀ W, (Instr.index 9 (.string E) (.int .i64 3)).run Tryz.prog W = .ok (.int .u8 c) W := hix
    have hs1 : E.size = 4 := hsz
    have hi5 : ∀ W, (Instr.index 9 (.string ⟨#[91, 93, 94, 45, 92]⟩) (.int .i64 3)).run Tryz.prog W = .ok (.int .u8 45) W := st_five.ix (k := 3) (by simp)
    have hs5 : ∀ W, (Instr.slice 9 (.string ⟨#[91, 93, 94, 45, 92]⟩) (some (.int .i64 4)) none none).run Tryz.prog W = .ok (.string ⟨#[92]⟩) W := st_five.tail (a := 4) (by simp)
    have t5 : (((45 : Int)) == c) = false := beq_eq_false_iff_ne.2 (by omega)
    have t6 := wrapI 4 (by omega)
    have C1 := hideR (unhideR CI ⟨#[92]⟩ (by decide))
    clear hix hsz n1 n2 CI
    go_enter Tryz.func189, Tryz.ntmps189
    go_wp2_with fail
    refine (unhideR CV _).mono ?_
    rintro e w1 ⟨rfl, hw1⟩
    obtain rfl : w = w1 := hw1.symm
    clear hw1 CV
    go_wp2_with fail
    go_step3
    go_wp2_with fail
    go_loopw [9, 10] (fun u v wr => u = .int .i64 3 ∧ v = .int .i64 0 ∧ wr = w) (fun _ _ _ => 0)
    case atStart => exact ⟨by go_num, rfl, by trivial⟩
    case round =>
      obtain ⟨rfl, rfl, hww⟩ := hrel
      obtain rfl : wr = w := hww
      go_wp2_with fail
      go_step3
      go_wp2_with fail
      go_quiet ((go_at_call 204; exact (unhideR C1 _).mono (fun _ _ h => ⟨h.1, _, h.2⟩)))
      go_wp2_with fail
      go_quiet ((go_at_call 204; exact (unhideR C1 _).mono (fun _ _ h => ⟨h.1, _, h.2⟩)))
      go_wp2_with fail
      simp +zetaDelta only [Exit.noGoto, Exit.inBlock, Exit.then]
      go_ret
      exact ⟨rfl, draws_b⟩
theorem iter_below (w : World) (s : ByteArray) (k : Nat) : Below w.heap.size w (w.iter s k) := (Below.refl _ _).alloc (Nat.le_refl _) _
theorem next_five {k : Nat} (h : k < 5) (W : World) : ∃ v : Int, 0 ≤ v ∧ v < 128 ∧ ∀ ty, (Instr.next (.pointer (some ⟨W.heap.size, 0, none⟩)) true ty).run Tryz.prog (W.iter ⟨#[91, 93, 94, 45, 92]⟩ k) = .ok (.tuple #[.bool true, .int .i64 (k : Int), .int .i32 v]) (W.iter ⟨#[91, 93, 94, 45, 92]⟩ (k + 1)) := by
  have key : ∀ n : Fin 5, (((⟨#[91, 93, 94, 45, 92]⟩ : ByteArray)[n.val]'(by have := n.isLt; exact this)).toNat < 128) := by decide
  have hk : ((⟨#[91, 93, 94, 45, 92]⟩ : ByteArray)[k]'h).toNat < 128 := key ⟨k, h⟩
  exact ⟨_, Int.natCast_nonneg _, by omega, fun ty => run_next_ascii W ⟨#[91, 93, 94, 45, 92]⟩ k ty h hk⟩
set_option maxRecDepth 20000 in
set_option maxHeartbeats 4000000 in
theorem ixRune_bad (w : World) : Calls Tryz.prog 189 #[.string ⟨#[91, 93, 94, 45, 92]⟩, .int .i32 65533] w fun e w' => e = .returned (.int .i64 (-1)) ∧ Below w.heap.size w w' := by
  go_enter Tryz.func189, Tryz.ntmps189
  go_wp2_with fail
  go_loopw [] (fun wr => ∃ k : Nat, k ≤ 5 ∧ wr = w.iter ⟨#[91, 93, 94, 45, 92]⟩ k) (fun wr => 5 - wr.iterPos w.heap.size)
  case atStart => exact ⟨0, by omega, rfl⟩
  case round =>
    obtain ⟨k, hk, rfl⟩ := hrel
    by_cases hlt : k < 5
    · obtain ⟨v, v0, v1, hn⟩ := next_five hlt w
      have t1 : (v == 65533) = false := beq_eq_false_iff_ne.2 (by omega)
      go_wp2_with fail
      go_roundw
      case rel => exact ⟨k + 1, by omega, rfl⟩
      case measure => rw [World.iterPos_iter, World.iterPos_iter]; omega
    · have hn := fun ty => run_next_end (P := Tryz.prog) w ⟨#[91, 93, 94, 45, 92]⟩ k ty (by show ¬ k < 5; exact hlt)
      obtain rfl : k = 5 := by omega
      go_wp2_with fail
      go_ret
      exact ⟨rfl, iter_below _ _ _⟩
theorem ixRune_any (r : Int) (h0 : 0 ≤ r) (hm : U.mayB r = true) (w : World) : Calls Tryz.prog 189 #[.string ⟨#[91, 93, 94, 45, 92]⟩, .int .i32 r] w fun e w' => (∃ v : Int, e = .returned (.int .i64 v) ∧ decide (0 ≤ v) = clsB r) ∧ Below w.heap.size w w' := by
  by_cases c : r < 128
  · exact ixRune_low r h0 c w
  · have hc : decide ((0 : Int) ≤ -1) = clsB r := by
      have : clsB r = false := by unfold clsB; rw [decide_eq_false_iff_not]; omega
      rw [this]; rfl
    by_cases c2 : r = 65533
    · rw [c2] at hc ⊢
      exact (ixRune_bad w).mono fun e w' h => ⟨⟨-1, h.1, hc⟩, h.2⟩
    · exact (ixRune_hi r (by omega) (beq_eq_false_iff_ne.2 c2) hm w).mono fun e w' h => ⟨⟨-1, h.1, hc⟩, h.2⟩
set_option maxHeartbeats 400000 in
theorem containsRune_l (r : Int) (h0 : 0 ≤ r) (hm : U.mayB r = true) (w : World) : Calls Tryz.prog 173 #[.string ⟨#[91, 93, 94, 45, 92]⟩, .int .i32 r] w fun e w' => e = .returned (.bool (clsB r)) ∧ Below w.heap.size w w' := by
  have C := hideR (ixRune_any r h0 hm w)
  clear hm h0
  generalize clsB r = b at *
  go_enter Tryz.func173, Tryz.ntmps173
  go_wp2_with fail
  refine (unhideR C).mono ?_
  rintro e w1 ⟨⟨v, rfl, hv⟩, b1⟩
  subst hv
  clear C
  go_wp2_with fail
  go_ret
  exact ⟨retB (by first | rfl | simp), b1⟩
def standB (r : Int) : Bool := decide (32 ≤ r) && !clsB r
set_option maxHeartbeats 400000 in
theorem standsInClass_l (r : Int) (h : r = -1 ∨ U.mayB r = true) (w : World) : Calls Tryz.prog 148 #[.int .i64 r] w fun e w' => e = .returned (.bool (standB r)) ∧ Below w.heap.size w w' := by
  by_cases c : 32 ≤ r
  · have hm : U.mayB r = true := by rcases h with h | h; omega; exact h
    have hr := (U.may_iff r).1 hm
    have C := hideR (fun W => containsRune_l r (by omega) hm W)
    have e : standB r = !clsB r := by unfold standB; simp [c]
    rw [e]
    have i1 : IntKind.i32.wrap r = r := by rw [IntKind.wrap_i32]; omega
    clear e hm h
    generalize clsB r = b at *
    go_enter Tryz.func148, Tryz.ntmps148
    go_wp2_with fail
    refine (unhideR C _).mono ?_
    rintro e w1 ⟨rfl, b1⟩
    clear C
    go_wp2_with fail
    go_ret
    exact ⟨retB (by first | rfl | simp), b1⟩
  · have e : standB r = false := by unfold standB; simp [c]
    have c' : r < 32 := by omega
    rw [e]
    clear e h
    go_enter Tryz.func148, Tryz.ntmps148
    go_wp2_with fail
    go_ret
    exact ⟨rfl, Below.refl _ _⟩
end Go.Proofs.YtfcfcgeodghmpaaGreatDoor.T

namespace Go.Proofs.YtfcfcgeodghmpaaGreatDoor.T
open Go.RowKit
set_option linter.unusedVariables false
set_option linter.unusedSimpArgs false

theorem bthen {w w1 w2 : World} (h : Below w.heap.size w w1) (k : Below w1.heap.size w1 w2) : Below w.heap.size w w2 := h.trans (k.mono h.size)
theorem pre1_eq {x : Int} (hx : x ≠ 0) (l : List Int) : pre [x] l = decide (l.getD 0 0 = x) := by
  cases h : pre [x] l with
  | true => exact (decide_eq_true (pre1 h).2).symm
  | false => exact (decide_eq_false (pre1' hx h)).symm
theorem st_u : St ⟨#[92, 117]⟩ [92, 117] := ⟨rfl, by intro z hz; simp at hz; omega⟩
theorem st_semi : St ⟨#[59]⟩ [59] := ⟨rfl, by intro z hz; simp at hz; omega⟩
theorem dig_val : ∀ (m : Nat) (l : List Int) (v : Int), 0 ≤ v → 0 ≤ (digF m v l).1 ∧ (digF m v l).1 ≤ 16 ^ m * (v + 1) - 1 := by
  intro m
  induction m with
  | zero => intro l v h; simp [digF]; omega
  | succ m ih =>
    intro l v h
    have hp : (1 : Int) ≤ 16 ^ m := by have : (0 : Int) < 16 ^ m := Int.pow_pos (by omega); omega
    have hbase : 16 ^ m * (16 * v + 16) = 16 ^ (m + 1) * (v + 1) := by rw [Int.pow_succ, Int.mul_assoc, show (16 : Int) * (v + 1) = 16 * v + 16 by omega]
    have hmono : ∀ x : Int, x ≤ 16 * v + 16 → 16 ^ m * x ≤ 16 ^ m * (16 * v + 16) := fun x hx => Int.mul_le_mul_of_nonneg_left hx (by omega)
    cases l with
    | nil =>
      simp only [digF]
      have h1 := hmono (v + 1) (by omega)
      have h2 : 1 * (v + 1) ≤ 16 ^ m * (v + 1) := Int.mul_le_mul_of_nonneg_right hp (by omega)
      omega
    | cons z t =>
      simp only [digF]
      have hv := val_range z
      split
      · next hz =>
        have := ih t (16 * v + valI z) (by omega)
        have h1 := hmono (16 * v + valI z + 1) (by omega)
        simp only
        omega
      · have h1 := hmono (v + 1) (by omega)
        have h2 : 1 * (v + 1) ≤ 16 ^ m * (v + 1) := Int.mul_le_mul_of_nonneg_right hp (by omega)
        simp only
        omega
set_option maxRecDepth 20000 in
set_option maxHeartbeats 2000000 in
theorem digitsScalar_l (a : Option Addr) (len cap : Nat) (l : List Int) (w : World) (h : Bs w a len cap l) (hl : len ≤ 1000000) (hp : pre [92, 117] l = true) :
    Calls Tryz.prog 146 #[.slice a len cap] w fun e w' => e = .returned (.tuple #[.int .i64 (pairR (signL l)).1, .int .i64 ((pairR (signL l)).2 : Nat)]) ∧ Below w.heap.size w w' := by
  have hlen := h.hlen
  obtain ⟨p1, p2, p3⟩ := pre2 (by omega) hp
  have hne : l ≠ [] := by intro c; rw [c] at p1; simp at p1
  obtain ⟨⟨v, j⟩, hd⟩ : ∃ p, digF 6 0 (l.drop 2) = p := ⟨_, rfl⟩
  have hb := dig_bound 6 (l.drop 2) 0
  have hv := dig_val 6 (l.drop 2) 0 (by omega)
  rw [hd, List.length_drop] at hb
  rw [hd] at hv
  simp only at hb hv
  have hv2 : v ≤ 16777215 := by have : (16 : Int) ^ 6 * (0 + 1) - 1 = 16777215 := by decide
                                omega
  rw [sign_esc hne p2 p3 hd]
  have sl := tail_run a len cap 2 2 rfl (by omega)
  have CN := hideR (number_l _ _ _ _ w (Bs.dropA h 2 (by omega)) (by omega) 6 (by omega))
  rw [hd] at CN
  simp only at CN
  have HB := hideR h
  have hj : 2 + j ≤ len := by omega
  clear h hp p1 p2 p3 hne hd
  by_cases c0 : j = 0
  · subst c0
    rw [if_pos (.inl rfl)]
    show Calls _ _ _ _ fun e w' => e = .returned (.tuple #[.int .i64 0, .int .i64 0]) ∧ Below w.heap.size w w'
    go_enter Tryz.func146, Tryz.ntmps146
    go_wp2_with fail
    refine (unhideR CN).mono ?_
    rintro e w1 ⟨rfl, hw1⟩
    obtain rfl : w = w1 := hw1.symm
    clear hw1 CN
    go_wp2_with fail
    go_ret2
    exact ⟨rfl, Below.refl _ _⟩
  · have c0' : ((j : Int) == 0) = false := beq_eq_false_iff_ne.2 (by omega)
    have sl2 := tail_run a len cap (2 + j) (2 + (j : Int)) (by omega) hj
    have CB := hideR (fun W (hB : Bs W a len cap l) => begins_l _ _ _ _ W (Bs.dropA hB (2 + j) hj) ⟨#[59]⟩ [59] st_semi (by simp))
    rw [pre1_eq (by omega), drop_getD, Nat.add_zero] at CB
    have CM := hideR (fun W => may_any v W)
    have t1 := wrapI (2 + (j : Int)) (by omega)
    have t2 := wrapI (2 + (j : Int) + 1) (by omega)
    by_cases c1 : l.getD (2 + j) 0 = 59
    · rw [decide_eq_true c1] at CB
      cases c2 : U.mayB v with
      | false =>
        rw [if_pos (.inr (.inl rfl))]
        rw [c2] at CM
        show Calls _ _ _ _ fun e w' => e = .returned (.tuple #[.int .i64 0, .int .i64 0]) ∧ Below w.heap.size w w'
        clear c1 c2
        go_enter Tryz.func146, Tryz.ntmps146
        go_wp2_with fail
        refine (unhideR CN).mono ?_
        rintro e w1 ⟨rfl, hw1⟩
        obtain rfl : w = w1 := hw1.symm
        clear hw1 CN
        go_wp2_with fail
        refine (unhideR CB _ (unhideR HB)).mono ?_
        rintro e w1 ⟨rfl, b1⟩
        clear CB
        go_wp2_with fail
        refine (unhideR CM _).mono ?_
        rintro e w2 ⟨rfl, hw2⟩
        obtain rfl : w1 = w2 := hw2.symm
        clear hw2 CM
        go_wp2_with fail
        go_ret2
        exact ⟨rfl, b1⟩
      | true =>
        rw [if_neg (by intro c; rcases c with c | c | c; exact c0 c; cases c; exact c c1)]
        rw [c2] at CM
        show Calls _ _ _ _ fun e w' => e = .returned (.tuple #[.int .i64 v, .int .i64 ((j + 3 : Nat) : Int)]) ∧ Below w.heap.size w w'
        clear c1 c2
        go_enter Tryz.func146, Tryz.ntmps146
        go_wp2_with fail
        refine (unhideR CN).mono ?_
        rintro e w1 ⟨rfl, hw1⟩
        obtain rfl : w = w1 := hw1.symm
        clear hw1 CN
        go_wp2_with fail
        refine (unhideR CB _ (unhideR HB)).mono ?_
        rintro e w1 ⟨rfl, b1⟩
        clear CB
        go_wp2_with fail
        refine (unhideR CM _).mono ?_
        rintro e w2 ⟨rfl, hw2⟩
        obtain rfl : w1 = w2 := hw2.symm
        clear hw2 CM
        go_wp2_with fail
        go_ret2
        exact ⟨ret_two rfl (by omega), b1⟩
    · rw [decide_eq_false c1] at CB
      rw [if_pos (.inr (.inr c1))]
      show Calls _ _ _ _ fun e w' => e = .returned (.tuple #[.int .i64 0, .int .i64 0]) ∧ Below w.heap.size w w'
      clear c1
      go_enter Tryz.func146, Tryz.ntmps146
      go_wp2_with fail
      refine (unhideR CN).mono ?_
      rintro e w1 ⟨rfl, hw1⟩
      obtain rfl : w = w1 := hw1.symm
      clear hw1 CN
      go_wp2_with fail
      refine (unhideR CB _ (unhideR HB)).mono ?_
      rintro e w1 ⟨rfl, b1⟩
      clear CB
      go_wp2_with fail
      go_ret2
      exact ⟨rfl, b1⟩

theorem sign_plain {l : List Int} (hb : U.isBytes l) (hp : pre [92, 117] l = false) : pairR (signL l) = if standB (nx l 0).1 then nx l 0 else (0, 0) := by
  have hn := pre2' (by omega) hp
  by_cases h0 : l = []
  · subst h0
    rfl
  · have hl : 1 ≤ l.length := by cases l <;> simp_all
    have e0 : nx l 0 = U.nextL l := by unfold nx; rw [if_neg (by omega)]; rfl
    rw [e0]
    by_cases h92 : l.getD 0 0 = 92
    · rw [sign_nou h0 h92 (fun c => hn ⟨h92, c⟩), U.next_ascii hb h0 (by omega), h92]
      rfl
    · rw [sign_raw h0 h92]
      have n92 : (U.nextL l).1 ≠ 92 := by
        intro c
        rcases U.next_cases hb with ⟨e, _⟩ | ⟨_, e⟩ | ⟨r, hm, e, ht, _⟩
        · exact h0 e
        · rw [e] at c; simp at c
        · rw [e] at c
          simp only at c
          subst c
          have e92 : U.putL 92 = [92] := by decide
          rw [e92] at ht
          cases l with
          | nil => exact h0 rfl
          | cons z t => simp at ht; exact h92 (by simp [ht])
      unfold standB clsB
      by_cases c : (U.nextL l).1 < 32 ∨ (U.nextL l).1 = 91 ∨ (U.nextL l).1 = 93 ∨ (U.nextL l).1 = 94 ∨ (U.nextL l).1 = 45
      · rw [if_pos c, if_neg]
        simp
        omega
      · rw [if_neg c, if_pos]
        simp
        omega
theorem nx_ok {l : List Int} (hb : U.isBytes l) : ((nx l 0).1 = -1 ∨ U.mayB (nx l 0).1 = true) ∧ (nx l 0).2 ≤ l.length ∧ (0 ≤ (nx l 0).1 → 1 ≤ (nx l 0).2) := by
  by_cases h0 : l = []
  · subst h0; exact ⟨.inl rfl, Nat.le_refl _, fun h => absurd h (by decide)⟩
  · have hl : 1 ≤ l.length := by cases l <;> simp_all
    have e0 : nx l 0 = U.nextL l := by unfold nx; rw [if_neg (by omega)]; rfl
    rw [e0]
    have := U.next_bound hb h0
    refine ⟨?_, by omega, fun _ => by omega⟩
    rcases U.next_cases hb with ⟨e, _⟩ | ⟨_, e⟩ | ⟨r, hm, e, _⟩
    · exact absurd e h0
    · rw [e]; exact .inl rfl
    · rw [e]; exact .inr hm
set_option maxRecDepth 20000 in
set_option maxHeartbeats 2000000 in
theorem scalar_l (a : Option Addr) (len cap : Nat) (l : List Int) (w : World) (h : Bs w a len cap l) (hl : len ≤ 1000000) :
    Calls Tryz.prog 122 #[.slice a len cap] w fun e w' => e = .returned (.tuple #[.int .i64 (pairR (signL l)).1, .int .i64 ((pairR (signL l)).2 : Nat)]) ∧ Below w.heap.size w w' := by
  have hlen := h.hlen
  have CB := hideR (begins_l a len cap l w h ⟨#[92, 117]⟩ [92, 117] st_u (by simp))
  cases hp : pre [92, 117] l with
  | true =>
    rw [hp] at CB
    have CD := hideR (fun W (hB : Bs W a len cap l) => digitsScalar_l a len cap l W hB hl hp)
    have HB := hideR h
    clear h hp
    generalize (pairR (signL l)).1 = x at *
    generalize (pairR (signL l)).2 = n at *
    go_enter Tryz.func122, Tryz.ntmps122
    go_wp2_with fail
    refine (unhideR CB).mono ?_
    rintro e w1 ⟨rfl, b1⟩
    clear CB
    have HB1 := hideR (Bs.later (unhideR HB) b1 (Nat.le_refl _))
    clear HB
    go_wp2_with fail
    refine (unhideR CD _ (unhideR HB1)).mono ?_
    rintro e w2 ⟨rfl, b2⟩
    clear CD
    go_wp2_with fail
    go_ret2
    exact ⟨rfl, bthen b1 b2⟩
  | false =>
    rw [hp] at CB
    have CN := hideR (fun W (hB : Bs W a len cap l) => next_any a len cap l W hB 0)
    rw [sign_plain h.hbytes hp]
    obtain ⟨n1, n2, n3⟩ := nx_ok h.hbytes
    have HB := hideR h
    clear h hp
    obtain ⟨⟨x, n⟩, hx⟩ : ∃ p, nx l 0 = p := ⟨_, rfl⟩
    rw [hx] at CN n1 n2 n3 ⊢
    simp only at CN n1 n2 n3 ⊢
    clear hx
    have CS := hideR (fun W => standsInClass_l x n1 W)
    cases hs : standB x with
    | true =>
      rw [hs] at CS
      show Calls _ _ _ _ fun e w' => e = .returned (.tuple #[.int .i64 x, .int .i64 (n : Int)]) ∧ Below w.heap.size w w'
      clear hs n1 n3
      go_enter Tryz.func122, Tryz.ntmps122
      go_wp2_with fail
      refine (unhideR CB).mono ?_
      rintro e w1 ⟨rfl, b1⟩
      clear CB
      have HB1 := hideR (Bs.later (unhideR HB) b1 (Nat.le_refl _))
      clear HB
      go_wp2_with fail
      refine (unhideR CN _ (unhideR HB1)).mono ?_
      rintro e w2 ⟨rfl, b2⟩
      clear CN
      go_wp2_with fail
      refine (unhideR CS _).mono ?_
      rintro e w3 ⟨rfl, b3⟩
      clear CS
      go_wp2_with fail
      go_ret2
      exact ⟨rfl, bthen (bthen b1 b2) b3⟩
    | false =>
      rw [hs] at CS
      show Calls _ _ _ _ fun e w' => e = .returned (.tuple #[.int .i64 0, .int .i64 0]) ∧ Below w.heap.size w w'
      clear hs n1 n3
      go_enter Tryz.func122, Tryz.ntmps122
      go_wp2_with fail
      refine (unhideR CB).mono ?_
      rintro e w1 ⟨rfl, b1⟩
      clear CB
      have HB1 := hideR (Bs.later (unhideR HB) b1 (Nat.le_refl _))
      clear HB
      go_wp2_with fail
      refine (unhideR CN _ (unhideR HB1)).mono ?_
      rintro e w2 ⟨rfl, b2⟩
      clear CN
      go_wp2_with fail
      refine (unhideR CS _).mono ?_
      rintro e w3 ⟨rfl, b3⟩
      clear CS
      go_wp2_with fail
      go_ret2
      exact ⟨rfl, bthen (bthen b1 b2) b3⟩
end Go.Proofs.YtfcfcgeodghmpaaGreatDoor.T

/- Contracts of package token: the tokens that are names, marks, and signs. -/
namespace Go.Proofs.YtfcfcgeodghmpaaGreatDoor.T
open Go.RowKit
set_option linter.unusedVariables false
set_option linter.unusedSimpArgs false

theorem head_run (a : Option Addr) (len cap k : Nat) (i : Int) (hi : i = (k : Int)) (hk : k ≤ cap) : ∀ W, (Instr.slice 104 (.slice a len cap) none (some (.int .i64 i)) none).run Tryz.prog W = .ok (.slice a k cap) W := by
  intro W
  subst hi
  have hu : Tryz.prog.underlying 104 = some (.slice 5) := Tryz.underlying104
  unfold Instr.slice
  cases a with
  | none => simp [hu, run_underlying, Instr.sliceBounds, Instr.sliceBound, asIntOf, hk, Tryz.sizeOf5]
  | some x => simp [hu, run_underlying, Instr.sliceBounds, Instr.sliceBound, asIntOf, hk, Tryz.sizeOf5, Addr.add]
theorem Bs.head {w : World} {a : Option Addr} {len cap : Nat} {l : List Int} (h : Bs w a len cap l) (k : Nat) (hk : k ≤ len) : Bs w a k cap (l.take k) := by
  have h1 := h.hcap
  refine ⟨by rw [List.length_take, h.hlen]; omega, by omega, h.hmax, fun z hz => h.hbytes z (List.mem_of_mem_take hz), fun i hi => ?_⟩
  obtain ⟨b, off, ha, hc⟩ := h.hcell i (by omega)
  refine ⟨b, off, ha, ?_⟩
  rw [hc]
  simp [List.getD, hi]
theorem tstr {w : World} {a : Option Addr} {len cap : Nat} {l : List Int} (h : Bs w a len cap l) :
    (convert 104 9 (.slice a len cap)).run Tryz.prog w = .ok (.string (strOfNums l)) w := by
  by_cases hp : 1 ≤ len
  · obtain ⟨b, off, rfl, hb⟩ := h.open hp
    exact run_convert_bytes_arg w 104 5 Tryz.underlying104 Tryz.underlying5 b off len cap l hb.hlen hb.hcell 9 Tryz.underlying9
  · have h0 : len = 0 := by omega
    have hl := h.hlen
    subst h0
    have : l = [] := List.eq_nil_of_length_eq_zero hl
    subst this
    cases a with
    | none => exact run_convert_bytes_nil w 104 5 Tryz.underlying104 Tryz.underlying5 0 cap 9 Tryz.underlying9
    | some x =>
      rw [run_convert_bytes_string w 104 9 5 _ 0 cap Tryz.underlying104 Tryz.underlying5 Tryz.underlying9, run_bytesToString w x 0 cap [] (loadCells0 w x)]
      rfl
theorem kept_new {w w1 : World} {o : Obj} (b : Below (w.alloc o).heap.size (w.alloc o) w1) : w1.heap[w.heap.size]? = some o := by
  rw [b.block _ (by simp)]
  exact heap_alloc_new w o

/-! ### What is told of a token -/
def zeroTok : Value := .agg #[.int .i64 0, .string ⟨#[]⟩, .slice none 0 0, .int .i64 0]
def Ty (w : World) (a : Option Addr) : Prop := ∀ b off, a = some ⟨b, off, none⟩ → ∃ cs fr, w.heap[b]? = some (.cells cs 58 fr)
theorem Ty.later {w w' : World} {a : Option Addr} (h : Ty w a) (b : Below w.heap.size w w') : Ty w' a := by
  intro k off e
  obtain ⟨cs, fr, hk⟩ := h k off e
  exact ⟨cs, fr, (b.block k (Array.getElem?_eq_some_iff.1 hk).1).trans hk⟩
theorem Ty.nil (w : World) : Ty w none := fun _ _ e => by cases e
def TokV (w : World) (v : Value) (t : Tk) (p : Int) : Prop := ∃ a c, v = .agg #[.int .i64 t.1, .string (strOfNums t.2.1), .slice a t.2.2.length c, .int .i64 p] ∧ Rs w a t.2.2.length c t.2.2 ∧ Ty w a
def TokO (w : World) (v : Value) (n : Nat) (o : Option (Tk × Nat)) : Prop := (o = none ∧ v = zeroTok ∧ n = 0) ∨ ∃ t, o = some (t, n) ∧ TokV w v t 0
theorem TokV.later {w w' : World} {v : Value} {t : Tk} {p : Int} (h : TokV w v t p) (b : Below w.heap.size w w') : TokV w' v t p := by
  obtain ⟨a, c, e, hr, ht⟩ := h
  exact ⟨a, c, e, hr.later b (Nat.le_refl _), ht.later b⟩
theorem TokV.plain (w : World) (k : Int) (x : List Int) (p : Int) : TokV w (.agg #[.int .i64 k, .string (strOfNums x), .slice none 0 0, .int .i64 p]) (k, x, []) p :=
  ⟨none, 0, rfl, Rs.nil w, Ty.nil w⟩

theorem tok_name {l : List Int} (h : isLet (l.getD 0 0) = true) : tokL l = if 12 < wordN l then none else some ((0, l.take (wordN l), []), wordN l) := by unfold tokL; rw [if_pos h]
theorem tail_len : ∀ l : List Int, tailN l ≤ l.length := by
  intro l
  induction l with
  | nil => simp [tailN]
  | cons z t ih => simp only [tailN]; split <;> simp <;> omega
theorem word_len (l : List Int) : wordN l ≤ l.length := by
  unfold wordN
  split
  · next h =>
    have h0 : l ≠ [] := by intro c; rw [c] at h; exact absurd h (by decide)
    have hl : 1 ≤ l.length := by cases l <;> simp_all
    have := tail_len (l.drop 1)
    rw [List.length_drop] at this
    omega
  · omega
set_option maxRecDepth 20000 in
set_option maxHeartbeats 2000000 in
theorem name_l (a : Option Addr) (len cap : Nat) (l : List Int) (w : World) (h : Bs w a len cap l) (hl : len ≤ 1000000) (h0 : isLet (l.getD 0 0) = true) :
    Calls Tryz.prog 79 #[.slice a len cap] w fun e w' => ∃ v n, e = .returned (.tuple #[v, .int .i64 (n : Nat)]) ∧ TokO w' v n (tokL l) ∧ Below w.heap.size w w' := by
  rw [tok_name h0]
  have hlen := h.hlen
  have hcap := h.hcap
  have hwl := word_len l
  have CN := hideR (fun o => nameBytes_l a len cap l (w.alloc o) (Bs.later h (Below.new1 o) (Nat.le_refl _)) hl)
  have hr := head_run a len cap (wordN l) (wordN l) rfl (by omega)
  have hs := fun o => tstr (Bs.later (Bs.head h (wordN l) (by omega)) (Below.new1 (w := w) o) (Nat.le_refl _))
  have HT := hideR (fun (W : World) => TokV.plain W 0 (l.take (wordN l)) 0)
  clear h h0
  generalize strOfNums (l.take (wordN l)) = S at *
  generalize l.take (wordN l) = x at *
  generalize wordN l = m at *
  by_cases c : 12 < m
  · rw [if_pos c]
    go_enter Tryz.func79, Tryz.ntmps79
    go_wp2_with fail
    refine (unhideR CN _).mono ?_
    rintro e w1 ⟨rfl, rfl⟩
    go_wp2_with fail
    (try simp only [Exit.inBlock, Exit.then])
    refine bodyPost_ret (v := .tuple #[zeroTok, .int .i64 (0 : Nat)]) ?_ rfl ⟨_, _, rfl, .inl ⟨rfl, rfl, rfl⟩, ?_⟩
    · rw [results_cell_tmp rfl]
      go_simp
      rfl
    · exact Below.new1 _
  · rw [if_neg c]
    go_enter Tryz.func79, Tryz.ntmps79
    go_wp2_with fail
    refine (unhideR CN _).mono ?_
    rintro e w1 ⟨rfl, rfl⟩
    go_wp2_with fail
    (try simp only [Exit.inBlock, Exit.then])
    refine bodyPost_ret (v := .tuple #[.agg #[.int .i64 0, .string S, .slice none 0 0, .int .i64 0], .int .i64 (m : Nat)]) ?_ rfl ⟨_, _, rfl, .inr ⟨_, rfl, unhideR HT _⟩, ?_⟩
    · rw [results_cell_tmp rfl]
      go_simp
    · exact Below.new1 _

theorem tok_sign {l : List Int} (h : l.getD 0 0 ∈ signs) : tokL l = some ((4, l.take 1, []), 1) := by
  have hb : l.getD 0 0 ≠ 0 := by intro c; rw [c] at h; exact absurd h (by decide)
  have h1 : isLet (l.getD 0 0) = false := by
    have : ∀ z ∈ signs, isLet z = false := by decide
    exact this _ h
  have h2 : ¬ l.getD 0 0 = 64 := by
    have : ∀ z ∈ signs, ¬ z = 64 := by decide
    exact this _ h
  unfold tokL
  rw [h1, if_neg (by simp), if_neg h2, if_pos h]
  cases l with
  | nil => exact absurd rfl hb
  | cons z t => simp
set_option maxRecDepth 20000 in
set_option maxHeartbeats 2000000 in
theorem sign_l (a : Option Addr) (len cap : Nat) (l : List Int) (w : World) (h : Bs w a len cap l) (hl : 1 ≤ len) (h0 : l.getD 0 0 ∈ signs) :
    Calls Tryz.prog 80 #[.slice a len cap] w fun e w' => ∃ v n, e = .returned (.tuple #[v, .int .i64 (n : Nat)]) ∧ TokO w' v n (tokL l) ∧ Below w.heap.size w w' := by
  rw [tok_sign h0]
  have hr := head_run a len cap 1 1 rfl (by have := h.hcap; omega)
  have hs := fun o => tstr (Bs.later (Bs.head h 1 hl) (Below.new1 (w := w) o) (Nat.le_refl _))
  have HT := hideR (fun (W : World) => TokV.plain W 4 (l.take 1) 0)
  clear h h0
  generalize strOfNums (l.take 1) = S at *
  generalize l.take 1 = x at *
  go_enter Tryz.func80, Tryz.ntmps80
  go_wp2_with fail
  (try simp only [Exit.inBlock, Exit.then])
  refine bodyPost_ret (v := .tuple #[.agg #[.int .i64 4, .string S, .slice none 0 0, .int .i64 0], .int .i64 (1 : Nat)]) ?_ rfl ⟨_, _, rfl, .inr ⟨_, rfl, unhideR HT _⟩, ?_⟩
  · rw [results_cell_tmp rfl]
    go_simp
  · exact Below.new1 _

theorem tok_mark {l : List Int} (h : l.getD 0 0 = 64) : tokL l = if markL ((l.drop 1).take (wordN (l.drop 1))) then some ((5, (l.drop 1).take (wordN (l.drop 1)), []), wordN (l.drop 1) + 1) else none := by
  unfold tokL markL
  rw [h, if_neg (by decide), if_pos rfl]
  by_cases c : (l.drop 1).take (wordN (l.drop 1)) ∈ marks
  · rw [if_pos c, if_pos (decide_eq_true c)]
  · rw [if_neg c, if_neg (by rw [decide_eq_false c]; simp)]
set_option maxRecDepth 20000 in
set_option maxHeartbeats 2000000 in
theorem mark_l (a : Option Addr) (len cap : Nat) (l : List Int) (w : World) (h : Bs w a len cap l) (hl : len ≤ 1000000) (hp : 1 ≤ len) (h0 : l.getD 0 0 = 64) :
    Calls Tryz.prog 75 #[.slice a len cap] w fun e w' => ∃ v n, e = .returned (.tuple #[v, .int .i64 (n : Nat)]) ∧ TokO w' v n (tokL l) ∧ Below w.heap.size w w' := by
  rw [tok_mark h0]
  have hlen := h.hlen
  have hcap := h.hcap
  have hwl := word_len (l.drop 1)
  rw [List.length_drop] at hwl
  have hd := Bs.dropA h 1 hp
  have sl := tail_run a len cap 1 1 rfl hp
  have CN := hideR (fun o => nameBytes_l _ _ _ _ (w.alloc o) (Bs.later hd (Below.new1 o) (Nat.le_refl _)) (by omega))
  have hr := head_run (dropA a cap 1) (len - 1) (cap - 1) (wordN (l.drop 1)) (wordN (l.drop 1)) rfl (by omega)
  have hdh := Bs.head hd (wordN (l.drop 1)) (by omega)
  have hs := fun o => tstr (Bs.later hdh (Below.new1 (w := w) o) (Nat.le_refl _))
  have CM := hideR (fun W => isMark_l _ _ (St.of hdh.hbytes) W)
  have HT := hideR (fun (W : World) => TokV.plain W 5 ((l.drop 1).take (wordN (l.drop 1))) 0)
  clear h h0 hdh hd
  generalize strOfNums ((l.drop 1).take (wordN (l.drop 1))) = S at *
  generalize (l.drop 1).take (wordN (l.drop 1)) = x at *
  generalize wordN (l.drop 1) = m at *
  have t1 := wrapI (1 + (m : Int)) (by omega)
  cases c : markL x with
  | false =>
    rw [c] at CM
    rw [if_neg (by simp)]
    go_enter Tryz.func75, Tryz.ntmps75
    go_wp2_with fail
    refine (unhideR CN _).mono ?_
    rintro e w1 ⟨rfl, rfl⟩
    go_wp2_with fail
    refine (unhideR CM _).mono ?_
    rintro e w1 ⟨rfl, rfl⟩
    go_wp2_with fail
    (try simp only [Exit.inBlock, Exit.then])
    refine bodyPost_ret (v := .tuple #[zeroTok, .int .i64 (0 : Nat)]) ?_ rfl ⟨_, _, rfl, .inl ⟨rfl, rfl, rfl⟩, ?_⟩
    · rw [results_cell_tmp rfl]
      go_simp
      rfl
    · exact Below.new1 _
  | true =>
    rw [c] at CM
    rw [if_pos rfl]
    go_enter Tryz.func75, Tryz.ntmps75
    go_wp2_with fail
    refine (unhideR CN _).mono ?_
    rintro e w1 ⟨rfl, rfl⟩
    go_wp2_with fail
    refine (unhideR CM _).mono ?_
    rintro e w1 ⟨rfl, rfl⟩
    go_wp2_with fail
    (try simp only [Exit.inBlock, Exit.then])
    refine bodyPost_ret (v := .tuple #[.agg #[.int .i64 5, .string S, .slice none 0 0, .int .i64 0], .int .i64 ((m + 1 : Nat) : Int)]) ?_ rfl ⟨_, _, rfl, .inr ⟨_, rfl, unhideR HT _⟩, ?_⟩
    · rw [results_cell_tmp rfl]
      go_simp
      omega
    · exact Below.new1 _
end Go.Proofs.YtfcfcgeodghmpaaGreatDoor.T

namespace Go.Proofs.YtfcfcgeodghmpaaGreatDoor.T
open Go.RowKit
set_option linter.unusedVariables false
set_option linter.unusedSimpArgs false

def pairI (p : Option ((Int × Int) × Nat)) : (Int × Int) × Nat := p.getD ((0, 0), 0)
theorem st_dash : St ⟨#[45]⟩ [45] := ⟨rfl, by intro z hz; simp at hz; omega⟩
theorem itemH_end (a : Option Addr) (len cap : Nat) (l : List Int) (w : World) (h : Bs w a len cap l) (hl : len ≤ 1000000) :
    Calls Tryz.prog 126 #[.slice a len cap] w fun e w' => e = .returned (.tuple #[.int .i64 (pairR (oneL true l)).1, .int .i64 ((pairR (oneL true l)).2 : Nat)]) ∧ Below w.heap.size w w' :=
  (hex_l a len cap l w h hl).mono fun _ _ h => ⟨h.1, by rw [h.2]; exact Below.refl _ _⟩
theorem itemS_end (a : Option Addr) (len cap : Nat) (l : List Int) (w : World) (h : Bs w a len cap l) (hl : len ≤ 1000000) :
    Calls Tryz.prog 122 #[.slice a len cap] w fun e w' => e = .returned (.tuple #[.int .i64 (pairR (oneL false l)).1, .int .i64 ((pairR (oneL false l)).2 : Nat)]) ∧ Below w.heap.size w w' :=
  scalar_l a len cap l w h hl
set_option maxRecDepth 20000 in
set_option maxHeartbeats 4000000 in
theorem itemH (a : Option Addr) (len cap : Nat) (l : List Int) (w : World) (h : Bs w a len cap l) (hl : len ≤ 1000000) :
    Calls Tryz.prog 145 #[.slice a len cap, .func (.func 126) #[] #[]] w fun e w' => e = .returned (.tuple #[.agg #[.int .i64 (pairI (itemL true l)).1.1, .int .i64 (pairI (itemL true l)).1.2], .int .i64 ((pairI (itemL true l)).2 : Nat)]) ∧ Below w.heap.size w w' := by
  have hlen := h.hlen
  have HB := hideR (Bs.later h (Below.new1 (.cells #[.int .i64 0, .int .i64 0] 58)) (Nat.le_refl _))
  have CE := hideR (fun W (hB : Bs W a len cap l) => itemH_end a len cap l W hB hl)
  cases e1 : oneL true l with
  | none =>
    have ei : itemL true l = none := by unfold itemL; rw [e1]
    rw [ei]
    rw [e1] at CE
    show Calls _ _ _ _ fun e w' => e = .returned (.tuple #[.agg #[.int .i64 0, .int .i64 0], .int .i64 0]) ∧ Below w.heap.size w w'
    replace CE : Hid (∀ W, Bs W a len cap l → Calls Tryz.prog 126 #[.slice a len cap] W fun e w' => e = .returned (.tuple #[.int .i64 0, .int .i64 0]) ∧ Below W.heap.size W w') := CE
    clear e1 ei h
    go_enter Tryz.func145, Tryz.ntmps145
    go_wp2_with fail
    refine (unhideR CE _ (unhideR HB)).mono ?_
    rintro e w1 ⟨rfl, b1⟩
    clear CE HB
    have HG := kept_new b1
    have q0 : w1.cell? ⟨w.heap.size, 0, none⟩ = some (.int .i64 0) := by simp [World.cell?, HG]
    have q1 : w1.cell? ⟨w.heap.size, 1, none⟩ = some (.int .i64 0) := by simp [World.cell?, HG]
    have f0 : w1.frozen? ⟨w.heap.size, 0, none⟩ = false := by simp [World.frozen?, HG]
    have f1 : w1.frozen? ⟨w.heap.size, 1, none⟩ = false := by simp [World.frozen?, HG]
    go_wp2_with fail
    (try simp only [Exit.inBlock, Exit.then])
    refine bodyPost_ret (v := .tuple #[.agg #[.int .i64 0, .int .i64 0], .int .i64 (0)]) ?_ rfl ⟨rfl, ?_⟩
    · rw [results_cell_tmp rfl]
      go_simp
      try omega
    · exact Below.setCell (Below.setCell ((Below.new1 _).trans (b1.mono (by simp))) (Nat.le_refl _) _) (Nat.le_refl _) _
  | some p =>
    obtain ⟨lo, n⟩ := p
    have gd := one_good true l lo n h.hbytes e1
    rw [e1] at CE
    replace CE : Hid (∀ W, Bs W a len cap l → Calls Tryz.prog 126 #[.slice a len cap] W fun e w' => e = .returned (.tuple #[.int .i64 lo, .int .i64 (n : Int)]) ∧ Below W.heap.size W w') := CE
    have sl := tail_run a len cap n n rfl (by omega)
    have CB := hideR (fun W (hB : Bs W a len cap l) => begins_l _ _ _ _ W (Bs.dropA hB n (by omega)) ⟨#[45]⟩ [45] st_dash (by simp))
    rw [pre1_eq (by omega)] at CB
    have t0 : ((n : Int) == 0) = false := beq_eq_false_iff_ne.2 (by omega)
    by_cases c1 : (l.drop n).getD 0 0 = 45
    · rw [decide_eq_true c1] at CB
      have hn1 : n + 1 ≤ len := by
        apply Classical.byContradiction
        intro cc
        have : l.drop n = [] := List.drop_of_length_le (by omega)
        rw [this] at c1
        simp [List.getD] at c1
      have t1 := wrapI ((n : Int) + 1) (by omega)
      have sl2 := tail_run a len cap (n + 1) ((n : Int) + 1) (by omega) hn1
      have CF := hideR (fun W (hB : Bs W a len cap l) => itemH_end _ _ _ _ W (Bs.dropA hB (n + 1) hn1) (by omega))
      cases e2 : oneL true (l.drop (n + 1)) with
      | none =>
        have ei : itemL true l = none := by unfold itemL; rw [e1]; simp only; rw [if_pos c1, e2]
        rw [ei]
        rw [e2] at CF
        show Calls _ _ _ _ fun e w' => e = .returned (.tuple #[.agg #[.int .i64 0, .int .i64 0], .int .i64 0]) ∧ Below w.heap.size w w'
        replace CF : Hid (∀ W, Bs W a len cap l → Calls Tryz.prog 126 #[.slice (dropA a cap (n + 1)) (len - (n + 1)) (cap - (n + 1))] W fun e w' => e = .returned (.tuple #[.int .i64 0, .int .i64 0]) ∧ Below W.heap.size W w') := CF
        clear e1 e2 ei h c1
        go_enter Tryz.func145, Tryz.ntmps145
        go_wp2_with fail
        refine (unhideR CE _ (unhideR HB)).mono ?_
        rintro e w1 ⟨rfl, b1⟩

        have HB1 := hideR (Bs.later (unhideR HB) b1 (Nat.le_refl _))
        clear HB CE
        go_wp2_with fail
        refine (unhideR CB _ (unhideR HB1)).mono ?_
        rintro e w2 ⟨rfl, b2⟩
        clear CB

        have HB2 := hideR (Bs.later (unhideR HB1) b2 (Nat.le_refl _))
        clear HB1
        go_wp2_with fail
        refine (unhideR CF _ (unhideR HB2)).mono ?_
        rintro e w3 ⟨rfl, b3⟩
        clear CF HB2
        have B3 := bthen (bthen b1 b2) b3

        have HG := kept_new B3
        have q0 : w3.cell? ⟨w.heap.size, 0, none⟩ = some (.int .i64 0) := by simp [World.cell?, HG]
        have q1 : w3.cell? ⟨w.heap.size, 1, none⟩ = some (.int .i64 0) := by simp [World.cell?, HG]
        have f0 : w3.frozen? ⟨w.heap.size, 0, none⟩ = false := by simp [World.frozen?, HG]
        have f1 : w3.frozen? ⟨w.heap.size, 1, none⟩ = false := by simp [World.frozen?, HG]
        go_wp2_with fail
        (try simp only [Exit.inBlock, Exit.then])
        refine bodyPost_ret (v := .tuple #[.agg #[.int .i64 0, .int .i64 0], .int .i64 (0)]) ?_ rfl ⟨rfl, ?_⟩
        · rw [results_cell_tmp rfl]
          go_simp
          try omega
        · exact Below.setCell (Below.setCell ((Below.new1 _).trans (B3.mono (by simp))) (Nat.le_refl _) _) (Nat.le_refl _) _
      | some q =>
        obtain ⟨hi, m⟩ := q
        have gd2 := one_good true _ hi m (U.isBytes_drop h.hbytes (n + 1)) e2
        rw [List.length_drop] at gd2
        rw [e2] at CF
        replace CF : Hid (∀ W, Bs W a len cap l → Calls Tryz.prog 126 #[.slice (dropA a cap (n + 1)) (len - (n + 1)) (cap - (n + 1))] W fun e w' => e = .returned (.tuple #[.int .i64 hi, .int .i64 (m : Int)]) ∧ Below W.heap.size W w') := CF
        have t2 : ((m : Int) == 0) = false := beq_eq_false_iff_ne.2 (by omega)
        have t3 := wrapI ((n : Int) + 1 + m) (by omega)
        by_cases c2 : hi < lo
        · have ei : itemL true l = none := by unfold itemL; rw [e1]; simp only; rw [if_pos c1, e2]; simp only; rw [if_pos c2]
          rw [ei]
          show Calls _ _ _ _ fun e w' => e = .returned (.tuple #[.agg #[.int .i64 0, .int .i64 0], .int .i64 0]) ∧ Below w.heap.size w w'
          clear e1 e2 ei h c1
          go_enter Tryz.func145, Tryz.ntmps145
          go_wp2_with fail
          refine (unhideR CE _ (unhideR HB)).mono ?_
          rintro e w1 ⟨rfl, b1⟩

          have HB1 := hideR (Bs.later (unhideR HB) b1 (Nat.le_refl _))
          clear HB CE
          go_wp2_with fail
          refine (unhideR CB _ (unhideR HB1)).mono ?_
          rintro e w2 ⟨rfl, b2⟩
          clear CB

          have HB2 := hideR (Bs.later (unhideR HB1) b2 (Nat.le_refl _))
          clear HB1
          go_wp2_with fail
          refine (unhideR CF _ (unhideR HB2)).mono ?_
          rintro e w3 ⟨rfl, b3⟩
          clear CF HB2
          have B3 := bthen (bthen b1 b2) b3

          have HG := kept_new B3
          have q0 : w3.cell? ⟨w.heap.size, 0, none⟩ = some (.int .i64 0) := by simp [World.cell?, HG]
          have q1 : w3.cell? ⟨w.heap.size, 1, none⟩ = some (.int .i64 0) := by simp [World.cell?, HG]
          have f0 : w3.frozen? ⟨w.heap.size, 0, none⟩ = false := by simp [World.frozen?, HG]
          have f1 : w3.frozen? ⟨w.heap.size, 1, none⟩ = false := by simp [World.frozen?, HG]
          go_wp2_with fail
          (try simp only [Exit.inBlock, Exit.then])
          refine bodyPost_ret (v := .tuple #[.agg #[.int .i64 0, .int .i64 0], .int .i64 (0)]) ?_ rfl ⟨rfl, ?_⟩
          · rw [results_cell_tmp rfl]
            go_simp
            try omega
          · exact Below.setCell (Below.setCell ((Below.new1 _).trans (B3.mono (by simp))) (Nat.le_refl _) _) (Nat.le_refl _) _
        · have ei : itemL true l = some ((lo, hi), n + 1 + m) := by unfold itemL; rw [e1]; simp only; rw [if_pos c1, e2]; simp only; rw [if_neg c2]
          rw [ei]
          show Calls _ _ _ _ fun e w' => e = .returned (.tuple #[.agg #[.int .i64 lo, .int .i64 hi], .int .i64 ((n + 1 + m : Nat) : Int)]) ∧ Below w.heap.size w w'
          have c2' : lo ≤ hi := by omega
          clear e1 e2 ei h c1
          go_enter Tryz.func145, Tryz.ntmps145
          go_wp2_with fail
          refine (unhideR CE _ (unhideR HB)).mono ?_
          rintro e w1 ⟨rfl, b1⟩

          have HB1 := hideR (Bs.later (unhideR HB) b1 (Nat.le_refl _))
          clear HB CE
          go_wp2_with fail
          refine (unhideR CB _ (unhideR HB1)).mono ?_
          rintro e w2 ⟨rfl, b2⟩
          clear CB

          have HB2 := hideR (Bs.later (unhideR HB1) b2 (Nat.le_refl _))
          clear HB1
          go_wp2_with fail
          refine (unhideR CF _ (unhideR HB2)).mono ?_
          rintro e w3 ⟨rfl, b3⟩
          clear CF HB2
          have B3 := bthen (bthen b1 b2) b3

          have HG := kept_new B3
          have q0 : w3.cell? ⟨w.heap.size, 0, none⟩ = some (.int .i64 0) := by simp [World.cell?, HG]
          have q1 : w3.cell? ⟨w.heap.size, 1, none⟩ = some (.int .i64 0) := by simp [World.cell?, HG]
          have f0 : w3.frozen? ⟨w.heap.size, 0, none⟩ = false := by simp [World.frozen?, HG]
          have f1 : w3.frozen? ⟨w.heap.size, 1, none⟩ = false := by simp [World.frozen?, HG]
          go_wp2_with fail
          (try simp only [Exit.inBlock, Exit.then])
          refine bodyPost_ret (v := .tuple #[.agg #[.int .i64 lo, .int .i64 hi], .int .i64 (((n + 1 + m : Nat) : Int))]) ?_ rfl ⟨rfl, ?_⟩
          · rw [results_cell_tmp rfl]
            go_simp
            try omega
          · exact Below.setCell (Below.setCell ((Below.new1 _).trans (B3.mono (by simp))) (Nat.le_refl _) _) (Nat.le_refl _) _
    · rw [decide_eq_false c1] at CB
      have ei : itemL true l = some ((lo, lo), n) := by unfold itemL; rw [e1]; simp only; rw [if_neg c1]
      rw [ei]
      show Calls _ _ _ _ fun e w' => e = .returned (.tuple #[.agg #[.int .i64 lo, .int .i64 lo], .int .i64 (n : Int)]) ∧ Below w.heap.size w w'
      clear e1 ei h c1
      go_enter Tryz.func145, Tryz.ntmps145
      go_wp2_with fail
      refine (unhideR CE _ (unhideR HB)).mono ?_
      rintro e w1 ⟨rfl, b1⟩

      have HB1 := hideR (Bs.later (unhideR HB) b1 (Nat.le_refl _))
      clear HB CE
      go_wp2_with fail
      refine (unhideR CB _ (unhideR HB1)).mono ?_
      rintro e w2 ⟨rfl, b2⟩
      clear CB

      clear HB1
      have B2 := bthen b1 b2
      have HG := kept_new B2
      have q0 : w2.cell? ⟨w.heap.size, 0, none⟩ = some (.int .i64 0) := by simp [World.cell?, HG]
      have q1 : w2.cell? ⟨w.heap.size, 1, none⟩ = some (.int .i64 0) := by simp [World.cell?, HG]
      have f0 : w2.frozen? ⟨w.heap.size, 0, none⟩ = false := by simp [World.frozen?, HG]
      have f1 : w2.frozen? ⟨w.heap.size, 1, none⟩ = false := by simp [World.frozen?, HG]
      go_wp2_with fail
      (try simp only [Exit.inBlock, Exit.then])
      refine bodyPost_ret (v := .tuple #[.agg #[.int .i64 lo, .int .i64 lo], .int .i64 ((n : Int))]) ?_ rfl ⟨rfl, ?_⟩
      · rw [results_cell_tmp rfl]
        go_simp
        try omega
      · exact Below.setCell (Below.setCell ((Below.new1 _).trans (B2.mono (by simp))) (Nat.le_refl _) _) (Nat.le_refl _) _
set_option maxRecDepth 20000 in
set_option maxHeartbeats 4000000 in
theorem itemS (a : Option Addr) (len cap : Nat) (l : List Int) (w : World) (h : Bs w a len cap l) (hl : len ≤ 1000000) :
    Calls Tryz.prog 145 #[.slice a len cap, .func (.func 122) #[] #[]] w fun e w' => e = .returned (.tuple #[.agg #[.int .i64 (pairI (itemL false l)).1.1, .int .i64 (pairI (itemL false l)).1.2], .int .i64 ((pairI (itemL false l)).2 : Nat)]) ∧ Below w.heap.size w w' := by
  have hlen := h.hlen
  have HB := hideR (Bs.later h (Below.new1 (.cells #[.int .i64 0, .int .i64 0] 58)) (Nat.le_refl _))
  have CE := hideR (fun W (hB : Bs W a len cap l) => itemS_end a len cap l W hB hl)
  cases e1 : oneL false l with
  | none =>
    have ei : itemL false l = none := by unfold itemL; rw [e1]
    rw [ei]
    rw [e1] at CE
    show Calls _ _ _ _ fun e w' => e = .returned (.tuple #[.agg #[.int .i64 0, .int .i64 0], .int .i64 0]) ∧ Below w.heap.size w w'
    replace CE : Hid (∀ W, Bs W a len cap l → Calls Tryz.prog 122 #[.slice a len cap] W fun e w' => e = .returned (.tuple #[.int .i64 0, .int .i64 0]) ∧ Below W.heap.size W w') := CE
    clear e1 ei h
    go_enter Tryz.func145, Tryz.ntmps145
    go_wp2_with fail
    refine (unhideR CE _ (unhideR HB)).mono ?_
    rintro e w1 ⟨rfl, b1⟩
    clear CE HB
    have HG := kept_new b1
    have q0 : w1.cell? ⟨w.heap.size, 0, none⟩ = some (.int .i64 0) := by simp [World.cell?, HG]
    have q1 : w1.cell? ⟨w.heap.size, 1, none⟩ = some (.int .i64 0) := by simp [World.cell?, HG]
    have f0 : w1.frozen? ⟨w.heap.size, 0, none⟩ = false := by simp [World.frozen?, HG]
    have f1 : w1.frozen? ⟨w.heap.size, 1, none⟩ = false := by simp [World.frozen?, HG]
    go_wp2_with fail
    (try simp only [Exit.inBlock, Exit.then])
    refine bodyPost_ret (v := .tuple #[.agg #[.int .i64 0, .int .i64 0], .int .i64 (0)]) ?_ rfl ⟨rfl, ?_⟩
    · rw [results_cell_tmp rfl]
      go_simp
      try omega
    · exact Below.setCell (Below.setCell ((Below.new1 _).trans (b1.mono (by simp))) (Nat.le_refl _) _) (Nat.le_refl _) _
  | some p =>
    obtain ⟨lo, n⟩ := p
    have gd := one_good false l lo n h.hbytes e1
    rw [e1] at CE
    replace CE : Hid (∀ W, Bs W a len cap l → Calls Tryz.prog 122 #[.slice a len cap] W fun e w' => e = .returned (.tuple #[.int .i64 lo, .int .i64 (n : Int)]) ∧ Below W.heap.size W w') := CE
    have sl := tail_run a len cap n n rfl (by omega)
    have CB := hideR (fun W (hB : Bs W a len cap l) => begins_l _ _ _ _ W (Bs.dropA hB n (by omega)) ⟨#[45]⟩ [45] st_dash (by simp))
    rw [pre1_eq (by omega)] at CB
    have t0 : ((n : Int) == 0) = false := beq_eq_false_iff_ne.2 (by omega)
    by_cases c1 : (l.drop n).getD 0 0 = 45
    · rw [decide_eq_true c1] at CB
      have hn1 : n + 1 ≤ len := by
        apply Classical.byContradiction
        intro cc
        have : l.drop n = [] := List.drop_of_length_le (by omega)
        rw [this] at c1
        simp [List.getD] at c1
      have t1 := wrapI ((n : Int) + 1) (by omega)
      have sl2 := tail_run a len cap (n + 1) ((n : Int) + 1) (by omega) hn1
      have CF := hideR (fun W (hB : Bs W a len cap l) => itemS_end _ _ _ _ W (Bs.dropA hB (n + 1) hn1) (by omega))
      cases e2 : oneL false (l.drop (n + 1)) with
      | none =>
        have ei : itemL false l = none := by unfold itemL; rw [e1]; simp only; rw [if_pos c1, e2]
        rw [ei]
        rw [e2] at CF
        show Calls _ _ _ _ fun e w' => e = .returned (.tuple #[.agg #[.int .i64 0, .int .i64 0], .int .i64 0]) ∧ Below w.heap.size w w'
        replace CF : Hid (∀ W, Bs W a len cap l → Calls Tryz.prog 122 #[.slice (dropA a cap (n + 1)) (len - (n + 1)) (cap - (n + 1))] W fun e w' => e = .returned (.tuple #[.int .i64 0, .int .i64 0]) ∧ Below W.heap.size W w') := CF
        clear e1 e2 ei h c1
        go_enter Tryz.func145, Tryz.ntmps145
        go_wp2_with fail
        refine (unhideR CE _ (unhideR HB)).mono ?_
        rintro e w1 ⟨rfl, b1⟩

        have HB1 := hideR (Bs.later (unhideR HB) b1 (Nat.le_refl _))
        clear HB CE
        go_wp2_with fail
        refine (unhideR CB _ (unhideR HB1)).mono ?_
        rintro e w2 ⟨rfl, b2⟩
        clear CB

        have HB2 := hideR (Bs.later (unhideR HB1) b2 (Nat.le_refl _))
        clear HB1
        go_wp2_with fail
        refine (unhideR CF _ (unhideR HB2)).mono ?_
        rintro e w3 ⟨rfl, b3⟩
        clear CF HB2
        have B3 := bthen (bthen b1 b2) b3

        have HG := kept_new B3
        have q0 : w3.cell? ⟨w.heap.size, 0, none⟩ = some (.int .i64 0) := by simp [World.cell?, HG]
        have q1 : w3.cell? ⟨w.heap.size, 1, none⟩ = some (.int .i64 0) := by simp [World.cell?, HG]
        have f0 : w3.frozen? ⟨w.heap.size, 0, none⟩ = false := by simp [World.frozen?, HG]
        have f1 : w3.frozen? ⟨w.heap.size, 1, none⟩ = false := by simp [World.frozen?, HG]
        go_wp2_with fail
        (try simp only [Exit.inBlock, Exit.then])
        refine bodyPost_ret (v := .tuple #[.agg #[.int .i64 0, .int .i64 0], .int .i64 (0)]) ?_ rfl ⟨rfl, ?_⟩
        · rw [results_cell_tmp rfl]
          go_simp
          try omega
        · exact Below.setCell (Below.setCell ((Below.new1 _).trans (B3.mono (by simp))) (Nat.le_refl _) _) (Nat.le_refl _) _
      | some q =>
        obtain ⟨hi, m⟩ := q
        have gd2 := one_good false _ hi m (U.isBytes_drop h.hbytes (n + 1)) e2
        rw [List.length_drop] at gd2
        rw [e2] at CF
        replace CF : Hid (∀ W, Bs W a len cap l → Calls Tryz.prog 122 #[.slice (dropA a cap (n + 1)) (len - (n + 1)) (cap - (n + 1))] W fun e w' => e = .returned (.tuple #[.int .i64 hi, .int .i64 (m : Int)]) ∧ Below W.heap.size W w') := CF
        have t2 : ((m : Int) == 0) = false := beq_eq_false_iff_ne.2 (by omega)
        have t3 := wrapI ((n : Int) + 1 + m) (by omega)
        by_cases c2 : hi < lo
        · have ei : itemL false l = none := by unfold itemL; rw [e1]; simp only; rw [if_pos c1, e2]; simp only; rw [if_pos c2]
          rw [ei]
          show Calls _ _ _ _ fun e w' => e = .returned (.tuple #[.agg #[.int .i64 0, .int .i64 0], .int .i64 0]) ∧ Below w.heap.size w w'
          clear e1 e2 ei h c1
          go_enter Tryz.func145, Tryz.ntmps145
          go_wp2_with fail
          refine (unhideR CE _ (unhideR HB)).mono ?_
          rintro e w1 ⟨rfl, b1⟩

          have HB1 := hideR (Bs.later (unhideR HB) b1 (Nat.le_refl _))
          clear HB CE
          go_wp2_with fail
          refine (unhideR CB _ (unhideR HB1)).mono ?_
          rintro e w2 ⟨rfl, b2⟩
          clear CB

          have HB2 := hideR (Bs.later (unhideR HB1) b2 (Nat.le_refl _))
          clear HB1
          go_wp2_with fail
          refine (unhideR CF _ (unhideR HB2)).mono ?_
          rintro e w3 ⟨rfl, b3⟩
          clear CF HB2
          have B3 := bthen (bthen b1 b2) b3

          have HG := kept_new B3
          have q0 : w3.cell? ⟨w.heap.size, 0, none⟩ = some (.int .i64 0) := by simp [World.cell?, HG]
          have q1 : w3.cell? ⟨w.heap.size, 1, none⟩ = some (.int .i64 0) := by simp [World.cell?, HG]
          have f0 : w3.frozen? ⟨w.heap.size, 0, none⟩ = false := by simp [World.frozen?, HG]
          have f1 : w3.frozen? ⟨w.heap.size, 1, none⟩ = false := by simp [World.frozen?, HG]
          go_wp2_with fail
          (try simp only [Exit.inBlock, Exit.then])
          refine bodyPost_ret (v := .tuple #[.agg #[.int .i64 0, .int .i64 0], .int .i64 (0)]) ?_ rfl ⟨rfl, ?_⟩
          · rw [results_cell_tmp rfl]
            go_simp
            try omega
          · exact Below.setCell (Below.setCell ((Below.new1 _).trans (B3.mono (by simp))) (Nat.le_refl _) _) (Nat.le_refl _) _
        · have ei : itemL false l = some ((lo, hi), n + 1 + m) := by unfold itemL; rw [e1]; simp only; rw [if_pos c1, e2]; simp only; rw [if_neg c2]
          rw [ei]
          show Calls _ _ _ _ fun e w' => e = .returned (.tuple #[.agg #[.int .i64 lo, .int .i64 hi], .int .i64 ((n + 1 + m : Nat) : Int)]) ∧ Below w.heap.size w w'
          have c2' : lo ≤ hi := by omega
          clear e1 e2 ei h c1
          go_enter Tryz.func145, Tryz.ntmps145
          go_wp2_with fail
          refine (unhideR CE _ (unhideR HB)).mono ?_
          rintro e w1 ⟨rfl, b1⟩

          have HB1 := hideR (Bs.later (unhideR HB) b1 (Nat.le_refl _))
          clear HB CE
          go_wp2_with fail
          refine (unhideR CB _ (unhideR HB1)).mono ?_
          rintro e w2 ⟨rfl, b2⟩
          clear CB

          have HB2 := hideR (Bs.later (unhideR HB1) b2 (Nat.le_refl _))
          clear HB1
          go_wp2_with fail
          refine (unhideR CF _ (unhideR HB2)).mono ?_
          rintro e w3 ⟨rfl, b3⟩
          clear CF HB2
          have B3 := bthen (bthen b1 b2) b3

          have HG := kept_new B3
          have q0 : w3.cell? ⟨w.heap.size, 0, none⟩ = some (.int .i64 0) := by simp [World.cell?, HG]
          have q1 : w3.cell? ⟨w.heap.size, 1, none⟩ = some (.int .i64 0) := by simp [World.cell?, HG]
          have f0 : w3.frozen? ⟨w.heap.size, 0, none⟩ = false := by simp [World.frozen?, HG]
          have f1 : w3.frozen? ⟨w.heap.size, 1, none⟩ = false := by simp [World.frozen?, HG]
          go_wp2_with fail
          (try simp only [Exit.inBlock, Exit.then])
          refine bodyPost_ret (v := .tuple #[.agg #[.int .i64 lo, .int .i64 hi], .int .i64 (((n + 1 + m : Nat) : Int))]) ?_ rfl ⟨rfl, ?_⟩
          · rw [results_cell_tmp rfl]
            go_simp
            try omega
          · exact Below.setCell (Below.setCell ((Below.new1 _).trans (B3.mono (by simp))) (Nat.le_refl _) _) (Nat.le_refl _) _
    · rw [decide_eq_false c1] at CB
      have ei : itemL false l = some ((lo, lo), n) := by unfold itemL; rw [e1]; simp only; rw [if_neg c1]
      rw [ei]
      show Calls _ _ _ _ fun e w' => e = .returned (.tuple #[.agg #[.int .i64 lo, .int .i64 lo], .int .i64 (n : Int)]) ∧ Below w.heap.size w w'
      clear e1 ei h c1
      go_enter Tryz.func145, Tryz.ntmps145
      go_wp2_with fail
      refine (unhideR CE _ (unhideR HB)).mono ?_
      rintro e w1 ⟨rfl, b1⟩

      have HB1 := hideR (Bs.later (unhideR HB) b1 (Nat.le_refl _))
      clear HB CE
      go_wp2_with fail
      refine (unhideR CB _ (unhideR HB1)).mono ?_
      rintro e w2 ⟨rfl, b2⟩
      clear CB

      clear HB1
      have B2 := bthen b1 b2
      have HG := kept_new B2
      have q0 : w2.cell? ⟨w.heap.size, 0, none⟩ = some (.int .i64 0) := by simp [World.cell?, HG]
      have q1 : w2.cell? ⟨w.heap.size, 1, none⟩ = some (.int .i64 0) := by simp [World.cell?, HG]
      have f0 : w2.frozen? ⟨w.heap.size, 0, none⟩ = false := by simp [World.frozen?, HG]
      have f1 : w2.frozen? ⟨w.heap.size, 1, none⟩ = false := by simp [World.frozen?, HG]
      go_wp2_with fail
      (try simp only [Exit.inBlock, Exit.then])
      refine bodyPost_ret (v := .tuple #[.agg #[.int .i64 lo, .int .i64 lo], .int .i64 ((n : Int))]) ?_ rfl ⟨rfl, ?_⟩
      · rw [results_cell_tmp rfl]
        go_simp
        try omega
      · exact Below.setCell (Below.setCell ((Below.new1 _).trans (B2.mono (by simp))) (Nat.le_refl _) _) (Nat.le_refl _) _
end Go.Proofs.YtfcfcgeodghmpaaGreatDoor.T

namespace Go.Proofs.YtfcfcgeodghmpaaGreatDoor
open Go.RowKit
set_option linter.unusedVariables false

theorem infoRg : (Tryz.prog.info? 58).map (fun i => (i.zero, i.size, i.bytes)) = some (some (.agg #[.int .i64 0, .int .i64 0]), 2, 16) := by kernel_rfl

def cellsL (l : List (Int × Int)) : List Value := l.flatMap fun r => [.int .i64 r.1, .int .i64 r.2]

theorem cellsL_append (a b : List (Int × Int)) : cellsL (a ++ b) = cellsL a ++ cellsL b := by simp [cellsL]
theorem cellsL_length (l : List (Int × Int)) : (cellsL l).length = l.length * 2 := by
  induction l with
  | nil => rfl
  | cons r t ih => simp [cellsL] at *; omega
theorem cellsL_at (l : List (Int × Int)) (i : Nat) (hi : i < l.length) : (cellsL l)[i * 2]? = some (.int .i64 (l.getD i (0, 0)).1) ∧ (cellsL l)[i * 2 + 1]? = some (.int .i64 (l.getD i (0, 0)).2) := by
  induction l generalizing i with
  | nil => simp at hi
  | cons r t ih =>
    have e : cellsL (r :: t) = .int .i64 r.1 :: .int .i64 r.2 :: cellsL t := rfl
    rw [e]
    cases i with
    | zero => simp
    | succ i =>
      have := ih i (by simpa using hi)
      rw [show (i + 1) * 2 = i * 2 + 1 + 1 by omega]
      simpa using this

def Ow (w : World) (base : Nat) (v : Value) (l : List (Int × Int)) : Prop := w.ownsRow base 58 2 v l.length (cellsL l)

theorem Ow.rs {w : World} {base : Nat} {v : Value} {l : List (Int × Int)} (h : Ow w base v l) (hf : ∀ r ∈ l, fits r.1 ∧ fits r.2) : ∃ a cap, v = .slice a l.length cap ∧ Rs w a l.length cap l := by
  rcases h.2 with ⟨rfl, h0⟩ | ⟨g, cap, cur, rfl, hb, hg, hn, hm, hs, ht⟩
  · have : l = [] := List.eq_nil_of_length_eq_zero h0
    subst this
    exact ⟨none, 0, rfl, Rs.nil w⟩
  · refine ⟨_, cap, rfl, rfl, hn, hm, hf, fun i hi => ⟨g, 0, rfl, ?_⟩⟩
    have c : ∀ (j : Nat) (u : Value), (cellsL l)[j]? = some u → w.cell? ⟨g, 0 + j, none⟩ = some u := by
      intro j u hj
      have := World.ownsRow.cells h (g := g) rfl j u hj
      rw [show (⟨g, 0, none⟩ : Addr).add j = ⟨g, 0 + j, none⟩ from by rw [Addr.add_lit]] at this
      exact this
    have k := cellsL_at l i hi
    exact ⟨c _ _ k.1, c _ _ k.2⟩

def clip1 (r : Int × Int) : Int × Int := (max r.1 0, min r.2 1114111)
def clipL (l : List (Int × Int)) : List (Int × Int) := (l.map clip1).filter fun r => decide (r.1 ≤ r.2)

theorem clipL_append (a b : List (Int × Int)) : clipL (a ++ b) = clipL a ++ clipL b := by simp [clipL]
theorem clipL_mem {l : List (Int × Int)} {r : Int × Int} (h : r ∈ clipL l) : 0 ≤ r.1 ∧ r.1 ≤ r.2 ∧ r.2 ≤ 1114111 := by
  unfold clipL at h
  rw [List.mem_filter, List.mem_map] at h
  obtain ⟨⟨x, _, rfl⟩, h⟩ := h
  have h := of_decide_eq_true h
  unfold clip1 at *
  simp only at *
  omega
theorem clipL_length (l : List (Int × Int)) : (clipL l).length ≤ l.length := by
  unfold clipL
  exact Nat.le_trans (List.length_filter_le _ _) (by simp)
theorem clipL_has (l : List (Int × Int)) (n : Int) : G.hasB (clipL l) n = (G.dom n && G.hasB l n) := by
  induction l with
  | nil => simp [clipL, G.hasB]
  | cons r t ih =>
    have e : clipL (r :: t) = clipL [r] ++ clipL t := by rw [← clipL_append]; rfl
    rw [e, G.hasB_append, ih, G.hasB_cons]
    have k : G.hasB (clipL [r]) n = (G.dom n && (decide (r.1 ≤ n) && decide (n ≤ r.2))) := by
      unfold clipL clip1 G.dom
      by_cases c : max r.1 0 ≤ min r.2 1114111
      · simp only [List.map_cons, List.map_nil, List.filter_cons, List.filter_nil, decide_eq_true c, if_true, G.hasB_one]
        rw [Bool.eq_iff_iff]; simp only [Bool.and_eq_true, decide_eq_true_eq]; omega
      · simp only [List.map_cons, List.map_nil, List.filter_cons, List.filter_nil, decide_eq_false c, Bool.false_eq_true, if_false, G.hasB_nil]
        symm
        rw [Bool.eq_false_iff]; simp only [ne_eq, Bool.and_eq_true, decide_eq_true_eq]; omega
    rw [k]
    cases G.dom n <;> simp
theorem fits_clip {l : List (Int × Int)} {r : Int × Int} (h : r ∈ clipL l) : fits r.1 ∧ fits r.2 := by
  have := clipL_mem h
  unfold fits; omega
theorem clip_yes (lo hi x y : Int) (hx : max lo 0 = x) (hy : min hi 1114111 = y) (h : x ≤ y) : clipL [(lo, hi)] = [(x, y)] := by
  subst hx; subst hy
  simp [clipL, clip1, h]
theorem clip_no (lo hi : Int) (h : ¬ max lo 0 ≤ min hi 1114111) : clipL [(lo, hi)] = [] := by
  simp [clipL, clip1, h]

theorem own_mono {W : World} {base base' : Nat} {e : TypeId} {size : Nat} {v : Value} {n : Nat} {xs : List Value} (h : W.ownsRow base e size v n xs) (hb : base' ≤ base) : W.ownsRow base' e size v n xs := by
  refine ⟨h.1, ?_⟩
  rcases h.2 with hn | ⟨g, cap, cur, hv, hg, rest⟩
  · exact .inl hn
  · exact .inr ⟨g, cap, cur, hv, by omega, rest⟩
theorem own_form {W : World} {base : Nat} {e : TypeId} {size : Nat} {v : Value} {n : Nat} {xs : List Value} (h : W.ownsRow base e size v n xs) : ∃ a cap, v = .slice a n cap := by
  rcases h.2 with ⟨rfl, h0⟩ | ⟨g, cap, cur, hv, _⟩
  · exact ⟨none, 0, by rw [h0]⟩
  · exact ⟨_, cap, hv⟩

theorem new_cells (w : World) (n : Nat) (x y : Int) (hn : n = w.heap.size) : ∀ (j : Nat) (u : Value), [Value.int .i64 x, .int .i64 y][j]? = some u → (w.alloc (.cells #[.int .i64 x, .int .i64 y] 58)).cell? ((⟨n, 0, none⟩ : Addr).add j) = some u := by
  subst hn
  exact World.news_of_block (cs := #[.int .i64 x, .int .i64 y]) (t := 58) (fr := (0, 0)) (heap_alloc_new w _)

theorem below_append {B : Nat} {w w1 : World} {o1 o2 o3 : Obj} {e : TypeId} {sz n : Nat} {v : Value} {xs : List Value} (h : w.ownsRow B e sz v n xs) (hB : B ≤ w.heap.size) (hg : (((w.alloc o1).alloc o2).alloc o3).grownBy w1 v.ownBlock) : Below B w w1 :=
  ((((Below.refl B w).alloc hB _).alloc (by simp; omega) _).alloc (by simp; omega) _).grown hg (by simp; omega) (fun k hk => (h.lt k hk).1)

set_option maxRecDepth 20000 in
set_option maxHeartbeats 1000000 in
theorem clipped_any (a : Option Addr) (len cap : Nat) (l : List (Int × Int)) (w : World) (h : Rs w a len cap l) (hs : len ≤ 1000000) :
    Calls Tryz.prog 149 #[.slice a len cap] w fun e w' => ∃ v, e = .returned v ∧ Ow w' w.heap.size v (clipL l) ∧ Below w.heap.size w w' := by
  have hl := h.hlen
  have hmax := h.hmax
  have hcap := h.hcap
  unfold maxLen at hmax
  obtain ⟨i0, hi0, hz0, hz1, hz2⟩ := info_parts infoRg
  go_enter Tryz.func149, Tryz.ntmps149
  go_wp2
  go_loopw [3, 9] (fun v i wr => ∃ (k : Nat) (out : List (Int × Int)), k ≤ len ∧ i = .int .i64 k ∧ Hid (out = clipL (l.take k)) ∧ out.length ≤ k ∧ wr.ownsRow w.heap.size 58 2 v out.length (cellsL out) ∧ Below w.heap.size w wr) (fun _ i _ => len - (intOf i).toNat)
  case atStart => exact ⟨0, [], Nat.zero_le _, rfl, by show [] = _; simp [clipL], Nat.le_refl _, World.ownsRow_nil _ _ _ _, Below.refl _ _⟩
  case round =>
    obtain ⟨k, out, hk, rfl, ho, hol, hown, hb⟩ := hrel
    by_cases hlt : k < len
    · obtain ⟨b, off, rfl, hr⟩ := (h.later hb (Nat.le_refl _)).open (by omega)
      obtain ⟨lo, hi, -, hd, f1, f2, c0, c1⟩ := hr.at k hlt
      unfold fits at f1 f2
      have hd' : Hid (l.take (k + 1) = l.take k ++ [(lo, hi)]) := hd
      clear hd hr
      have key : (lo < 0 ∧ 1114111 < hi) ∨ (lo < 0 ∧ hi ≤ 1114111 ∧ 0 ≤ hi) ∨ (0 ≤ lo ∧ 1114111 < hi ∧ lo ≤ 1114111) ∨ (0 ≤ lo ∧ hi ≤ 1114111 ∧ lo ≤ hi) ∨ (lo < 0 ∧ hi ≤ 1114111 ∧ hi < 0) ∨ (0 ≤ lo ∧ 1114111 < hi ∧ 1114111 < lo) ∨ (0 ≤ lo ∧ hi ≤ 1114111 ∧ hi < lo) := by omega
      rcases key with ⟨t1, t2⟩ | ⟨t1, t2, t3⟩ | ⟨t1, t2, t3⟩ | ⟨t1, t2, t3⟩ | ⟨t1, t2, t3⟩ | ⟨t1, t2, t3⟩ | ⟨t1, t2, t3⟩
      · have st : Hid (out ++ [(0, 1114111)] = clipL (l.take (k + 1))) := by
          show _ = _
          rw [hd'.out, clipL_append, ← ho.out, clip_yes lo hi 0 1114111 (by omega) (by omega) (by omega)]
        go_wp2_with (at_builtin; refine wpList_append_lies _ rfl _ _ 33 rfl w.heap.size 58 i0 _ 2 16 Tryz.underlying33 hi0 hz0 hz1 hz2 rfl (by omega) _ _ _ rfl (((hown.alloc _).alloc _).alloc _) ⟨wr.heap.size + 2, 0, none⟩ 1 1 [.int .i64 0, .int .i64 1114111] rfl rfl (new_cells _ _ _ _ (by simp)) (by simp [Value.oneCell']) (by omega) (by unfold maxLen; omega) (by omega) (by have := hb.size; simp; omega) (wr.heap.size + 3) (by simp) ?_; intro gg cap1 w1 hown1 hgrow hat hlt1)
        go_roundw
        case rel => exact ⟨k + 1, out ++ [(0, 1114111)], by omega, by go_num, st, by simp; omega, by rw [cellsL_append, List.length_append]; exact hown1, hb.trans (below_append hown hb.size hgrow)⟩
        case measure => simp [intOf]; omega
      · have st : Hid (out ++ [(0, hi)] = clipL (l.take (k + 1))) := by
          show _ = _
          rw [hd'.out, clipL_append, ← ho.out, clip_yes lo hi 0 hi (by omega) (by omega) (by omega)]
        go_wp2_with (at_builtin; refine wpList_append_lies _ rfl _ _ 33 rfl w.heap.size 58 i0 _ 2 16 Tryz.underlying33 hi0 hz0 hz1 hz2 rfl (by omega) _ _ _ rfl (((hown.alloc _).alloc _).alloc _) ⟨wr.heap.size + 2, 0, none⟩ 1 1 [.int .i64 0, .int .i64 hi] rfl rfl (new_cells _ _ _ _ (by simp)) (by simp [Value.oneCell']) (by omega) (by unfold maxLen; omega) (by omega) (by have := hb.size; simp; omega) (wr.heap.size + 3) (by simp) ?_; intro gg cap1 w1 hown1 hgrow hat hlt1)
        go_roundw
        case rel => exact ⟨k + 1, out ++ [(0, hi)], by omega, by go_num, st, by simp; omega, by rw [cellsL_append, List.length_append]; exact hown1, hb.trans (below_append hown hb.size hgrow)⟩
        case measure => simp [intOf]; omega
      · have st : Hid (out ++ [(lo, 1114111)] = clipL (l.take (k + 1))) := by
          show _ = _
          rw [hd'.out, clipL_append, ← ho.out, clip_yes lo hi lo 1114111 (by omega) (by omega) (by omega)]
        go_wp2_with (at_builtin; refine wpList_append_lies _ rfl _ _ 33 rfl w.heap.size 58 i0 _ 2 16 Tryz.underlying33 hi0 hz0 hz1 hz2 rfl (by omega) _ _ _ rfl (((hown.alloc _).alloc _).alloc _) ⟨wr.heap.size + 2, 0, none⟩ 1 1 [.int .i64 lo, .int .i64 1114111] rfl rfl (new_cells _ _ _ _ (by simp)) (by simp [Value.oneCell']) (by omega) (by unfold maxLen; omega) (by omega) (by have := hb.size; simp; omega) (wr.heap.size + 3) (by simp) ?_; intro gg cap1 w1 hown1 hgrow hat hlt1)
        go_roundw
        case rel => exact ⟨k + 1, out ++ [(lo, 1114111)], by omega, by go_num, st, by simp; omega, by rw [cellsL_append, List.length_append]; exact hown1, hb.trans (below_append hown hb.size hgrow)⟩
        case measure => simp [intOf]; omega
      · have st : Hid (out ++ [(lo, hi)] = clipL (l.take (k + 1))) := by
          show _ = _
          rw [hd'.out, clipL_append, ← ho.out, clip_yes lo hi lo hi (by omega) (by omega) (by omega)]
        go_wp2_with (at_builtin; refine wpList_append_lies _ rfl _ _ 33 rfl w.heap.size 58 i0 _ 2 16 Tryz.underlying33 hi0 hz0 hz1 hz2 rfl (by omega) _ _ _ rfl (((hown.alloc _).alloc _).alloc _) ⟨wr.heap.size + 2, 0, none⟩ 1 1 [.int .i64 lo, .int .i64 hi] rfl rfl (new_cells _ _ _ _ (by simp)) (by simp [Value.oneCell']) (by omega) (by unfold maxLen; omega) (by omega) (by have := hb.size; simp; omega) (wr.heap.size + 3) (by simp) ?_; intro gg cap1 w1 hown1 hgrow hat hlt1)
        go_roundw
        case rel => exact ⟨k + 1, out ++ [(lo, hi)], by omega, by go_num, st, by simp; omega, by rw [cellsL_append, List.length_append]; exact hown1, hb.trans (below_append hown hb.size hgrow)⟩
        case measure => simp [intOf]; omega
      · have st : Hid (out = clipL (l.take (k + 1))) := by
          show _ = _
          rw [hd'.out, clipL_append, ← ho.out, clip_no lo hi (by omega), List.append_nil]
        go_wp2
        go_roundw
        case rel => exact ⟨k + 1, out, by omega, by go_num, st, by omega, (hown.alloc _).alloc _, hb.trans (((Below.new1 _).alloc (by simp) _).mono hb.size)⟩
        case measure => simp [intOf]; omega
      · have st : Hid (out = clipL (l.take (k + 1))) := by
          show _ = _
          rw [hd'.out, clipL_append, ← ho.out, clip_no lo hi (by omega), List.append_nil]
        go_wp2
        go_roundw
        case rel => exact ⟨k + 1, out, by omega, by go_num, st, by omega, (hown.alloc _).alloc _, hb.trans (((Below.new1 _).alloc (by simp) _).mono hb.size)⟩
        case measure => simp [intOf]; omega
      · have st : Hid (out = clipL (l.take (k + 1))) := by
          show _ = _
          rw [hd'.out, clipL_append, ← ho.out, clip_no lo hi (by omega), List.append_nil]
        go_wp2
        go_roundw
        case rel => exact ⟨k + 1, out, by omega, by go_num, st, by omega, (hown.alloc _).alloc _, hb.trans (((Below.new1 _).alloc (by simp) _).mono hb.size)⟩
        case measure => simp [intOf]; omega
    · have hk2 : k = len := by omega
      subst hk2
      have ho' := ho.out
      rw [List.take_of_length_le (by omega)] at ho'
      subst ho'
      clear ho
      go_wp2
      go_ret
      exact ⟨_, rfl, hown, hb⟩

end Go.Proofs.YtfcfcgeodghmpaaGreatDoor

namespace Go.Proofs.YtfcfcgeodghmpaaGreatDoor
open Go.RowKit
set_option linter.unusedVariables false

abbrev boxRg (lo hi : Int) : Obj := .cells #[.int .i64 lo, .int .i64 hi] 58

end Go.Proofs.YtfcfcgeodghmpaaGreatDoor

namespace Go.Proofs.YtfcfcgeodghmpaaGreatDoor
open Go.RowKit
set_option linter.unusedVariables false

namespace G
theorem endOf_mem {least : Int} {l : List (Int × Int)} (h : mayFrom least l = true) {r : Int × Int} (hr : r ∈ l) : r.2 + 2 ≤ endOf least l := by
  induction l generalizing least with
  | nil => cases hr
  | cons x t ih =>
    rw [mayFrom_cons] at h
    have e : ∀ (t : List (Int × Int)) (c : Int), mayFrom c t = true → c ≤ endOf c t := by
      intro t
      induction t with
      | nil => intro c _; exact Int.le_refl _
      | cons y u ihu => intro c hc; rw [mayFrom_cons] at hc; have := ihu _ hc.2.2.2; show c ≤ endOf (y.2 + 2) u; omega
    rcases List.mem_cons.1 hr with rfl | hr
    · exact e t _ h.2.2.2
    · exact ih h.2.2.2 hr

def sideA (l : List (Int × Int)) (n : Int) (i : Nat) : Prop := ∀ r ∈ l.take i, r.2 < n
def sideB (l : List (Int × Int)) (n : Int) (j : Nat) : Prop := ∀ r ∈ l.drop j, n ≤ r.2

theorem may_cut {l : List (Int × Int)} (h : mayB l = true) {k : Nat} {lo hi : Int} {t : List (Int × Int)} (hd : l.drop k = (lo, hi) :: t) : (∀ r ∈ l.take k, r.2 + 2 ≤ lo) ∧ lo ≤ hi ∧ mayFrom (hi + 2) t = true ∧ 0 ≤ lo ∧ hi ≤ 1114111 := by
  have e : l = l.take k ++ l.drop k := (List.take_append_drop k l).symm
  have m : (lo, hi) ∈ l := by rw [e, hd]; simp
  have b := may_mem h m
  unfold mayB at h
  rw [e, mayFrom_append, hd, mayFrom_cons] at h
  simp only at h b
  exact ⟨fun r hr => by have := endOf_mem h.1 hr; omega, h.2.2.1, h.2.2.2.2, b.1, b.2.2⟩

theorem sideA_step {l : List (Int × Int)} {n : Int} (h : mayB l = true) {k : Nat} {lo hi : Int} {t : List (Int × Int)} (hd : l.drop k = (lo, hi) :: t) (ht : l.take (k + 1) = l.take k ++ [(lo, hi)]) (hn : hi < n) : sideA l n (k + 1) := by
  obtain ⟨h1, h2, _⟩ := may_cut h hd
  intro r hr
  rw [ht] at hr
  rcases List.mem_append.1 hr with hr | hr
  · have := h1 r hr; omega
  · simp at hr; subst hr; exact hn
theorem sideB_step {l : List (Int × Int)} {n : Int} (h : mayB l = true) {k : Nat} {lo hi : Int} {t : List (Int × Int)} (hd : l.drop k = (lo, hi) :: t) (hn : n ≤ hi) : sideB l n k := by
  obtain ⟨_, h2, h3, _⟩ := may_cut h hd
  intro r hr
  rw [hd] at hr
  rcases List.mem_cons.1 hr with rfl | hr
  · exact hn
  · have := may_mem h3 hr; omega
theorem side_end {l : List (Int × Int)} {n : Int} {k : Nat} (ha : sideA l n k) : hasB l n = hasB (l.drop k) n := by
  have e : l = l.take k ++ l.drop k := (List.take_append_drop k l).symm
  have f : hasB (l.take k) n = false := by
    unfold hasB
    rw [List.any_eq_false]
    intro r hr
    have := ha r hr
    simp; omega
  rw [show hasB l n = hasB (l.take k ++ l.drop k) n by rw [← e], hasB_append, f, Bool.false_or]
theorem side_found {l : List (Int × Int)} {n : Int} (h : mayB l = true) {k : Nat} {lo hi : Int} {t : List (Int × Int)} (ha : sideA l n k) (hb : sideB l n k) (hd : l.drop k = (lo, hi) :: t) : hasB l n = decide (lo ≤ n) := by
  obtain ⟨_, h2, h3, _⟩ := may_cut h hd
  have := hb (lo, hi) (by rw [hd]; simp)
  simp only at this
  rw [side_end ha, hd, hasB_cons, has_low h3 (by omega)]
  simp [this]
end G

def sideI (lo hi n : Int) : Int := if hi < n then -1 else if n < lo then 1 else 0

set_option maxHeartbeats 400000 in
theorem side_any (lo hi n : Int) (w : World) :
    Calls Tryz.prog 203 #[.agg #[.int .i64 lo, .int .i64 hi], .int .i64 n] w fun e w' => e = .returned (.int .i64 (sideI lo hi n)) ∧ w' = w.alloc (boxRg lo hi) := by
  unfold sideI
  by_cases h1 : hi < n
  · rw [if_pos h1]
    go_enter Tryz.func203, Tryz.ntmps203
    go_wp2
    go_ret
    exact ⟨rfl, rfl⟩
  · rw [if_neg h1]
    by_cases h2 : n < lo
    · rw [if_pos h2]
      go_enter Tryz.func203, Tryz.ntmps203
      go_wp2
      go_ret
      exact ⟨rfl, rfl⟩
    · rw [if_neg h2]
      go_enter Tryz.func203, Tryz.ntmps203
      go_wp2
      go_ret
      exact ⟨rfl, rfl⟩

set_option maxHeartbeats 1000000 in
theorem search_any (a : Option Addr) (len cap : Nat) (l : List (Int × Int)) (n : Int) (w : World) (h : Rs w a len cap l) (hm : G.mayB l = true) (hs : len ≤ 1000000) :
    Calls Tryz.prog 202 #[.slice a len cap, .int .i64 n, .func (.func 203) #[] #[]] w fun e w' => (∃ r : Int, e = .returned (.tuple #[.int .i64 r, .bool (G.hasB l n)])) ∧ Below w.heap.size w w' := by
  have hl := h.hlen
  have hmax := h.hmax
  have hcap := h.hcap
  unfold maxLen at hmax
  go_enter Tryz.func202, Tryz.ntmps202
  go_wp2
  go_loopw [9, 10] (fun i j wr => ∃ (p q : Nat), p ≤ q ∧ q ≤ len ∧ i = .int .i64 p ∧ j = .int .i64 q ∧ Hid (G.sideA l n p ∧ G.sideB l n q) ∧ Below w.heap.size w wr) (fun i j _ => (intOf j).toNat - (intOf i).toNat)
  case atStart => exact ⟨0, len, Nat.zero_le _, Nat.le_refl _, rfl, rfl, by show _ ∧ _; exact ⟨fun r hr => by simp at hr, fun r hr => by rw [List.drop_of_length_le (by omega)] at hr; cases hr⟩, Below.refl _ _⟩
  case round =>
    obtain ⟨p, q, hpq, hq, rfl, rfl, hsd, hb⟩ := hrel
    by_cases hlt : p < q
    · obtain ⟨b, off, rfl, hr⟩ := (h.later hb (Nat.le_refl _)).open (by omega)
      obtain ⟨lo, hi, hd, htk, f1, f2, c0, c1⟩ := hr.at ((p + q) / 2) (by omega)
      have hA : Hid (hi < n → G.sideA l n ((p + q) / 2 + 1)) := fun hx => G.sideA_step hm hd htk hx
      have hB : Hid (n ≤ hi → G.sideB l n ((p + q) / 2)) := fun hx => G.sideB_step hm hd hx
      clear hd htk hr f1 f2
      by_cases t1 : hi < n
      · have hv : Hid (sideI lo hi n = -1) := by show _ = _; unfold sideI; rw [if_pos t1]
        go_wp2_with (go_at_call 203; refine (side_any _ _ _ _).mono ?_; rw [hv.out]; rintro e w' ⟨rfl, rfl⟩)
        go_roundw
        case rel => exact ⟨(p + q) / 2 + 1, q, by omega, hq, by go_num, rfl, ⟨hA.out t1, hsd.out.2⟩, hb.trans ((Below.new1 _).mono hb.size)⟩
        case measure => simp [intOf]; omega
      · by_cases t2 : n < lo
        · have hv : Hid (sideI lo hi n = 1) := by show _ = _; unfold sideI; rw [if_neg t1, if_pos t2]
          go_wp2_with (go_at_call 203; refine (side_any _ _ _ _).mono ?_; rw [hv.out]; rintro e w' ⟨rfl, rfl⟩)
          go_roundw
          case rel => exact ⟨p, (p + q) / 2, by omega, by omega, rfl, by go_num, ⟨hsd.out.1, hB.out (by omega)⟩, hb.trans ((Below.new1 _).mono hb.size)⟩
          case measure => simp [intOf]; omega
        · have hv : Hid (sideI lo hi n = 0) := by show _ = _; unfold sideI; rw [if_neg t1, if_neg t2]
          go_wp2_with (go_at_call 203; refine (side_any _ _ _ _).mono ?_; rw [hv.out]; rintro e w' ⟨rfl, rfl⟩)
          go_roundw
          case rel => exact ⟨p, (p + q) / 2, by omega, by omega, rfl, by go_num, ⟨hsd.out.1, hB.out (by omega)⟩, hb.trans ((Below.new1 _).mono hb.size)⟩
          case measure => simp [intOf]; omega
    · have hpq2 : q = p := by omega
      subst hpq2
      by_cases hin : q < len
      · obtain ⟨b, off, rfl, hr⟩ := (h.later hb (Nat.le_refl _)).open (by omega)
        obtain ⟨lo, hi, hd, -, f1, f2, c0, c1⟩ := hr.at q hin
        have hx : n ≤ hi := hsd.out.2 (lo, hi) (by rw [hd]; simp)
        have fin : Hid (G.hasB l n = decide (lo ≤ n)) := G.side_found hm hsd.out.1 hsd.out.2 hd
        clear hd hr f1 f2
        by_cases t2 : n < lo
        · have hv : Hid (sideI lo hi n = 1) := by show _ = _; unfold sideI; rw [if_neg (by omega), if_pos t2]
          go_wp2_with (go_at_call 203; refine (side_any _ _ _ _).mono ?_; rw [hv.out]; rintro e w' ⟨rfl, rfl⟩)
          go_ret2
          exact ⟨⟨_, by rw [fin.out, decide_eq_false (by omega)]; rfl⟩, hb.trans ((Below.new1 _).mono hb.size)⟩
        · have hv : Hid (sideI lo hi n = 0) := by show _ = _; unfold sideI; rw [if_neg (by omega), if_neg t2]
          go_wp2_with (go_at_call 203; refine (side_any _ _ _ _).mono ?_; rw [hv.out]; rintro e w' ⟨rfl, rfl⟩)
          go_ret2
          exact ⟨⟨_, by rw [fin.out, decide_eq_true (by omega)]; rfl⟩, hb.trans ((Below.new1 _).mono hb.size)⟩
      · have fin : Hid (G.hasB l n = false) := by
          show _ = _
          rw [G.side_end hsd.out.1, List.drop_of_length_le (by omega)]; rfl
        go_wp2
        go_ret2
        exact ⟨⟨_, by rw [fin.out]; rfl⟩, hb⟩

set_option maxHeartbeats 400000 in
theorem setHas_any (a : Option Addr) (len cap : Nat) (l : List (Int × Int)) (n : Int) (w : World) (h : Rs w a len cap l) (hm : G.mayB l = true) (hs : len ≤ 1000000) :
    Calls Tryz.prog 178 #[.slice a len cap, .int .i64 n] w fun e w' => e = .returned (.bool (G.hasB l n)) ∧ Below w.heap.size w w' := by
  have hc := search_any a len cap l n w h hm hs
  generalize G.hasB l n = r at *
  clear h hm
  go_enter Tryz.func178, Tryz.ntmps178
  go_wp2_with (go_at_call 202; refine hc.mono ?_; rintro e w' ⟨⟨x, rfl⟩, hb⟩)
  go_ret
  exact ⟨rfl, hb⟩

def bord (l : List (Int × Int)) (i : Nat) : Int := (G.bs l).getD i 1114113

theorem bord_end {l : List (Int × Int)} {i : Nat} (h : l.length ≤ i / 2) : bord l i = 1114113 := by
  unfold bord
  have := G.bs_length l
  rw [List.getD_eq_getElem?_getD, List.getElem?_eq_none (by omega)]; rfl
theorem bord_at {l : List (Int × Int)} {k : Nat} {lo hi : Int} {t : List (Int × Int)} (hd : l.drop k = (lo, hi) :: t) : bord l (2 * k) = lo ∧ bord l (2 * k + 1) = hi + 1 := by
  induction l generalizing k with
  | nil => simp at hd
  | cons r u ih =>
    cases k with
    | zero => simp at hd; obtain ⟨rfl, rfl⟩ := hd; simp [bord, G.bs]
    | succ k =>
      have := ih (k := k) (by simpa using hd)
      rw [show 2 * (k + 1) = 2 * k + 1 + 1 by omega, show 2 * k + 1 + 1 + 1 = (2 * k + 1) + 1 + 1 by omega]
      unfold bord at *
      simpa [G.bs] using this

set_option maxHeartbeats 400000 in
theorem border_any (a : Option Addr) (len cap : Nat) (l : List (Int × Int)) (i : Nat) (w : World) (h : Rs w a len cap l) (hm : G.mayB l = true) (hi : i ≤ 2000000) :
    Calls Tryz.prog 201 #[.slice a len cap, .int .i64 i] w fun e w' => e = .returned (.int .i64 (bord l i)) ∧ w' = w := by
  have hl := h.hlen
  have hmax := h.hmax
  have hcap := h.hcap
  unfold maxLen at hmax
  by_cases h1 : len ≤ i / 2
  · rw [bord_end (by omega)]
    have h1' : (len : Int) ≤ (i : Int) / 2 := by omega
    go_enter Tryz.func201, Tryz.ntmps201
    go_wp2
    go_ret
    exact ⟨rfl, rfl⟩
  · obtain ⟨b, off, rfl, hr⟩ := h.open (by omega)
    obtain ⟨lo, hi, hd, -, f1, f2, c0, c1⟩ := hr.at (i / 2) (by omega)
    have hb := bord_at hd
    obtain ⟨-, -, -, p0, p1⟩ := G.may_cut hm hd
    have q1 : lo ≤ hi := (G.may_cut hm hd).2.1
    have h1' : (i : Int) / 2 < (len : Int) := by omega
    clear hd hr f1 f2 h
    by_cases h2 : i % 2 = 0
    · have e : bord l i = lo := by rw [← hb.1]; congr 1; omega
      rw [e]
      clear hb e
      have h2' : (((i : Int) % 2) == 0) = true := by rw [beq_iff_eq]; omega
      go_enter Tryz.func201, Tryz.ntmps201
      go_wp2
      go_ret
      exact ⟨rfl, rfl⟩
    · have e : bord l i = hi + 1 := by rw [← hb.2]; congr 1; omega
      rw [e]
      clear hb e
      have h2' : (((i : Int) % 2) == 0) = false := by rw [beq_eq_false_iff_ne]; omega
      go_enter Tryz.func201, Tryz.ntmps201
      go_wp2
      go_ret
      exact ⟨rfl, rfl⟩

end Go.Proofs.YtfcfcgeodghmpaaGreatDoor

namespace Go.Proofs.YtfcfcgeodghmpaaGreatDoor
open Go.RowKit
set_option linter.unusedVariables false

structure Pr (w : World) (a : Option Addr) (la ca : Nat) (A : List (Int × Int)) (b : Option Addr) (lb cb : Nat) (B : List (Int × Int)) : Prop where
  ha : Rs w a la ca A
  hb : Rs w b lb cb B
  ma : G.mayB A = true
  mb : G.mayB B = true

theorem Pr.later {w w' : World} {a : Option Addr} {la ca : Nat} {A : List (Int × Int)} {b : Option Addr} {lb cb : Nat} {B : List (Int × Int)} (h : Pr w a la ca A b lb cb B) {k : Nat} (hb : Below k w w') (hk : w.heap.size ≤ k) : Pr w' a la ca A b lb cb B :=
  ⟨h.ha.later hb hk, h.hb.later hb hk, h.ma, h.mb⟩
theorem Pr.la {w : World} {a : Option Addr} {la ca : Nat} {A : List (Int × Int)} {b : Option Addr} {lb cb : Nat} {B : List (Int × Int)} (h : Pr w a la ca A b lb cb B) : la ≤ 1000000 := by
  have := h.ha.hlen; have := G.may_length h.ma; omega
theorem Pr.lb {w : World} {a : Option Addr} {la ca : Nat} {A : List (Int × Int)} {b : Option Addr} {lb cb : Nat} {B : List (Int × Int)} (h : Pr w a la ca A b lb cb B) : lb ≤ 1000000 := by
  have := h.hb.hlen; have := G.may_length h.mb; omega

abbrev boxPr (a : Option Addr) (la ca : Nat) (b : Option Addr) (lb cb : Nat) : Obj := .cells #[.slice a la ca, .slice b lb cb] 199

set_option maxHeartbeats 1000000 in
theorem less_any (a : Option Addr) (la ca : Nat) (A : List (Int × Int)) (b : Option Addr) (lb cb : Nat) (B : List (Int × Int)) (n : Int) (w : World) (h : Pr w a la ca A b lb cb B) :
    Calls Tryz.prog 154 #[.agg #[.slice a la ca, .slice b lb cb], .int .i64 n] w fun e w' => e = .returned (.bool ((fun x y => x && !y) (G.hasB A n) (G.hasB B n))) ∧ Below w.heap.size w w' := by
  have c1 := setHas_any a la ca A n _ (h.later (Below.new1 (boxPr a la ca b lb cb)) (Nat.le_refl _)).ha h.ma h.la
  have c2 := fun w1 (hb : Below w.heap.size w w1) => setHas_any b lb cb B n w1 (h.later hb (Nat.le_refl _)).hb h.mb h.lb
  generalize G.hasB A n = x at *
  generalize G.hasB B n = y at *
  clear h
  have C1 := hideR c1
  have C2 := hideR c2
  clear c1 c2
  cases x with
  | false =>
    go_enter Tryz.func154, Tryz.ntmps154
    go_wp2_with fail
    refine (unhideR C1).mono ?_
    rintro e w1 ⟨rfl, hb1⟩
    go_wp2_with fail
    go_ret
    refine ⟨ret_bool (by simp), ?_⟩
    simp only [World.size_alloc] at hb1
    exact (Below.new1 _).trans (hb1.mono (by omega))
  | true =>
    go_enter Tryz.func154, Tryz.ntmps154
    go_wp2_with fail
    refine (unhideR C1).mono ?_
    rintro e w1 ⟨rfl, hb1⟩
    have hb : Below w.heap.size w w1 := (Below.new1 _).trans (hb1.mono (by simp))
    obtain ⟨k1, k2⟩ : (w1.cell? ⟨w.heap.size, 0, none⟩ = some (.slice a la ca)) ∧ (w1.cell? ⟨w.heap.size, 1, none⟩ = some (.slice b lb cb)) :=
      ⟨by rw [hb1.cell (p := ⟨w.heap.size, 0, none⟩) (by simp)]; rw [World.cell?_alloc_at _ _ _ _ rfl]; rfl, by rw [hb1.cell (p := ⟨w.heap.size, 1, none⟩) (by simp)]; rw [World.cell?_alloc_at _ _ _ _ rfl]; rfl⟩
    go_wp2_with fail
    refine (unhideR C2 _ hb).mono ?_
    rintro e w2 ⟨rfl, hb2⟩
    go_wp2_with fail
    go_ret
    exact ⟨ret_bool (by simp), hb.trans (hb2.mono hb.size)⟩

end Go.Proofs.YtfcfcgeodghmpaaGreatDoor

