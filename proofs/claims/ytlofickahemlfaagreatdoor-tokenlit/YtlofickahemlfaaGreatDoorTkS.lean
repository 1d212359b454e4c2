/- Contracts of package token: HEXes and literals, as text. -/
import Derived.Test.YtlofickahemlfaaGreatDoorTkR
import Derived.BigRegion
import Derived.Laws.BitsLemmas
namespace Go.Proofs.YtlofickahemlfaaGreatDoor.T
open Go.RowKit
set_option linter.unusedVariables false
set_option linter.unusedSimpArgs false

theorem and15 (n : Int) : bits .and .i64 n 15 = n % 16 := by
  have h15 : (BitVec.ofInt 64 15).toNat = 2 ^ 4 - 1 := by decide
  have key : (BitVec.ofInt 64 n &&& BitVec.ofInt 64 15).toNat = (n % ((2 ^ 64 : Nat) : Int)).toNat % 2 ^ 4 := by
    rw [BitVec.toNat_and, BitVec.toNat_ofInt, h15, Nat.and_two_pow_sub_one_eq_mod]
  show IntKind.i64.wrap ((BitVec.ofInt 64 n &&& BitVec.ofInt 64 15).toNat : Nat) = n % 16
  rw [key, IntKind.wrap_i64]
  omega
theorem st_digits : St ⟨#[48, 49, 50, 51, 52, 53, 54, 55, 56, 57, 97, 98, 99, 100, 101, 102]⟩ [48, 49, 50, 51, 52, 53, 54, 55, 56, 57, 97, 98, 99, 100, 101, 102] := ⟨rfl, by intro z hz; simp at hz; omega⟩
theorem dig_hex : ∀ k : Fin 16, ([48, 49, 50, 51, 52, 53, 54, 55, 56, 57, 97, 98, 99, 100, 101, 102] : List Int).getD k.val 0 = hexD (k.val : Int) := by decide
theorem ix_digit (z : Int) (h0 : 0 ≤ z) (h1 : z < 16) : ∀ W, (Instr.index 9 (.string ⟨#[48, 49, 50, 51, 52, 53, 54, 55, 56, 57, 97, 98, 99, 100, 101, 102]⟩) (.int .i64 z)).run Tryz.prog W = .ok (.int .u8 (hexD z)) W := by
  intro W
  obtain ⟨k, rfl⟩ := Int.eq_ofNat_of_zero_le h0
  have := st_digits.ix (k := k) (by simp; omega) W
  rw [dig_hex ⟨k, by omega⟩] at this
  exact this
theorem hexD_byte {z : Int} (h0 : 0 ≤ z) (h1 : z < 16) : 0 ≤ hexD z ∧ hexD z ≤ 255 := by
  unfold hexD
  split <;> omega
theorem conv2 (w : World) (x y : Int) (hx : 0 ≤ x ∧ x ≤ 255) (hy : 0 ≤ y ∧ y ≤ 255) : (convert 43 9 (.slice (some ⟨w.heap.size, 0, none⟩) 2 2)).run Tryz.prog (w.alloc (.cells #[.int .u8 x, .int .u8 y] 5)) = .ok (.string (strOfNums [x, y])) (w.alloc (.cells #[.int .u8 x, .int .u8 y] 5)) := by
  have hb : Bs (w.alloc (.cells #[.int .u8 x, .int .u8 y] 5)) (some ⟨w.heap.size, 0, none⟩) 2 2 [x, y] := by
    refine ⟨rfl, Nat.le_refl _, by decide, fun z hz => by simp at hz; rcases hz with rfl | rfl <;> omega, fun i hi => ⟨_, _, rfl, ?_⟩⟩
    have e := heap_alloc_new w (.cells #[.int .u8 x, .int .u8 y] 5)
    obtain ⟨q0, q1⟩ := cells2 e
    have : i = 0 ∨ i = 1 := by omega
    rcases this with rfl | rfl
    · exact q0
    · exact q1
  exact hb.str
/-- what hexText tells, of any number -/
def hexT (n : Int) : List Int := [hexD (n / 16 % 16), hexD (n % 16)]
theorem hexT_is {n : Int} (h0 : 0 ≤ n) (h1 : n ≤ 255) : hexT n = hex2 n := by
  unfold hexT hex2
  rw [show n / 16 % 16 = n / 16 by omega]
set_option maxRecDepth 20000 in
set_option maxHeartbeats 4000000 in
theorem hexText_l (n : Int) (h0 : -9223372036854775808 ≤ n) (h1 : n ≤ 9223372036854775807) (w : World) :
    Calls Tryz.prog 55 #[.int .i64 n] w fun e w' => e = .returned (.string (strOfNums (hexT n))) ∧ Below w.heap.size w w' := by
  have e1 := and15 n
  have e2 := and15 (n / 16)
  have i1 := ix_digit (n % 16) (by omega) (by omega)
  have i2 := ix_digit (n / 16 % 16) (by omega) (by omega)
  have b1 := hexD_byte (z := n % 16) (by omega) (by omega)
  have b2 := hexD_byte (z := n / 16 % 16) (by omega) (by omega)
  have cv : (convert 43 9 (.slice (some ⟨w.heap.size, 0, none⟩) 2 2)).run Tryz.prog (w.alloc (.cells #[.int .u8 (hexD (n / 16 % 16)), .int .u8 (hexD (n % 16))] 5)).drew = .ok (.string (strOfNums [hexD (n / 16 % 16), hexD (n % 16)])) (w.alloc (.cells #[.int .u8 (hexD (n / 16 % 16)), .int .u8 (hexD (n % 16))] 5)).drew := conv2 w.drew _ _ b2 b1
  unfold hexT
  generalize n % 16 = z1 at *
  generalize n / 16 % 16 = z2 at *
  generalize hexD z1 = y1 at *
  generalize hexD z2 = y2 at *
  generalize strOfNums [y2, y1] = S at *
  go_enter Tryz.func55, Tryz.ntmps55
  go_wp2_with fail
  go_region
  go_wp2_with fail
  go_ret
  exact ⟨rfl, new_drew' _⟩

/-! ### Literals -/
set_option maxRecDepth 20000 in
set_option maxHeartbeats 4000000 in
theorem litText_l (s : ByteArray) (l : List Int) (h : St s l) (hl : l.length ≤ 3000) (w : World) :
    Calls Tryz.prog 52 #[.string s] w fun e w' => e = .returned (.string (strOfNums (l.flatMap showP))) ∧ Below w.heap.size w w' := by
  have hsz := h.size
  have HS := hideR h
  have CS := hideR standsInLit_l
  have CH := hideR (fun z (h0 : 0 ≤ z) (h1 : z ≤ 255) W => hexText_l z (by omega) (by omega) W)
  have hsl : s.size ≤ 3000 := by omega
  have HZ := hideR hsz
  clear h hsz hl
  go_enter Tryz.func52, Tryz.ntmps52
  go_wp2_with fail
  go_loopw [8] (fun j wr => ∃ (k : Nat) (acc : List Int), k ≤ s.size ∧ j = .int .i64 (k : Int) ∧ Hid (acc = (l.take k).flatMap showP) ∧ Hid (U.isBytes acc) ∧ acc.length ≤ 4 * k ∧ Hid (Bd wr w.heap.size w.heap.size acc) ∧ Below w.heap.size w wr) (fun j _ => s.size - (intOf j).toNat)
  case atStart => exact ⟨0, [], Nat.zero_le _, rfl, (by show [] = _; simp), (fun z hz => by cases hz), by simp, Bd.new w, Below.new1 _⟩
  case round =>
    obtain ⟨k, acc, hk, rfl, ha, hab, hal, hB, hb⟩ := hrel
    by_cases hlt : k < s.size
    · have hkl : k < l.length := by rw [← unhideR HZ]; exact hlt
      have x0 := (unhideR HS).ix hkl
      obtain ⟨z0, z1⟩ := (unhideR HS).byte k
      have HA : Hid (acc ++ showP (l.getD k 0) = (l.take (k + 1)).flatMap showP) := by
        show _ = _
        rw [List.take_succ_eq_append_getElem hkl, List.flatMap_append, ← ha.out]
        simp [List.getD, hkl]
      have CS1 := hideR (unhideR CS (l.getD k 0) z0 z1)
      have CH1 := hideR (unhideR CH (l.getD k 0) z0 z1)
      generalize l.getD k 0 = z at *
      have hbs := hb.size
      cases hr : rawB z with
      | true =>
        have es : showP z = [z] := by unfold showP; rw [hr]; rfl
        rw [es] at HA
        rw [hr] at CS1
        have HAB : Hid (U.isBytes (acc ++ [z])) := bytes_app (unhideR hab) (bytes_cons z0 z1 (fun y hy => by cases hy))
        have CW := hideR (wbyte_l w.heap.size w.heap.size acc z z0 z1 wr (unhideR hB) (by omega) hbs)
        clear es hr CH1 ha hab hB CH CS HS
        go_wp2_with fail
        refine (unhideR CS1 _).mono ?_
        rintro e w1 ⟨rfl, hw1⟩
        obtain rfl : wr = w1 := hw1.symm
        clear hw1 CS1
        go_wp2_with fail
        refine (unhideR CW).mono ?_
        rintro e w2 ⟨rfl, BD, b2, -⟩
        clear CW
        go_wp2_with fail
        go_roundw
        case rel => exact ⟨k + 1, acc ++ [z], by omega, by go_num, HA, HAB, by simp; omega, BD, hb.trans b2⟩
        case measure => simp [intOf]; omega
      | false =>
        have es : showP z = [92, 120] ++ hexT z := by unfold showP; rw [hr, hexT_is z0 z1]; rfl
        rw [es] at HA
        rw [hr] at CS1
        have hhb : U.isBytes (hexT z) := by
          unfold hexT
          have q1 := hexD_byte (z := z % 16) (by omega) (by omega)
          have q2 := hexD_byte (z := z / 16 % 16) (by omega) (by omega)
          exact bytes_cons q2.1 q2.2 (bytes_cons q1.1 q1.2 (fun y hy => by cases hy))
        have SX := hideR (St.app st_bx (St.of hhb))
        have HAB : Hid (U.isBytes (acc ++ ([92, 120] ++ hexT z))) := bytes_app (unhideR hab) (unhideR SX).2
        have hhl : (hexT z).length = 2 := rfl
        have z2 : (strOfNums (hexT z)).size ≤ 100 := by rw [strOfNums_size]; omega
        have CW := hideR (fun W hB hBW => wstr_l w.heap.size w.heap.size acc _ _ (unhideR SX) W hB (by simp; omega) hBW)
        clear es hr ha hab CH CS HS hhb SX
        generalize hexT z = X at *
        go_wp2_with fail
        refine (unhideR CS1 _).mono ?_
        rintro e w1 ⟨rfl, hw1⟩
        obtain rfl : wr = w1 := hw1.symm
        clear hw1 CS1
        go_wp2_with fail
        refine (unhideR CH1 _).mono ?_
        rintro e w1 ⟨rfl, b1⟩
        clear CH1
        go_wp2_with fail
        refine (unhideR CW _ (Bd.later (unhideR hB) b1) (by have := b1.size; omega)).mono ?_
        rintro e w2 ⟨rfl, BD, b2, -⟩
        clear CW hB
        go_wp2_with fail
        go_roundw
        case rel => exact ⟨k + 1, acc ++ ([92, 120] ++ X), by omega, by go_num, HA, HAB, by simp; omega, BD, (hb.trans (b1.mono hbs)).trans b2⟩
        case measure => simp [intOf]; omega
    · obtain rfl : k = s.size := by omega
      have ha' := ha.out
      rw [List.take_of_length_le (by rw [← unhideR HZ]; omega)] at ha'
      have C := hideR (bstr_l w.heap.size w.heap.size acc wr (unhideR hB) hb.size)
      rw [ha'] at C
      clear ha ha' hB CH CS HS
      go_wp2_with fail
      refine (unhideR C).mono ?_
      rintro e w1 ⟨rfl, b1⟩
      clear C
      go_wp2_with fail
      go_ret
      exact ⟨rfl, hb.trans b1⟩
end Go.Proofs.YtlofickahemlfaaGreatDoor.T
