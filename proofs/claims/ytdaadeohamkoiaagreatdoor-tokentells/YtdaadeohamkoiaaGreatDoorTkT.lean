/- Contracts of package token: HEXes and literals, as text. -/
import Derived.Test.YtdaadeohamkoiaaGreatDoorTkR
import Derived.BigRegion
import Derived.Laws.BitsLemmas
import Derived.Test.YtdaadeohamkoiaaGreatDoorRgSame
namespace Go.Proofs.YtdaadeohamkoiaaGreatDoor.T
open Go.RowKit
set_option linter.unusedVariables false
set_option linter.unusedSimpArgs false

theorem and15 (n : Int) : bits .and .i64 n 15 = n % 16 := by
  have h15 : (BitVec.ofInt 64 15).toNat = 2 ^ 4 - 1 := by decide
  have key : (BitVec.ofInt 64 n &&& BitVec.ofInt 64 15).toNat = (n % ((2 ^ 64 : Nat) : Int)).toNat % 2 ^ 4 := by
    rw [BitVec.toNat_and, BitVec.toNat_ofInt, h15, Nat.and_two_pow_sub_one_eq_mod]
  show IntKind.i64.wrap ((BitVec.ofInt 64 n &&& BitVec.ofInt 64 15).toNat : Nat) = n % 16
  rw [key, IntKind.wrap_i64]
  omega
theorem st_digits : St ⟨#[48, 49, 50, 51, 52, 53, 54, 55, 56, 57, 97, 98, 99, 100, 101, 102]⟩ [48, 49, 50, 51, 52, 53, 54, 55, 56, 57, 97, 98, 99, 100, 101, 102] := ⟨rfl, by intro z hz; simp at hz; omega⟩
theorem dig_hex : ∀ k : Fin 16, ([48, 49, 50, 51, 52, 53, 54, 55, 56, 57, 97, 98, 99, 100, 101, 102] : List Int).getD k.val 0 = hexD (k.val : Int) := by decide
theorem ix_digit (z : Int) (h0 : 0 ≤ z) (h1 : z < 16) : ∀ W, (Instr.index 9 (.string ⟨#[48, 49, 50, 51, 52, 53, 54, 55, 56, 57, 97, 98, 99, 100, 101, 102]⟩) (.int .i64 z)).run Tryz.prog W = .ok (.int .u8 (hexD z)) W := by
  intro W
  obtain ⟨k, rfl⟩ := Int.eq_ofNat_of_zero_le h0
  have := st_digits.ix (k := k) (by simp; omega) W
  rw [dig_hex ⟨k, by omega⟩] at this
  exact this
theorem hexD_byte {z : Int} (h0 : 0 ≤ z) (h1 : z < 16) : 0 ≤ hexD z ∧ hexD z ≤ 255 := by
  unfold hexD
  split <;> omega
theorem conv2 (w : World) (x y : Int) (hx : 0 ≤ x ∧ x ≤ 255) (hy : 0 ≤ y ∧ y ≤ 255) : (convert 55 9 (.slice (some ⟨w.heap.size, 0, none⟩) 2 2)).run Tryz.prog (w.alloc (.cells #[.int .u8 x, .int .u8 y] 5)) = .ok (.string (strOfNums [x, y])) (w.alloc (.cells #[.int .u8 x, .int .u8 y] 5)) := by
  have hb : Bs (w.alloc (.cells #[.int .u8 x, .int .u8 y] 5)) (some ⟨w.heap.size, 0, none⟩) 2 2 [x, y] := by
    refine ⟨rfl, Nat.le_refl _, by decide, fun z hz => by simp at hz; rcases hz with rfl | rfl <;> omega, fun i hi => ⟨_, _, rfl, ?_⟩⟩
    have e := heap_alloc_new w (.cells #[.int .u8 x, .int .u8 y] 5)
    obtain ⟨q0, q1⟩ := cells2 e
    have : i = 0 ∨ i = 1 := by omega
    rcases this with rfl | rfl
    · exact q0
    · exact q1
  exact hb.str
/-- what hexText tells, of any number -/
def hexT (n : Int) : List Int := [hexD (n / 16 % 16), hexD (n % 16)]
theorem hexT_is {n : Int} (h0 : 0 ≤ n) (h1 : n ≤ 255) : hexT n = hex2 n := by
  unfold hexT hex2
  rw [show n / 16 % 16 = n / 16 by omega]
set_option maxRecDepth 20000 in
set_option maxHeartbeats 4000000 in
theorem hexText_l (n : Int) (h0 : -9223372036854775808 ≤ n) (h1 : n ≤ 9223372036854775807) (w : World) :
    Calls Tryz.prog 63 #[.int .i64 n] w fun e w' => e = .returned (.string (strOfNums (hexT n))) ∧ Below w.heap.size w w' := by
  have e1 := and15 n
  have e2 := and15 (n / 16)
  have i1 := ix_digit (n % 16) (by omega) (by omega)
  have i2 := ix_digit (n / 16 % 16) (by omega) (by omega)
  have b1 := hexD_byte (z := n % 16) (by omega) (by omega)
  have b2 := hexD_byte (z := n / 16 % 16) (by omega) (by omega)
  have cv : (convert 55 9 (.slice (some ⟨w.heap.size, 0, none⟩) 2 2)).run Tryz.prog (w.alloc (.cells #[.int .u8 (hexD (n / 16 % 16)), .int .u8 (hexD (n % 16))] 5)).drew = .ok (.string (strOfNums [hexD (n / 16 % 16), hexD (n % 16)])) (w.alloc (.cells #[.int .u8 (hexD (n / 16 % 16)), .int .u8 (hexD (n % 16))] 5)).drew := conv2 w.drew _ _ b2 b1
  unfold hexT
  generalize n % 16 = z1 at *
  generalize n / 16 % 16 = z2 at *
  generalize hexD z1 = y1 at *
  generalize hexD z2 = y2 at *
  generalize strOfNums [y2, y1] = S at *
  go_enter Tryz.func63, Tryz.ntmps63
  go_wp2_with fail
  go_region
  go_wp2_with fail
  go_ret
  exact ⟨rfl, new_drew' _⟩

/-! ### Literals -/
set_option maxRecDepth 20000 in
set_option maxHeartbeats 4000000 in
theorem litText_l (s : ByteArray) (l : List Int) (h : St s l) (hl : l.length ≤ 3000) (w : World) :
    Calls Tryz.prog 60 #[.string s] w fun e w' => e = .returned (.string (strOfNums (l.flatMap showP))) ∧ Below w.heap.size w w' := by
  have hsz := h.size
  have HS := hideR h
  have CS := hideR standsInLit_l
  have CH := hideR (fun z (h0 : 0 ≤ z) (h1 : z ≤ 255) W => hexText_l z (by omega) (by omega) W)
  have hsl : s.size ≤ 3000 := by omega
  have HZ := hideR hsz
  clear h hsz hl
  go_enter Tryz.func60, Tryz.ntmps60
  go_wp2_with fail
  go_loopw [8] (fun j wr => ∃ (k : Nat) (acc : List Int), k ≤ s.size ∧ j = .int .i64 (k : Int) ∧ Hid (acc = (l.take k).flatMap showP) ∧ Hid (U.isBytes acc) ∧ acc.length ≤ 4 * k ∧ Hid (Bd wr w.heap.size w.heap.size acc) ∧ Below w.heap.size w wr) (fun j _ => s.size - (intOf j).toNat)
  case atStart => exact ⟨0, [], Nat.zero_le _, rfl, (by show [] = _; simp), (fun z hz => by cases hz), by simp, Bd.new w, Below.new1 _⟩
  case round =>
    obtain ⟨k, acc, hk, rfl, ha, hab, hal, hB, hb⟩ := hrel
    by_cases hlt : k < s.size
    · have hkl : k < l.length := by rw [← unhideR HZ]; exact hlt
      have x0 := (unhideR HS).ix hkl
      obtain ⟨z0, z1⟩ := (unhideR HS).byte k
      have HA : Hid (acc ++ showP (l.getD k 0) = (l.take (k + 1)).flatMap showP) := by
        show _ = _
        rw [List.take_succ_eq_append_getElem hkl, List.flatMap_append, ← ha.out]
        simp [List.getD, hkl]
      have CS1 := hideR (unhideR CS (l.getD k 0) z0 z1)
      have CH1 := hideR (unhideR CH (l.getD k 0) z0 z1)
      generalize l.getD k 0 = z at *
      have hbs := hb.size
      cases hr : rawB z with
      | true =>
        have es : showP z = [z] := by unfold showP; rw [hr]; rfl
        rw [es] at HA
        rw [hr] at CS1
        have HAB : Hid (U.isBytes (acc ++ [z])) := bytes_app (unhideR hab) (bytes_cons z0 z1 (fun y hy => by cases hy))
        have CW := hideR (wbyte_l w.heap.size w.heap.size acc z z0 z1 wr (unhideR hB) (by omega) hbs)
        clear es hr CH1 ha hab hB CH CS HS
        go_wp2_with fail
        refine (unhideR CS1 _).mono ?_
        rintro e w1 ⟨rfl, hw1⟩
        obtain rfl : wr = w1 := hw1.symm
        clear hw1 CS1
        go_wp2_with fail
        refine (unhideR CW).mono ?_
        rintro e w2 ⟨rfl, BD, b2, -⟩
        clear CW
        go_wp2_with fail
        go_roundw
        case rel => exact ⟨k + 1, acc ++ [z], by omega, by go_num, HA, HAB, by simp; omega, BD, hb.trans b2⟩
        case measure => simp [intOf]; omega
      | false =>
        have es : showP z = [92, 120] ++ hexT z := by unfold showP; rw [hr, hexT_is z0 z1]; rfl
        rw [es] at HA
        rw [hr] at CS1
        have hhb : U.isBytes (hexT z) := by
          unfold hexT
          have q1 := hexD_byte (z := z % 16) (by omega) (by omega)
          have q2 := hexD_byte (z := z / 16 % 16) (by omega) (by omega)
          exact bytes_cons q2.1 q2.2 (bytes_cons q1.1 q1.2 (fun y hy => by cases hy))
        have SX := hideR (St.app st_bx (St.of hhb))
        have HAB : Hid (U.isBytes (acc ++ ([92, 120] ++ hexT z))) := bytes_app (unhideR hab) (unhideR SX).2
        have hhl : (hexT z).length = 2 := rfl
        have z2 : (strOfNums (hexT z)).size ≤ 100 := by rw [strOfNums_size]; omega
        have CW := hideR (fun W hB hBW => wstr_l w.heap.size w.heap.size acc _ _ (unhideR SX) W hB (by simp; omega) hBW)
        clear es hr ha hab CH CS HS hhb SX
        generalize hexT z = X at *
        go_wp2_with fail
        refine (unhideR CS1 _).mono ?_
        rintro e w1 ⟨rfl, hw1⟩
        obtain rfl : wr = w1 := hw1.symm
        clear hw1 CS1
        go_wp2_with fail
        refine (unhideR CH1 _).mono ?_
        rintro e w1 ⟨rfl, b1⟩
        clear CH1
        go_wp2_with fail
        refine (unhideR CW _ (Bd.later (unhideR hB) b1) (by have := b1.size; omega)).mono ?_
        rintro e w2 ⟨rfl, BD, b2, -⟩
        clear CW hB
        go_wp2_with fail
        go_roundw
        case rel => exact ⟨k + 1, acc ++ ([92, 120] ++ X), by omega, by go_num, HA, HAB, by simp; omega, BD, (hb.trans (b1.mono hbs)).trans b2⟩
        case measure => simp [intOf]; omega
    · obtain rfl : k = s.size := by omega
      have ha' := ha.out
      rw [List.take_of_length_le (by rw [← unhideR HZ]; omega)] at ha'
      have C := hideR (bstr_l w.heap.size w.heap.size acc wr (unhideR hB) hb.size)
      rw [ha'] at C
      clear ha ha' hB CH CS HS
      go_wp2_with fail
      refine (unhideR C).mono ?_
      rintro e w1 ⟨rfl, b1⟩
      clear C
      go_wp2_with fail
      go_ret
      exact ⟨rfl, hb.trans b1⟩
end Go.Proofs.YtdaadeohamkoiaaGreatDoor.T

/- Contracts of package token: written, and Same. -/
namespace Go.Proofs.YtdaadeohamkoiaaGreatDoor.T
open Go.RowKit
set_option linter.unusedVariables false
set_option linter.unusedSimpArgs false

/-- what written tells, each end of a class's items by sh -/
def wrL (sh : Int → List Int) (t : Tk) : List Int :=
  if t.1 = 0 ∨ t.1 = 4 then t.2.1 else if t.1 = 5 then [64] ++ t.2.1 else if t.1 = 1 then [34] ++ t.2.1.flatMap showP ++ [34]
  else if t.1 = 2 then [91] ++ t.2.2.flatMap (showR sh) ++ [93] else if t.1 = 3 then [60] ++ t.2.2.flatMap (showR hexT) ++ [62] else []
theorem st1 (c : Int) (h0 : 0 ≤ c) (h1 : c ≤ 255) : St (strOfNums [c]) [c] := St.of (bytes_cons h0 h1 (fun z hz => by cases hz))
theorem showP_bytes {z : Int} (h : 0 ≤ z ∧ z ≤ 255) : U.isBytes (showP z) ∧ (showP z).length ≤ 4 := by
  unfold showP hex2
  split
  · exact ⟨bytes_cons h.1 h.2 (fun y hy => by cases hy), by simp⟩
  · have q1 := hexD_byte (z := z % 16) (by omega) (by omega)
    have q2 := hexD_byte (z := z / 16) (by omega) (by omega)
    exact ⟨bytes_cons (by omega) (by omega) (bytes_cons (by omega) (by omega) (bytes_cons q2.1 q2.2 (bytes_cons q1.1 q1.2 (fun y hy => by cases hy)))), by simp⟩
theorem flat_bytes {α : Type} (f : α → List Int) (N : Nat) : ∀ (l : List α), (∀ x ∈ l, U.isBytes (f x) ∧ (f x).length ≤ N) → U.isBytes (l.flatMap f) ∧ (l.flatMap f).length ≤ N * l.length := by
  intro l
  induction l with
  | nil => intro _; exact ⟨(fun z hz => by cases hz), Nat.zero_le _⟩
  | cons x l ih =>
    intro h
    obtain ⟨h1, h2⟩ := h x (List.mem_cons_self ..)
    obtain ⟨h3, h4⟩ := ih fun y hy => h y (List.mem_cons_of_mem _ hy)
    rw [List.flatMap_cons]
    refine ⟨bytes_app h1 h3, ?_⟩
    rw [List.length_append, List.length_cons, Nat.mul_succ]
    omega
theorem hexT_bytes (n : Int) : U.isBytes (hexT n) ∧ (hexT n).length ≤ 100 := by
  unfold hexT
  have q1 := hexD_byte (z := n % 16) (by omega) (by omega)
  have q2 := hexD_byte (z := n / 16 % 16) (by omega) (by omega)
  exact ⟨bytes_cons q2.1 q2.2 (bytes_cons q1.1 q1.2 (fun y hy => by cases hy)), by simp⟩
theorem showR_len {sh : Int → List Int} {r : Int × Int} (h1 : (sh r.1).length ≤ 100) (h2 : (sh r.2).length ≤ 100) : (showR sh r).length ≤ 201 := by
  unfold showR
  split
  · rw [List.length_append, List.length_cons]; omega
  · omega
/-- what is asked of a token that comes in -/
structure TokA (w : World) (t : Tk) (a : Option Addr) (c : Nat) : Prop where
  hk : fits t.1
  hx : U.isBytes t.2.1
  hxl : t.2.1.length ≤ 3000
  hr : Rs w a t.2.2.length c t.2.2
  hrl : t.2.2.length ≤ 3000
def Enders (w : World) (sh : Int → List Int) (R : List (Int × Int)) : Prop := ∃ ok : Int → Prop, (∀ n, ok n → U.isBytes (sh n) ∧ (sh n).length ≤ 100) ∧ (∀ r ∈ R, ok r.1 ∧ ok r.2) ∧
  ∀ n, ok n → ∀ W, Below w.heap.size w W → Calls Tryz.prog 62 #[.int .i64 n] W fun e w' => e = .returned (.string (strOfNums (sh n))) ∧ Below W.heap.size W w'
theorem Enders.later {w w' : World} {sh : Int → List Int} {R : List (Int × Int)} (h : Enders w sh R) (b : Below w.heap.size w w') : Enders w' sh R := by
  obtain ⟨ok, h1, h2, h3⟩ := h
  exact ⟨ok, h1, h2, fun n hn W hW => h3 n hn W (b.trans (hW.mono b.size))⟩
theorem wr_bytes {w : World} {sh : Int → List Int} {t : Tk} (hx : U.isBytes t.2.1) (hxl : t.2.1.length ≤ 3000) (hrl : t.2.2.length ≤ 3000) (he : Enders w sh t.2.2) : U.isBytes (wrL sh t) ∧ (wrL sh t).length ≤ 1000000 := by
  obtain ⟨ok, h1, h2, -⟩ := he
  have one : ∀ c : Int, 0 ≤ c → c ≤ 255 → U.isBytes [c] := fun c a b => bytes_cons a b (fun z hz => by cases hz)
  have p1 := flat_bytes showP 4 t.2.1 (fun z hz => showP_bytes (hx z hz))
  have p2 := flat_bytes (showR sh) 201 t.2.2 (fun r hr => ⟨showR_bytes (h1 _ (h2 r hr).1).1 (h1 _ (h2 r hr).2).1, showR_len (h1 _ (h2 r hr).1).2 (h1 _ (h2 r hr).2).2⟩)
  have p3 := flat_bytes (showR hexT) 201 t.2.2 (fun r hr => ⟨showR_bytes (hexT_bytes _).1 (hexT_bytes _).1, showR_len (hexT_bytes _).2 (hexT_bytes _).2⟩)
  unfold wrL
  split
  · exact ⟨hx, by omega⟩
  · split
    · exact ⟨bytes_app (one 64 (by omega) (by omega)) hx, by simp; omega⟩
    · split
      · exact ⟨bytes_app (bytes_app (one 34 (by omega) (by omega)) p1.1) (one 34 (by omega) (by omega)), by rw [List.length_append, List.length_append]; simp only [List.length_cons, List.length_nil]; omega⟩
      · split
        · exact ⟨bytes_app (bytes_app (one 91 (by omega) (by omega)) p2.1) (one 93 (by omega) (by omega)), by rw [List.length_append, List.length_append]; simp only [List.length_cons, List.length_nil]; omega⟩
        · split
          · exact ⟨bytes_app (bytes_app (one 60 (by omega) (by omega)) p3.1) (one 62 (by omega) (by omega)), by rw [List.length_append, List.length_append]; simp only [List.length_cons, List.length_nil]; omega⟩
          · exact ⟨(fun z hz => by cases hz), by simp⟩
def tokAgg (t : Tk) (a : Option Addr) (c : Nat) (p : Int) : Array Value := #[.int .i64 t.1, .string (strOfNums t.2.1), .slice a t.2.2.length c, .int .i64 p]
set_option maxRecDepth 20000 in
set_option maxHeartbeats 8000000 in
theorem written_l (sh : Int → List Int) (t : Tk) (a : Option Addr) (c : Nat) (p : Int) (w : World) (h : TokA w t a c) (he : Enders w sh t.2.2) :
    Calls Tryz.prog 32 #[.agg (tokAgg t a c p)] w fun e w' => e = .returned (.string (strOfNums (wrL sh t))) ∧ Below w.heap.size w w' := by
  obtain ⟨k, x, R⟩ := t
  unfold tokAgg wrL
  have hk := h.hk
  have hx := h.hx
  have hxl := h.hxl
  have hr := h.hr
  have hrl := h.hrl
  simp only at hk hx hxl hr hrl he ⊢
  clear h
  unfold fits at hk
  have sx : St (strOfNums x) x := St.of hx
  have zx : (strOfNums x).size ≤ 3000 := by rw [strOfNums_size]; exact hxl
  obtain ⟨ok, h1, h2, h3⟩ := he
  have one : ∀ d : Int, 0 ≤ d → d ≤ 255 → St (strOfNums [d]) [d] := st1
  by_cases c0 : k = 0
  · subst c0
    rw [if_pos (.inl rfl)]
    generalize strOfNums x = S at *
    clear h3 hr sx
    go_enter Tryz.func32, Tryz.ntmps32
    go_wp2_with fail
    go_ret
    exact ⟨rfl, Below.new1 _⟩
  have d0 : (k == 0) = false := beq_eq_false_iff_ne.2 c0
  by_cases c4 : k = 4
  · subst c4
    rw [if_pos (.inr rfl)]
    generalize strOfNums x = S at *
    clear h3 hr sx
    go_enter Tryz.func32, Tryz.ntmps32
    go_wp2_with fail
    go_ret
    exact ⟨rfl, Below.new1 _⟩
  have d4 : (k == 4) = false := beq_eq_false_iff_ne.2 c4
  rw [if_neg (by omega)]
  by_cases c5 : k = 5
  · subst c5
    rw [if_pos rfl, ← (St.app (st1 64 (by omega) (by omega)) sx).1]
    have e64 : strOfNums [64] = ⟨#[64]⟩ := rfl
    rw [e64]
    generalize strOfNums x = S at *
    clear h3 hr sx e64
    go_enter Tryz.func32, Tryz.ntmps32
    go_wp2_with fail
    go_ret
    exact ⟨rfl, Below.new1 _⟩
  have d5 : (k == 5) = false := beq_eq_false_iff_ne.2 c5
  rw [if_neg c5]
  by_cases c1 : k = 1
  · subst c1
    have p1 := flat_bytes showP 4 x (fun z hz => showP_bytes (hx z hz))
    have C := hideR (fun W => litText_l _ x sx hxl W)
    have zl : (strOfNums (x.flatMap showP)).size ≤ 12000 := by rw [strOfNums_size]; omega
    rw [if_pos rfl, ← (St.app (St.app (st1 34 (by omega) (by omega)) (St.of p1.1)) (st1 34 (by omega) (by omega))).1]
    have e34 : strOfNums [34] = ⟨#[34]⟩ := rfl
    rw [e34]
    clear h3 hr sx e34 p1
    generalize strOfNums (x.flatMap showP) = L at *
    generalize strOfNums x = S at *
    go_enter Tryz.func32, Tryz.ntmps32
    go_wp2_with fail
    refine (unhideR C _).mono ?_
    rintro e w1 ⟨rfl, b1⟩
    clear C
    go_wp2_with fail
    go_ret
    exact ⟨rfl, bthen (Below.new1 _) b1⟩
  have d1 : (k == 1) = false := beq_eq_false_iff_ne.2 c1
  rw [if_neg c1]
  by_cases c2 : k = 2
  · subst c2
    have p2 := flat_bytes (showR sh) 201 R (fun r hr => ⟨showR_bytes (h1 _ (h2 r hr).1).1 (h1 _ (h2 r hr).2).1, showR_len (h1 _ (h2 r hr).1).2 (h1 _ (h2 r hr).2).2⟩)
    have C := hideR (fun (o : Obj) => itemsT_S sh ok h1 (w.alloc o) (fun n hn W hW => h3 n hn W ((Below.new1 o).trans (hW.mono (by simp)))) a R.length c R (Rs.later hr (Below.new1 o) (Nat.le_refl _)) hrl h2)
    have zl : (strOfNums (R.flatMap (showR sh))).size ≤ 603000 := by rw [strOfNums_size]; omega
    rw [if_pos rfl, ← (St.app (St.app (st1 91 (by omega) (by omega)) (St.of p2.1)) (st1 93 (by omega) (by omega))).1]
    have e34 : strOfNums [91] = ⟨#[91]⟩ := rfl
    have e35 : strOfNums [93] = ⟨#[93]⟩ := rfl
    rw [e34, e35]
    clear h3 hr sx e34 e35 p2
    generalize strOfNums (R.flatMap (showR sh)) = L at *
    generalize strOfNums x = S at *
    go_enter Tryz.func32, Tryz.ntmps32
    go_wp2_with fail
    refine (unhideR C _).mono ?_
    rintro e w1 ⟨rfl, b1⟩
    clear C
    go_wp2_with fail
    go_ret
    exact ⟨rfl, bthen (Below.new1 _) b1⟩
  have d2 : (k == 2) = false := beq_eq_false_iff_ne.2 c2
  rw [if_neg c2]
  by_cases c3 : k = 3
  · subst c3
    have p2 := flat_bytes (showR hexT) 201 R (fun r hr => ⟨showR_bytes (hexT_bytes _).1 (hexT_bytes _).1, showR_len (hexT_bytes _).2 (hexT_bytes _).2⟩)
    have hf := hr.hfit
    have C := hideR (fun (o : Obj) => itemsT_H hexT fits (fun n _ => hexT_bytes n) (w.alloc o) (fun n hn W hW => hexText_l n hn.1 hn.2 W) a R.length c R (Rs.later hr (Below.new1 o) (Nat.le_refl _)) hrl hf)
    have zl : (strOfNums (R.flatMap (showR hexT))).size ≤ 603000 := by rw [strOfNums_size]; omega
    rw [if_pos rfl, ← (St.app (St.app (st1 60 (by omega) (by omega)) (St.of p2.1)) (st1 62 (by omega) (by omega))).1]
    have e34 : strOfNums [60] = ⟨#[60]⟩ := rfl
    have e35 : strOfNums [62] = ⟨#[62]⟩ := rfl
    rw [e34, e35]
    clear h3 hr sx e34 e35 p2 hf
    generalize strOfNums (R.flatMap (showR hexT)) = L at *
    generalize strOfNums x = S at *
    go_enter Tryz.func32, Tryz.ntmps32
    go_wp2_with fail
    refine (unhideR C _).mono ?_
    rintro e w1 ⟨rfl, b1⟩
    clear C
    go_wp2_with fail
    go_ret
    exact ⟨rfl, bthen (Below.new1 _) b1⟩
  have d3 : (k == 3) = false := beq_eq_false_iff_ne.2 c3
  rw [if_neg c3]
  generalize strOfNums x = S at *
  clear h3 hr sx
  go_enter Tryz.func32, Tryz.ntmps32
  go_wp2_with fail
  go_ret
  exact ⟨rfl, Below.new1 _⟩

/-! ### Same -/
theorem str_eq_list {s u : ByteArray} {x y : List Int} (h : St s x) (k : St u y) : (s.toList == u.toList) = decide (x = y) := by
  have key : s.toList = u.toList ↔ x = y := by
    have h2 := st_list h y k.2
    have h3 := (st_list k y k.2).2 rfl
    rw [h3]
    exact h2
  by_cases e : x = y
  · rw [decide_eq_true e, beq_iff_eq]; exact key.2 e
  · rw [decide_eq_false e, beq_eq_false_iff_ne]; exact fun c => e (key.1 c)
set_option maxRecDepth 20000 in
set_option maxHeartbeats 8000000 in
theorem same_l (t u : Tk) (a b : Option Addr) (c d : Nat) (p q : Int) (w : World) (hk : fits t.1) (hx : U.isBytes t.2.1) (hr : Rs w a t.2.2.length c t.2.2) (hk2 : fits u.1) (hx2 : U.isBytes u.2.1) (hr2 : Rs w b u.2.2.length d u.2.2) :
    Calls Tryz.prog 16 #[.agg (tokAgg t a c p), .agg (tokAgg u b d q)] w fun e w' => e = .returned (.bool (decide (t = u))) ∧ Below w.heap.size w w' := by
  obtain ⟨k, x, R⟩ := t
  obtain ⟨k2, x2, R2⟩ := u
  unfold tokAgg
  simp only at *
  have se := str_eq_list (St.of hx) (St.of hx2)
  have B2 : ∀ o1 o2, Below w.heap.size w ((w.alloc o1).alloc o2) := fun o1 o2 => (Below.new1 o1).alloc (by simp) o2
  have C := hideR (fun o1 o2 => rgSame_any a R.length c R b R2.length d R2 ((w.alloc o1).alloc o2) (Rs.later hr (B2 o1 o2) (Nat.le_refl _)) (Rs.later hr2 (B2 o1 o2) (Nat.le_refl _)))
  have hs : sameB R R2 = decide (R = R2) := rfl
  rw [hs] at C
  clear hr hr2 hx hx2 hs
  by_cases e1 : k = k2
  · have t1 : (k == k2) = true := by rw [e1]; simp
    by_cases e2 : x = x2
    · rw [decide_eq_true e2] at se
      have fin : decide ((k, x, R) = (k2, x2, R2)) = decide (R = R2) := by simp [e1, e2]
      rw [fin]
      generalize decide (R = R2) = r at *
      generalize strOfNums x = S at *
      generalize strOfNums x2 = S2 at *
      clear fin e2
      go_enter Tryz.func16, Tryz.ntmps16
      go_wp2_with fail
      refine (unhideR C _ _).mono ?_
      rintro e w1 ⟨rfl, b1⟩
      clear C
      go_wp2_with fail
      go_ret
      exact ⟨rfl, (B2 _ _).trans (b1.mono (by simp; omega))⟩
    · rw [decide_eq_false e2] at se
      have fin : decide ((k, x, R) = (k2, x2, R2)) = false := by simp [e2]
      rw [fin]
      generalize strOfNums x = S at *
      generalize strOfNums x2 = S2 at *
      have se2 : ¬ S.toList = S2.toList := beq_eq_false_iff_ne.1 se
      clear fin e2
      go_enter Tryz.func16, Tryz.ntmps16
      go_wp2_with fail
      go_ret
      exact ⟨retB (by first | rfl | exact se | simp [se2] | simp [se]), B2 _ _⟩
  · have t1 : (k == k2) = false := beq_eq_false_iff_ne.2 e1
    have fin : decide ((k, x, R) = (k2, x2, R2)) = false := by simp [e1]
    rw [fin]
    generalize strOfNums x = S at *
    generalize strOfNums x2 = S2 at *
    clear fin e1 se
    go_enter Tryz.func16, Tryz.ntmps16
    go_wp2_with fail
    go_ret
    exact ⟨retB (by first | rfl | exact t1 | simp [t1]), B2 _ _⟩
end Go.Proofs.YtdaadeohamkoiaaGreatDoor.T
