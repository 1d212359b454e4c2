/- Contracts of package token: letters, digits, names, marks, what stands for itself. -/
import Derived.Test.YtdaadeohamkoiaaGreatDoorTkSt
import Derived.Test.YtdaadeohamkoiaaGreatDoorTkLay
import Derived.Test.YtdaadeohamkoiaaGreatDoorTkBack
import Derived.Test.YtdaadeohamkoiaaGreatDoorUtfAwake
namespace Go.Proofs.YtdaadeohamkoiaaGreatDoor.T
open Go.RowKit
set_option linter.unusedVariables false
set_option linter.unusedSimpArgs false

theorem retB {a b : Bool} (h : a = b) : Ending.returned (.bool a) = .returned (.bool b) := by rw [h]
theorem dig_ix : ∀ n : Fin 256, Lib.indexByte [48, 49, 50, 51, 52, 53, 54, 55, 56, 57, 97, 98, 99, 100, 101, 102] (n.val : Int).toNat.toUInt8 = valI (n.val : Int) := by decide +kernel
theorem dig_ix' {z : Int} (h0 : 0 ≤ z) (h1 : z ≤ 255) : Lib.indexByte [48, 49, 50, 51, 52, 53, 54, 55, 56, 57, 97, 98, 99, 100, 101, 102] z.toNat.toUInt8 = valI z := by
  have := dig_ix ⟨z.toNat, by omega⟩
  simp only [Int.toNat_of_nonneg h0] at this
  exact this
set_option maxHeartbeats 400000 in
theorem digit_l (z : Int) (h0 : 0 ≤ z) (h1 : z ≤ 255) (w : World) :
    Calls Tryz.prog 160 #[.int .u8 z] w fun e w' => e = .returned (.int .i64 (valI z)) ∧ w' = w := by
  have C : Calls Tryz.prog 191 #[.string ⟨#[48, 49, 50, 51, 52, 53, 54, 55, 56, 57, 97, 98, 99, 100, 101, 102]⟩, .int .u8 z] w fun e w' => e = .returned (.int .i64 (valI z)) ∧ w' = w := by
    have := Any.strings_IndexByte ixByte_lays ⟨#[48, 49, 50, 51, 52, 53, 54, 55, 56, 57, 97, 98, 99, 100, 101, 102]⟩ z w
    rw [← dig_ix' h0 h1]
    exact this
  have CH := hideR C
  clear C
  generalize valI z = v at *
  go_enter Tryz.func160, Tryz.ntmps160
  go_wp2_with fail
  refine (unhideR CH).mono ?_
  rintro e w1 ⟨rfl, hw1⟩
  obtain rfl : w = w1 := hw1.symm
  go_wp2_with fail
  go_ret
  exact ⟨rfl, rfl⟩
set_option maxHeartbeats 400000 in
theorem isLetter_l (z : Int) (h0 : 0 ≤ z) (h1 : z ≤ 255) (w : World) :
    Calls Tryz.prog 122 #[.int .u8 z] w fun e w' => e = .returned (.bool (isLet z)) ∧ w' = w := by
  by_cases c1 : 97 ≤ z
  · by_cases c2 : z ≤ 122
    · have e : isLet z = true := by simp [isLet, c1, c2]
      rw [e]
      go_enter Tryz.func122, Tryz.ntmps122
      go_wp2
      go_ret
      exact ⟨rfl, rfl⟩
    · have e : isLet z = false := by simp [isLet, c2]
      have c2' : 122 < z := by omega
      rw [e]
      go_enter Tryz.func122, Tryz.ntmps122
      go_wp2
      go_ret
      exact ⟨rfl, rfl⟩
  · have e : isLet z = false := by simp [isLet, c1]
    have c1' : z < 97 := by omega
    rw [e]
    go_enter Tryz.func122, Tryz.ntmps122
    go_wp2
    go_ret
    exact ⟨rfl, rfl⟩
def seenB (z : Int) : Bool := decide (32 ≤ z) && decide (z ≤ 126)
set_option maxHeartbeats 400000 in
theorem isSeen_l (z : Int) (h0 : -9223372036854775808 ≤ z) (h1 : z ≤ 9223372036854775807) (w : World) :
    Calls Tryz.prog 97 #[.int .i64 z] w fun e w' => e = .returned (.bool (seenB z)) ∧ w' = w := by
  by_cases c1 : 32 ≤ z
  · by_cases c2 : z ≤ 126
    · have e : seenB z = true := by simp [seenB, c1, c2]
      rw [e]
      go_enter Tryz.func97, Tryz.ntmps97
      go_wp2
      go_ret
      exact ⟨rfl, rfl⟩
    · have e : seenB z = false := by simp [seenB, c2]
      have c2' : 126 < z := by omega
      rw [e]
      go_enter Tryz.func97, Tryz.ntmps97
      go_wp2
      go_ret
      exact ⟨rfl, rfl⟩
  · have e : seenB z = false := by simp [seenB, c1]
    have c1' : z < 32 := by omega
    rw [e]
    go_enter Tryz.func97, Tryz.ntmps97
    go_wp2
    go_ret
    exact ⟨rfl, rfl⟩
set_option maxHeartbeats 400000 in
theorem isNameByte_l (z : Int) (h0 : 0 ≤ z) (h1 : z ≤ 255) (w : World) :
    Calls Tryz.prog 123 #[.int .u8 z] w fun e w' => e = .returned (.bool (isW z)) ∧ w' = w := by
  have CL := hideR (isLetter_l z h0 h1)
  cases hL : isLet z with
  | true =>
    have e : isW z = true := by simp [isW, hL]
    rw [e]
    rw [hL] at CL
    clear hL e
    go_enter Tryz.func123, Tryz.ntmps123
    go_wp2_with fail
    refine (unhideR CL _).mono ?_
    rintro e w1 ⟨rfl, hw1⟩
    obtain rfl : w = w1 := hw1.symm
    go_wp2_with fail
    go_ret
    exact ⟨retB (by first | rfl | (simp; omega) | (simp; done)), rfl⟩
  | false =>
    rw [hL] at CL
    by_cases c1 : 48 ≤ z
    · by_cases c2 : z ≤ 57
      · have e : isW z = true := by simp [isW, isDig, c1, c2]
        rw [e]
        clear hL e
        go_enter Tryz.func123, Tryz.ntmps123
        go_wp2_with fail
        refine (unhideR CL _).mono ?_
        rintro e w1 ⟨rfl, hw1⟩
        obtain rfl : w = w1 := hw1.symm
        go_wp2_with fail
        go_ret
        exact ⟨retB (by first | rfl | (simp; omega) | (simp; done)), rfl⟩
      · have c2' : 57 < z := by omega
        by_cases c3 : z = 95
        · have e : isW z = true := by simp [isW, c3]
          rw [e]
          clear hL e
          subst c3
          go_enter Tryz.func123, Tryz.ntmps123
          go_wp2_with fail
          refine (unhideR CL _).mono ?_
          rintro e w1 ⟨rfl, hw1⟩
          obtain rfl : w = w1 := hw1.symm
          go_wp2_with fail
          go_ret
          exact ⟨retB (by first | rfl | (simp; omega) | (simp; done)), rfl⟩
        · have e : isW z = false := by simp [isW, hL, isDig, c2, c3]
          have c3' : (z == 95) = false := beq_eq_false_iff_ne.2 c3
          rw [e]
          clear hL e
          go_enter Tryz.func123, Tryz.ntmps123
          go_wp2_with fail
          refine (unhideR CL _).mono ?_
          rintro e w1 ⟨rfl, hw1⟩
          obtain rfl : w = w1 := hw1.symm
          go_wp2_with fail
          go_ret
          exact ⟨retB (by first | rfl | (simp; omega) | (simp; done)), rfl⟩
    · have c1' : z < 48 := by omega
      have c3' : (z == 95) = false := beq_eq_false_iff_ne.2 (by omega)
      have e : isW z = false := by simp [isW, hL, isDig, c1]; omega
      rw [e]
      clear hL e
      go_enter Tryz.func123, Tryz.ntmps123
      go_wp2_with fail
      refine (unhideR CL _).mono ?_
      rintro e w1 ⟨rfl, hw1⟩
      obtain rfl : w = w1 := hw1.symm
      go_wp2_with fail
      go_ret
      exact ⟨retB (by first | rfl | (simp; omega) | (simp; done)), rfl⟩
set_option maxHeartbeats 400000 in
theorem standsInLit_l (z : Int) (h0 : 0 ≤ z) (h1 : z ≤ 255) (w : World) :
    Calls Tryz.prog 94 #[.int .u8 z] w fun e w' => e = .returned (.bool (rawB z)) ∧ w' = w := by
  have CL := hideR (isSeen_l z (by omega) (by omega))
  cases hL : seenB z with
  | true =>
    rw [hL] at CL
    have hb : 32 ≤ z ∧ z ≤ 126 := by simpa [seenB] using hL
    by_cases c1 : z = 34
    · have e : rawB z = false := by simp [rawB, c1]
      rw [e]
      clear hL e hb
      subst c1
      go_enter Tryz.func94, Tryz.ntmps94
      go_wp2_with fail
      refine (unhideR CL _).mono ?_
      rintro e w1 ⟨rfl, hw1⟩
      obtain rfl : w = w1 := hw1.symm
      go_wp2_with fail
      go_ret
      exact ⟨retB (by first | rfl | (simp; omega) | (simp; done)), rfl⟩
    · have c1' : (z == 34) = false := beq_eq_false_iff_ne.2 c1
      by_cases c2 : z = 92
      · have e : rawB z = false := by simp [rawB, c2]
        rw [e]
        clear hL e hb
        subst c2
        go_enter Tryz.func94, Tryz.ntmps94
        go_wp2_with fail
        refine (unhideR CL _).mono ?_
        rintro e w1 ⟨rfl, hw1⟩
        obtain rfl : w = w1 := hw1.symm
        go_wp2_with fail
        go_ret
        exact ⟨retB (by first | rfl | (simp; omega) | (simp; done)), rfl⟩
      · have c2' : (z == 92) = false := beq_eq_false_iff_ne.2 c2
        have e : rawB z = true := by simp [rawB]; omega
        rw [e]
        clear hL e hb
        go_enter Tryz.func94, Tryz.ntmps94
        go_wp2_with fail
        refine (unhideR CL _).mono ?_
        rintro e w1 ⟨rfl, hw1⟩
        obtain rfl : w = w1 := hw1.symm
        go_wp2_with fail
        go_ret
        exact ⟨retB (by first | rfl | (simp; omega) | (simp; done)), rfl⟩
  | false =>
    rw [hL] at CL
    have e : rawB z = false := by
      simp [seenB] at hL
      simp [rawB]
      omega
    rw [e]
    clear hL e
    go_enter Tryz.func94, Tryz.ntmps94
    go_wp2_with fail
    refine (unhideR CL _).mono ?_
    rintro e w1 ⟨rfl, hw1⟩
    obtain rfl : w = w1 := hw1.symm
    go_wp2_with fail
    go_ret
    exact ⟨retB (by first | rfl | (simp; omega) | (simp; done)), rfl⟩
def markL (l : List Int) : Bool := decide (l ∈ marks)
theorem st_list {s : ByteArray} {l : List Int} (h : St s l) : ∀ (m : List Int), U.isBytes m → (s.toList = (m.map fun n => UInt8.ofNat n.toNat) ↔ l = m) := by
  intro m hm
  rw [ByteArray.toList_eq]
  constructor
  · intro e
    refine strOf_inj h.2 hm ?_
    rw [← h.1]
    cases hx : s with | mk x =>
      rw [hx] at e
      have : x = (m.map fun n => UInt8.ofNat n.toNat).toArray := by rw [← e]
      rw [this]; rfl
  · rintro rfl
    rw [h.1, strOfNums_data]
set_option maxRecDepth 20000 in
set_option maxHeartbeats 1000000 in
theorem isMark_l (s : ByteArray) (l : List Int) (h : St s l) (w : World) :
    Calls Tryz.prog 75 #[.string s] w fun e w' => e = .returned (.bool (markL l)) ∧ w' = w := by
  have key := st_list h
  have k1 : s.toList = [108, 111, 110, 103] ↔ l = [108, 111, 110, 103] := key [108, 111, 110, 103] (by intro z hz; simp at hz; omega)
  have k2 : s.toList = [114, 101, 115] ↔ l = [114, 101, 115] := key [114, 101, 115] (by intro z hz; simp at hz; omega)
  have k3 : s.toList = [111, 102, 102] ↔ l = [111, 102, 102] := key [111, 102, 102] (by intro z hz; simp at hz; omega)
  have k4 : s.toList = [98, 108, 111, 99, 107] ↔ l = [98, 108, 111, 99, 107] := key [98, 108, 111, 99, 107] (by intro z hz; simp at hz; omega)
  have k5 : s.toList = [97, 108, 105, 103, 110] ↔ l = [97, 108, 105, 103, 110] := key [97, 108, 105, 103, 110] (by intro z hz; simp at hz; omega)
  have k6 : s.toList = [115, 121, 110, 99] ↔ l = [115, 121, 110, 99] := key [115, 121, 110, 99] (by intro z hz; simp at hz; omega)
  clear key h
  by_cases c1 : l = [108, 111, 110, 103]
  · have d1 := k1.2 c1
    have e : markL l = true := by rw [c1]; decide
    rw [e]
    clear k1 k2 k3 k4 k5 k6 e c1
    go_enter Tryz.func75, Tryz.ntmps75
    go_wp2_with fail
    go_ret
    exact ⟨rfl, rfl⟩
  · have d1 : ¬ s.toList = [108, 111, 110, 103] := fun x => c1 (k1.1 x)
    clear k1
    by_cases c2 : l = [114, 101, 115]
    · have d2 := k2.2 c2
      have e : markL l = true := by rw [c2]; decide
      rw [e]
      clear k2 k3 k4 k5 k6 e c2
      go_enter Tryz.func75, Tryz.ntmps75
      go_wp2_with fail
      go_ret
      exact ⟨rfl, rfl⟩
    · have d2 : ¬ s.toList = [114, 101, 115] := fun x => c2 (k2.1 x)
      clear k2
      by_cases c3 : l = [111, 102, 102]
      · have d3 := k3.2 c3
        have e : markL l = true := by rw [c3]; decide
        rw [e]
        clear k3 k4 k5 k6 e c3
        go_enter Tryz.func75, Tryz.ntmps75
        go_wp2_with fail
        go_ret
        exact ⟨rfl, rfl⟩
      · have d3 : ¬ s.toList = [111, 102, 102] := fun x => c3 (k3.1 x)
        clear k3
        by_cases c4 : l = [98, 108, 111, 99, 107]
        · have d4 := k4.2 c4
          have e : markL l = true := by rw [c4]; decide
          rw [e]
          clear k4 k5 k6 e c4
          go_enter Tryz.func75, Tryz.ntmps75
          go_wp2_with fail
          go_ret
          exact ⟨rfl, rfl⟩
        · have d4 : ¬ s.toList = [98, 108, 111, 99, 107] := fun x => c4 (k4.1 x)
          clear k4
          by_cases c5 : l = [97, 108, 105, 103, 110]
          · have d5 := k5.2 c5
            have e : markL l = true := by rw [c5]; decide
            rw [e]
            clear k5 k6 e c5
            go_enter Tryz.func75, Tryz.ntmps75
            go_wp2_with fail
            go_ret
            exact ⟨rfl, rfl⟩
          · have d5 : ¬ s.toList = [97, 108, 105, 103, 110] := fun x => c5 (k5.1 x)
            clear k5
            by_cases c6 : l = [115, 121, 110, 99]
            · have d6 := k6.2 c6
              have e : markL l = true := by rw [c6]; decide
              rw [e]
              clear k6 e c6
              go_enter Tryz.func75, Tryz.ntmps75
              go_wp2_with fail
              go_ret
              exact ⟨rfl, rfl⟩
            · have d6 : ¬ s.toList = [115, 121, 110, 99] := fun x => c6 (k6.1 x)
              clear k6
              have e : markL l = false := by
                unfold markL marks
                simp [c1, c2, c3, c4, c5, c6]
              rw [e]
              clear e c1 c2 c3 c4 c5 c6
              have b1 := beq_eq_false_iff_ne.2 d1
              have b2 := beq_eq_false_iff_ne.2 d2
              have b3 := beq_eq_false_iff_ne.2 d3
              have b4 := beq_eq_false_iff_ne.2 d4
              have b5 := beq_eq_false_iff_ne.2 d5
              have b6 := beq_eq_false_iff_ne.2 d6
              go_enter Tryz.func75, Tryz.ntmps75
              go_wp2_with fail
              go_ret
              exact ⟨rfl, rfl⟩
end Go.Proofs.YtdaadeohamkoiaaGreatDoor.T

/- Contracts of package token: what a tail begins by, its digits, its name. -/
namespace Go.Proofs.YtdaadeohamkoiaaGreatDoor.T
open Go.RowKit
set_option linter.unusedVariables false
set_option linter.unusedSimpArgs false

theorem Bs.bytesIn {w : World} {a : Option Addr} {len cap : Nat} {l : List Int} (h : Bs w a len cap l) : Lib.BytesIn w a len l := by
  intro hp
  obtain ⟨b, off, ha, hb⟩ := h.open hp
  exact ⟨b, off, ha, hb.hcell⟩
/-- does it begin by these? -/
def pre (p l : List Int) : Bool := decide (l.take p.length = p)
theorem pre_is {p l : List Int} (hp : U.isBytes p) (hl : U.isBytes l) : Lib.hasPrefix (Lib.bytesOf l) (Lib.bytesOf p) = pre p l := by
  unfold Lib.hasPrefix Lib.bytesOf pre
  induction p generalizing l with
  | nil => simp
  | cons x p ih =>
    cases l with
    | nil => simp [List.isPrefixOf]
    | cons y l =>
      have hx := hp x (List.mem_cons_self ..)
      have hy := hl y (List.mem_cons_self ..)
      have := ih (l := l) (fun z hz => hp z (List.mem_cons_of_mem _ hz)) (fun z hz => hl z (List.mem_cons_of_mem _ hz))
      rw [List.map_cons, List.map_cons, List.isPrefixOf, this, Bool.eq_iff_iff]
      simp only [Bool.and_eq_true, beq_iff_eq, decide_eq_true_eq, List.length_cons, List.take_succ_cons, List.cons.injEq]
      refine and_congr_left fun _ => ⟨fun h => ?_, fun h => by rw [h]⟩
      have := congrArg UInt8.toNat h
      simp [UInt8.toNat_ofNat'] at this
      omega
theorem bs_conv' (w : World) {s : ByteArray} {l : List Int} (h : St s l) (hl : l.length ≤ maxLen) (fr : Nat × Nat) :
    Bs ((w.alloc (.cells (bytesRow s (grownCap w s.size 0 5)) 5 fr)).drew) (some ⟨w.heap.size, 0, none⟩) s.size (grownCap w s.size 0 5) l := bs_conv w h hl fr
theorem new_drew' {w : World} (o : Obj) : Below w.heap.size w (w.alloc o).drew := ((Below.refl _ _).alloc (Nat.le_refl _) o).trans (draws_b (k := 1))
set_option maxRecDepth 20000 in
set_option maxHeartbeats 1000000 in
theorem begins_l (a : Option Addr) (len cap : Nat) (l : List Int) (w : World) (h : Bs w a len cap l) (s : ByteArray) (p : List Int) (hs : St s p) (hp : p.length ≤ 1000) :
    Calls Tryz.prog 77 #[.slice a len cap, .string s] w fun e w' => e = .returned (.bool (pre p l)) ∧ Below w.heap.size w w' := by
  have kc := fun W => run_bytes_of_string (P := Tryz.prog) W 9 55 5 s Tryz.underlying9 Tryz.underlying55 Tryz.underlying5
  have hsz := hs.size
  have BC := hideR (fun W fr => bs_conv' W hs (by unfold maxLen; omega) fr)
  have CP : ∀ W x c, Bs W a len cap l → Bs W x s.size c p → Calls Tryz.prog 124 #[.slice a len cap, .slice x s.size c] W fun e w' => e = .returned (.bool (pre p l)) ∧ w' = W := by
    intro W x c h1 h2
    have := Any.bytes_HasPrefix_all hasPre_lays a x len cap s.size c l p W h1.hlen h2.hlen h1.hcap (Bs.bytesIn h1) (Bs.bytesIn h2)
    rw [pre_is hs.2 h1.hbytes] at this
    exact this
  have HB := hideR h
  have CPH := hideR CP
  clear CP h hs hsz
  generalize pre p l = r at *
  go_enter Tryz.func77, Tryz.ntmps77
  go_wp2_with fail
  refine (unhideR CPH _ _ _ (Bs.later (unhideR HB) (new_drew' _) (Nat.le_refl _)) (unhideR BC _ _)).mono ?_
  rintro e w1 ⟨rfl, hw1⟩
  subst hw1
  go_wp2_with fail
  go_ret
  exact ⟨rfl, new_drew' _⟩
end Go.Proofs.YtdaadeohamkoiaaGreatDoor.T
