/- Parts of the proof that stand ahead of it. -/
import Derived.Test.YtdaadeohamkoiaaGreatDoorTkSt
import Derived.Test.YtdaadeohamkoiaaGreatDoorUtfAwake
import Derived.Laws.BitsLemmas
import Derived.Laws.Bits64
import Derived.Test.YtdaadeohamkoiaaGreatDoorTkV
import Derived.Test.YtdaadeohamkoiaaGreatDoorTkLaws
import Derived.Test.YtdaadeohamkoiaaGreatDoorTkRefC
import Derived.Test.YtdaadeohamkoiaaGreatDoorRgSets
import Derived.Test.YtdaadeohamkoiaaGreatDoorRgSame
import Derived.Deep.AppendLies
/- Contracts of the library's digits by sixteen (strconv.FormatInt), and of scalarText at every number. -/
namespace Go.Proofs.YtdaadeohamkoiaaGreatDoor.T
open Go.RowKit
set_option linter.unusedVariables false
set_option linter.unusedSimpArgs false

/-- a number's digits by sixteen, with its sign -/
def fmt16 (n : Int) : List Int := if n < 0 then 45 :: sixF 15 (-n) else sixF 15 n
theorem six_more : ∀ (f g : Nat) (n : Int), 0 ≤ n → n < 16 ^ (f + 1) → f ≤ g → sixF g n = sixF f n := by
  intro f
  induction f with
  | zero =>
    intro g n h0 h1 hg
    have h1' : n < 16 := by simpa using h1
    cases g with
    | zero => rfl
    | succ g => simp only [sixF]; rw [if_pos h1']
  | succ f ih =>
    intro g n h0 h1 hg
    obtain ⟨k, rfl⟩ : ∃ k, g = k + 1 := ⟨g - 1, by omega⟩
    by_cases h : n < 16
    · simp only [sixF]; rw [if_pos h, if_pos h]
    · have h2 : n / 16 < 16 ^ (f + 1) := by
        have : (16 : Int) ^ (f + 1 + 1) = 16 ^ (f + 1) * 16 := Int.pow_succ _ _
        rw [this] at h1
        generalize (16 : Int) ^ (f + 1) = P at *
        omega
      simp only [sixF]
      rw [if_neg h, if_neg h, ih k (n / 16) (by omega) h2 (by omega)]
theorem six_bytes : ∀ (f : Nat) (n : Int), 0 ≤ n → n < 16 ^ (f + 1) → U.isBytes (sixF f n) := by
  intro f n h0 h1 z hz
  have := (six_ok f n h0 h1).1 z hz
  unfold valI isDig at this
  split at this
  · next c => simp at c; omega
  · split at this
    · omega
    · omega
theorem fmt_bytes {n : Int} (h : fits n) : U.isBytes (fmt16 n) ∧ (fmt16 n).length ≤ 17 := by
  unfold fits at h
  unfold fmt16
  split
  · have := six_ok 15 (-n) (by omega) (by omega)
    exact ⟨bytes_cons (by omega) (by omega) (six_bytes 15 (-n) (by omega) (by omega)), by rw [List.length_cons]; omega⟩
  · have := six_ok 15 n (by omega) (by omega)
    exact ⟨six_bytes 15 n (by omega) (by omega), by omega⟩
theorem and15u (n : Int) (h0 : 0 ≤ n) (h1 : n ≤ 18446744073709551615) : bits .and .u64 n 15 = n % 16 := by
  have h15 : (BitVec.ofInt 64 15).toNat = 2 ^ 4 - 1 := by decide
  have key : (BitVec.ofInt 64 n &&& BitVec.ofInt 64 15).toNat = (n % ((2 ^ 64 : Nat) : Int)).toNat % 2 ^ 4 := by
    rw [BitVec.toNat_and, BitVec.toNat_ofInt, h15, Nat.and_two_pow_sub_one_eq_mod]
  show IntKind.u64.wrap ((BitVec.ofInt 64 n &&& BitVec.ofInt 64 15).toNat : Nat) = n % 16
  rw [key]
  simp [IntKind.wrap, IntKind.bits, IntKind.signed]
  omega
abbrev d36 : ByteArray := ⟨#[48, 49, 50, 51, 52, 53, 54, 55, 56, 57, 97, 98, 99, 100, 101, 102, 103, 104, 105, 106, 107, 108, 109, 110, 111, 112, 113, 114, 115, 116, 117, 118, 119, 120, 121, 122]⟩
theorem ix36 (z : Int) (h0 : 0 ≤ z) (h1 : z < 16) : ∀ W, (Instr.index 9 (.string ⟨#[48, 49, 50, 51, 52, 53, 54, 55, 56, 57, 97, 98, 99, 100, 101, 102, 103, 104, 105, 106, 107, 108, 109, 110, 111, 112, 113, 114, 115, 116, 117, 118, 119, 120, 121, 122]⟩) (.int .u64 z)).run Tryz.prog W = .ok (.int .u8 (hexD z)) W := by
  intro W
  rw [run_index_string W 9 _ .u64 z Tryz.underlying9, dif_pos ⟨h0, by show z < ((36 : Nat) : Int); omega⟩]
  have h : z = 0 ∨ z = 1 ∨ z = 2 ∨ z = 3 ∨ z = 4 ∨ z = 5 ∨ z = 6 ∨ z = 7 ∨ z = 8 ∨ z = 9 ∨ z = 10 ∨ z = 11 ∨ z = 12 ∨ z = 13 ∨ z = 14 ∨ z = 15 := by omega
  rcases h with rfl | rfl | rfl | rfl | rfl | rfl | rfl | rfl | rfl | rfl | rfl | rfl | rfl | rfl | rfl | rfl <;> rfl
/-- the library's table of places of bits lies as its text says, where it is read -/
def Db (w : World) : Prop := w.cell? ⟨7, 15, none⟩ = some (.int .u8 4)
theorem Db.later {w w' : World} (h : Db w) (b : Below w.heap.size w w') : Db w' := by
  unfold Db at *
  rw [b.cell (block_lt' h)]
  exact h
set_option maxRecDepth 20000 in
set_option maxHeartbeats 2000000 in
theorem tz64_l (w : World) (h : Db w) : Calls Tryz.prog 210 #[.int .u64 16] w fun e w' => e = .returned (.int .i64 4) ∧ w' = w := by
  unfold Db at h
  have e1 : IntKind.u64.wrap (-16) = 18446744073709551600 := by decide
  have e2 : bits .and .u64 16 18446744073709551600 = 16 := by decide
  have e3 : IntKind.u64.wrap 4573923408821661840 = 4573923408821661840 := by decide
  go_enter Tryz.func210, Tryz.ntmps210
  go_wp2_with fail
  go_ret
  exact ⟨rfl, rfl⟩
set_option maxRecDepth 20000 in
set_option maxHeartbeats 2000000 in
theorem tz_l (w : World) (h : Db w) : Calls Tryz.prog 199 #[.int .u64 16] w fun e w' => e = .returned (.int .i64 4) ∧ w' = w := by
  have C := hideR (tz64_l w h)
  clear h
  go_enter Tryz.func199, Tryz.ntmps199
  go_wp2_with fail
  refine (unhideR C).mono ?_
  rintro e w1 ⟨rfl, hw1⟩
  obtain rfl : w = w1 := hw1.symm
  clear hw1 C
  go_wp2_with fail
  go_ret
  exact ⟨rfl, rfl⟩
set_option maxRecDepth 20000 in
set_option maxHeartbeats 2000000 in
theorem pow2_l (w : World) : Calls Tryz.prog 198 #[.int .i64 16] w fun e w' => e = .returned (.bool true) ∧ w' = w := by
  go_enter Tryz.func198, Tryz.ntmps198
  go_wp2_with fail
  go_ret
  exact ⟨rfl, rfl⟩

/-! ### formatBits -/
theorem six_step {f : Nat} {u : Int} (h : 16 ≤ u) (hb : u < 16 ^ (f + 1)) : ∃ g, f = g + 1 ∧ sixF f u = sixF g (u / 16) ++ [hexD (u % 16)] ∧ u / 16 < 16 ^ (g + 1) := by
  cases f with
  | zero => simp at hb; omega
  | succ g =>
    refine ⟨g, rfl, by simp only [sixF]; rw [if_neg (by omega)], ?_⟩
    have : (16 : Int) ^ (g + 1 + 1) = 16 ^ (g + 1) * 16 := Int.pow_succ _ _
    rw [this] at hb
    generalize (16 : Int) ^ (g + 1) = P at *
    omega
theorem six_last {f : Nat} {u : Int} (h : u < 16) : sixF f u = [hexD u] := by
  cases f with
  | zero => rfl
  | succ g => simp only [sixF]; rw [if_pos h]
theorem hexD_byte' {z : Int} (h0 : 0 ≤ z) (h1 : z < 16) : 0 ≤ hexD z ∧ hexD z ≤ 255 := by
  unfold hexD
  split <;> omega
/-- a block of 65 bytes of which the last ones are these -/
def Tl (w : World) (g : Nat) (m : Nat) (acc : List Int) : Prop := ∃ cs : Array Value, w.heap[g]? = some (.cells cs 228) ∧ cs.size = 65 ∧ m + acc.length = 65 ∧ cs.toList.drop m = acc.map (Value.int .u8)
theorem Tl.cell {w : World} {g m : Nat} {acc : List Int} (h : Tl w g (m + 1) acc) : ∃ v, w.cell? ⟨g, m, none⟩ = some v := by
  obtain ⟨cs, h1, h2, h3, h4⟩ := h
  refine ⟨cs[m]'(by omega), ?_⟩
  simp [World.cell?, h1]
theorem Tl.free {w : World} {g m : Nat} {acc : List Int} (h : Tl w g m acc) (k : Nat) : w.frozen? ⟨g, k, none⟩ = false := by
  obtain ⟨cs, h1, h2, h3, h4⟩ := h
  simp [World.frozen?, h1]
theorem Tl.put {w : World} {g m : Nat} {acc : List Int} (h : Tl w g (m + 1) acc) (x : Int) : Tl (w.setCell ⟨g, m, none⟩ (.int .u8 x)) g m (x :: acc) := by
  obtain ⟨cs, h1, h2, h3, h4⟩ := h
  refine ⟨cs.setIfInBounds m (.int .u8 x), heap_setCell_same w g m cs _ _ h1, by simp [h2], by rw [List.length_cons]; omega, ?_⟩
  have hm : m < (cs.toList.set m (Value.int .u8 x)).length := by simp; omega
  rw [Array.toList_setIfInBounds, List.drop_eq_getElem_cons hm, List.getElem_set_self, List.map_cons, List.drop_set, if_pos (by omega), h4]
/-- the bytes behind a place of it -/
theorem Tl.bs {w : World} {g m : Nat} {acc : List Int} (h : Tl w g m acc) (hb : U.isBytes acc) : Bs w (some ⟨g, m, none⟩) (65 - m) (65 - m) acc := by
  obtain ⟨cs, h1, h2, h3, h4⟩ := h
  refine ⟨by omega, Nat.le_refl _, by unfold maxLen; omega, hb, fun i hi => ⟨_, _, rfl, ?_⟩⟩
  have hi' : i < acc.length := by omega
  have e := congrArg (fun l => l[i]?) h4
  simp only [List.getElem?_drop, List.getElem?_map] at e
  rw [List.getElem?_eq_getElem hi'] at e
  simp only [Option.map_some, Array.getElem?_toList] at e
  simp only [World.cell?, h1, List.getD, List.getElem?_eq_getElem hi', Option.getD_some]
  exact e
theorem cut65 (g m : Nat) (h : m < 65) : ∀ W, (Instr.sliceAt 228 (.pointer (some ⟨g, 0, none⟩)) (some (.int .i64 (m : Int))) none none).run Tryz.prog W = .ok (.slice (some ⟨g, m, none⟩) (65 - m) (65 - m)) W := by
  intro W
  have ht : Tryz.prog.underlying 228 = some (.array (Tryz.prog.arrayLen 228) (Tryz.prog.elem 228)) := by kernel_rfl
  have al : Tryz.prog.arrayLen 228 = 65 := by kernel_rfl
  have sz : (sizeOf (Tryz.prog.elem 228)).run Tryz.prog W = .ok 1 W := by kernel_rfl
  rw [run_sliceAt_array_l W 228 _ ht .i64 (m : Int) (by omega) (by rw [al]; omega), sz, al]
  simp only [Result.andThen, slicedAt, Int.toNat_natCast]
  rw [if_neg (by omega), Nat.mul_one, Addr.add_lit, Nat.zero_add]
theorem Tl.new (w : World) : Tl (w.alloc (.cells Tryz.zeroCells228 228)) w.heap.size 65 [] :=
  ⟨Tryz.zeroCells228, heap_alloc_new w _, by kernel_rfl, rfl, by kernel_rfl⟩
set_option maxRecDepth 20000 in
set_option maxHeartbeats 4000000 in
theorem fbits_pos (M : Int) (h0 : 0 ≤ M) (h1 : M ≤ 9223372036854775807) (w : World) (hd : Db w) :
    Calls Tryz.prog 169 #[.slice none 0 0, .int .u64 M, .int .i64 16, .bool false, .bool false] w fun e w' => e = .returned (.tuple #[.slice none 0 0, .string (strOfNums (sixF 15 M))]) ∧ Below w.heap.size w w' := by
  have P2 := hideR pow2_l
  have TZ := hideR (fun W (hW : Below w.heap.size w W) => tz_l W (hd.later hW))
  clear hd
  have HS0 : Hid (sixF 15 M = sixF 15 M ++ []) := by show _ = _; simp
  have HU : Hid (M < 16 ^ (15 + 1)) := by show _ < _; omega
  generalize hSX : sixF 15 M = SX at *
  have HM := hideR hSX
  clear hSX
  go_enter Tryz.func169, Tryz.ntmps169
  go_wp2_with fail
  refine (unhideR P2 _).mono ?_
  rintro e w1 ⟨rfl, hw1⟩
  obtain rfl := hw1
  clear P2
  go_wp2_with fail
  refine (unhideR TZ _ (Below.new1 _)).mono ?_
  rintro e w1 ⟨rfl, hw1⟩
  obtain rfl := hw1
  clear TZ
  go_wp2_with fail
  go_loopw [1, 13] (fun u i wr => ∃ (f : Nat) (acc : List Int) (uv : Int) (m : Nat), 0 ≤ uv ∧ uv ≤ 18446744073709551615 ∧ Hid (uv < 16 ^ (f + 1)) ∧ f + acc.length = 15 ∧ m + acc.length = 65 ∧ Hid (SX = sixF f uv ++ acc) ∧ Hid (U.isBytes acc) ∧ u = .int .u64 uv ∧ i = .int .i64 (m : Int) ∧ Hid (Tl wr w.heap.size m acc) ∧ Below w.heap.size w wr) (fun u _ _ => (intOf u).toNat)
  case atStart => exact ⟨15, [], M, 65, by omega, by omega, HU, rfl, rfl, by show _ = _; rw [unhideR HM]; exact unhideR HS0, (fun z hz => by cases hz), rfl, rfl, Tl.new w, Below.new1 _⟩
  case round =>
    obtain ⟨f, acc, uv, m, u0, u1, hf, s1, s2, hE, hA, rfl, rfl, hT, hb⟩ := hrel
    by_cases c16 : 16 ≤ uv
    · obtain ⟨g, rfl, es, hlt⟩ := six_step c16 (unhideR hf)
      obtain ⟨m', rfl⟩ : ∃ k, m = k + 1 := ⟨m - 1, by omega⟩
      obtain ⟨v0, hv0⟩ := (unhideR hT).cell
      have fr := (unhideR hT).free m'
      have a1 := and15u uv u0 u1
      have i1 := ix36 (uv % 16) (by omega) (by omega)
      have hmm : m' < 65 := by omega
      have hmm2 : (m' : Int) < 65 := by omega
      have hX := hexD_byte' (z := uv % 16) (by omega) (by omega)
      have HX := hideR hX
      clear hX
      generalize hexD (uv % 16) = X at *
      have HES := hideR es
      have HLT := hideR hlt
      clear es hlt hf
      go_wp2_with fail
      go_roundw
      case rel => exact ⟨g, X :: acc, uv / 16, m', by omega, by omega, HLT, by rw [List.length_cons]; omega, by rw [List.length_cons]; omega, by show _ = _; rw [unhideR hE, unhideR HES]; simp, bytes_cons (unhideR HX).1 (unhideR HX).2 (unhideR hA), rfl, rfl, (unhideR hT).put X, hb.setCell (Nat.le_refl _) _⟩
      case measure => simp only [intOf]; omega
    · have c17 : uv < 16 := by omega
      have e1 : SX = hexD uv :: acc := by rw [unhideR hE, six_last c17]; rfl
      obtain ⟨m', rfl⟩ : ∃ k, m = k + 1 := ⟨m - 1, by omega⟩
      obtain ⟨v0, hv0⟩ := (unhideR hT).cell
      have fr := (unhideR hT).free m'
      have i1 := ix36 uv u0 c17
      have hmm : m' < 65 := by omega
      have hmm2 : (m' : Int) < 65 := by omega
      have hX := hexD_byte' (z := uv) u0 c17
      have ab : U.isBytes (hexD uv :: acc) := bytes_cons hX.1 hX.2 (unhideR hA)
      have T1 := (unhideR hT).put (hexD uv)
      have cv := (T1.bs ab).str
      have B1 : Below w.heap.size w (wr.setCell ⟨w.heap.size, m', none⟩ (.int .u8 (hexD uv))) := hb.setCell (Nat.le_refl _) _
      rw [← e1] at cv
      have sl := cut65 w.heap.size m' hmm
      generalize hexD uv = X at *
      clear HM HS0 HU hf hE hA hT ab T1 hX e1
      go_wp2_with fail
      go_ret2
      exact ⟨rfl, B1⟩
set_option maxRecDepth 20000 in
set_option maxHeartbeats 4000000 in
theorem fbits_neg (M : Int) (h0 : 1 ≤ M) (h1 : M ≤ 9223372036854775808) (w : World) (hd : Db w) :
    Calls Tryz.prog 169 #[.slice none 0 0, .int .u64 (18446744073709551616 - M), .int .i64 16, .bool true, .bool false] w fun e w' => e = .returned (.tuple #[.slice none 0 0, .string (strOfNums (45 :: sixF 15 M))]) ∧ Below w.heap.size w w' := by
  have P2 := hideR pow2_l
  have TZ := hideR (fun W (hW : Below w.heap.size w W) => tz_l W (hd.later hW))
  clear hd
  have HS0 : Hid (sixF 15 M = sixF 15 M ++ []) := by show _ = _; simp
  have HU : Hid (M < 16 ^ (15 + 1)) := by show _ < _; omega
  have n1 : IntKind.u64.wrap (-(18446744073709551616 - M)) = M := by simp [IntKind.wrap, IntKind.bits, IntKind.signed]; omega
  have n2 : IntKind.u64.wrap (M - 18446744073709551616) = M := by simp [IntKind.wrap, IntKind.bits, IntKind.signed]; omega
  generalize hSX : sixF 15 M = SX at *
  have HM := hideR hSX
  clear hSX
  go_enter Tryz.func169, Tryz.ntmps169
  go_wp2_with fail
  refine (unhideR P2 _).mono ?_
  rintro e w1 ⟨rfl, hw1⟩
  obtain rfl := hw1
  clear P2
  go_wp2_with fail
  refine (unhideR TZ _ (Below.new1 _)).mono ?_
  rintro e w1 ⟨rfl, hw1⟩
  obtain rfl := hw1
  clear TZ
  go_wp2_with fail
  go_loopw [1, 13] (fun u i wr => ∃ (f : Nat) (acc : List Int) (uv : Int) (m : Nat), 0 ≤ uv ∧ uv ≤ 18446744073709551615 ∧ Hid (uv < 16 ^ (f + 1)) ∧ f + acc.length = 15 ∧ m + acc.length = 65 ∧ Hid (SX = sixF f uv ++ acc) ∧ Hid (U.isBytes acc) ∧ u = .int .u64 uv ∧ i = .int .i64 (m : Int) ∧ Hid (Tl wr w.heap.size m acc) ∧ Below w.heap.size w wr) (fun u _ _ => (intOf u).toNat)
  case atStart => exact ⟨15, [], M, 65, by omega, by omega, HU, rfl, rfl, by show _ = _; rw [unhideR HM]; exact unhideR HS0, (fun z hz => by cases hz), rfl, rfl, Tl.new w, Below.new1 _⟩
  case round =>
    obtain ⟨f, acc, uv, m, u0, u1, hf, s1, s2, hE, hA, rfl, rfl, hT, hb⟩ := hrel
    by_cases c16 : 16 ≤ uv
    · obtain ⟨g, rfl, es, hlt⟩ := six_step c16 (unhideR hf)
      obtain ⟨m', rfl⟩ : ∃ k, m = k + 1 := ⟨m - 1, by omega⟩
      obtain ⟨v0, hv0⟩ := (unhideR hT).cell
      have fr := (unhideR hT).free m'
      have a1 := and15u uv u0 u1
      have i1 := ix36 (uv % 16) (by omega) (by omega)
      have hmm : m' < 65 := by omega
      have hmm2 : (m' : Int) < 65 := by omega
      have hX := hexD_byte' (z := uv % 16) (by omega) (by omega)
      have HX := hideR hX
      clear hX
      generalize hexD (uv % 16) = X at *
      have HES := hideR es
      have HLT := hideR hlt
      clear es hlt hf
      go_wp2_with fail
      go_roundw
      case rel => exact ⟨g, X :: acc, uv / 16, m', by omega, by omega, HLT, by rw [List.length_cons]; omega, by rw [List.length_cons]; omega, by show _ = _; rw [unhideR hE, unhideR HES]; simp, bytes_cons (unhideR HX).1 (unhideR HX).2 (unhideR hA), rfl, rfl, (unhideR hT).put X, hb.setCell (Nat.le_refl _) _⟩
      case measure => simp only [intOf]; omega
    · have c17 : uv < 16 := by omega
      have e1 : SX = hexD uv :: acc := by rw [unhideR hE, six_last c17]; rfl
      obtain ⟨m', rfl⟩ : ∃ k, m = k + 1 := ⟨m - 1, by omega⟩
      obtain ⟨v0, hv0⟩ := (unhideR hT).cell
      have fr := (unhideR hT).free m'
      have i1 := ix36 uv u0 c17
      have hmm : m' < 65 := by omega
      have hmm2 : (m' : Int) < 65 := by omega
      have hX := hexD_byte' (z := uv) u0 c17
      have ab : U.isBytes (hexD uv :: acc) := bytes_cons hX.1 hX.2 (unhideR hA)
      have T1 := (unhideR hT).put (hexD uv)
      obtain ⟨m2, rfl⟩ : ∃ k, m' = k + 1 := ⟨m' - 1, by omega⟩
      obtain ⟨v1, hv1⟩ := T1.cell
      have fr1 := T1.free m2
      have T2 := T1.put 45
      have cv := (T2.bs (bytes_cons (by omega) (by omega) ab)).str
      have B0 : Below w.heap.size w (wr.setCell ⟨w.heap.size, m2 + 1, none⟩ (.int .u8 (hexD uv))) := hb.setCell (Nat.le_refl _) _
      have B1 : Below w.heap.size w ((wr.setCell ⟨w.heap.size, m2 + 1, none⟩ (.int .u8 (hexD uv))).setCell ⟨w.heap.size, m2, none⟩ (.int .u8 45)) := B0.setCell (Nat.le_refl _) _
      rw [← e1] at cv
      have sl := cut65 w.heap.size m2 (by omega)
      have hm3 : (m2 : Int) < 65 := by omega
      generalize hexD uv = X at *
      clear HM HS0 HU hf hE hA hT ab T1 T2 hX e1
      go_wp2_with fail
      go_ret2
      exact ⟨rfl, B1⟩

/-! ### FormatInt -/
set_option maxRecDepth 20000 in
set_option maxHeartbeats 2000000 in
theorem fi_pos (M : Int) (h0 : 0 ≤ M) (h1 : M ≤ 9223372036854775807) (w : World) (hd : Db w) :
    Calls Tryz.prog 144 #[.int .i64 M, .int .i64 16] w fun e w' => e = .returned (.string (strOfNums (sixF 15 M))) ∧ Below w.heap.size w w' := by
  have C := hideR (fbits_pos M h0 h1 w hd)
  clear hd
  generalize strOfNums (sixF 15 M) = X at *
  have n1 : IntKind.u64.wrap M = M := by simp [IntKind.wrap, IntKind.bits, IntKind.signed]; omega
  have n2 : ¬ (M < 0) := by omega
  go_enter Tryz.func144, Tryz.ntmps144
  go_wp2_with fail
  refine (unhideR C).mono ?_
  rintro e w1 ⟨rfl, b1⟩
  clear C
  go_wp2_with fail
  go_ret
  exact ⟨rfl, b1⟩
set_option maxRecDepth 20000 in
set_option maxHeartbeats 2000000 in
theorem fi_neg (M : Int) (h0 : 1 ≤ M) (h1 : M ≤ 9223372036854775808) (w : World) (hd : Db w) :
    Calls Tryz.prog 144 #[.int .i64 (-M), .int .i64 16] w fun e w' => e = .returned (.string (strOfNums (45 :: sixF 15 M))) ∧ Below w.heap.size w w' := by
  have C := hideR (fbits_neg M h0 h1 w hd)
  clear hd
  generalize strOfNums (45 :: sixF 15 M) = X at *
  have n1 : IntKind.u64.wrap (-M) = 18446744073709551616 - M := by simp [IntKind.wrap, IntKind.bits, IntKind.signed]; omega
  have n2 : -M < 0 := by omega
  have n3 : 0 < M := by omega
  go_enter Tryz.func144, Tryz.ntmps144
  go_wp2_with fail
  refine (unhideR C).mono ?_
  rintro e w1 ⟨rfl, b1⟩
  clear C
  go_wp2_with fail
  go_ret
  exact ⟨rfl, b1⟩
set_option maxRecDepth 20000 in
set_option maxHeartbeats 2000000 in
theorem fmt_pos (M : Int) (h0 : 0 ≤ M) (h1 : M ≤ 9223372036854775807) (w : World) (hd : Db w) :
    Calls Tryz.prog 99 #[.int .i64 M, .int .i64 16] w fun e w' => e = .returned (.string (strOfNums (sixF 15 M))) ∧ Below w.heap.size w w' := by
  have C := hideR (fi_pos M h0 h1 w hd)
  clear hd
  generalize strOfNums (sixF 15 M) = X at *
  go_enter Tryz.func99, Tryz.ntmps99
  go_wp2_with fail
  refine (unhideR C).mono ?_
  rintro e w1 ⟨rfl, b1⟩
  clear C
  go_wp2_with fail
  go_ret
  exact ⟨rfl, b1⟩
set_option maxRecDepth 20000 in
set_option maxHeartbeats 2000000 in
theorem fmt_neg (M : Int) (h0 : 1 ≤ M) (h1 : M ≤ 9223372036854775808) (w : World) (hd : Db w) :
    Calls Tryz.prog 99 #[.int .i64 (-M), .int .i64 16] w fun e w' => e = .returned (.string (strOfNums (45 :: sixF 15 M))) ∧ Below w.heap.size w w' := by
  have C := hideR (fi_neg M h0 h1 w hd)
  clear hd
  generalize strOfNums (45 :: sixF 15 M) = X at *
  go_enter Tryz.func99, Tryz.ntmps99
  go_wp2_with fail
  refine (unhideR C).mono ?_
  rintro e w1 ⟨rfl, b1⟩
  clear C
  go_wp2_with fail
  go_ret
  exact ⟨rfl, b1⟩
/-- a number's digits by sixteen, whatever it is -/
theorem fmt_l (n : Int) (h : fits n) (w : World) (hd : Db w) :
    Calls Tryz.prog 99 #[.int .i64 n, .int .i64 16] w fun e w' => e = .returned (.string (strOfNums (fmt16 n))) ∧ Below w.heap.size w w' := by
  unfold fits at h
  unfold fmt16
  split
  · have := fmt_neg (-n) (by omega) (by omega) w hd
    rw [Int.neg_neg] at this
    exact this
  · exact fmt_pos n (by omega) (by omega) w hd
end Go.Proofs.YtdaadeohamkoiaaGreatDoor.T

/- Plain mathematics of layer 5: a number's digits by sixteen, whatever the number; what may be, told by what is written. -/
namespace Go.Proofs.YtdaadeohamkoiaaGreatDoor.T
open Go.RowKit
set_option linter.unusedVariables false
set_option linter.unusedSimpArgs false

/-- an end of a class's items, whatever the number -/
def shA (n : Int) : List Int := if plainB n then [n] else 92 :: 117 :: (fmt16 n ++ [59])
theorem shA_may {n : Int} (h : U.mayB n = true) : shA n = showO false n := by
  have hn := (U.may_iff n).1 h
  unfold shA showO
  rw [if_neg (by simp : ¬ (false = true))]
  split
  · rfl
  · unfold fmt16 sixL
    rw [if_neg (by omega), six_more 5 15 n (by omega) (by omega) (by omega)]
theorem shA_bytes {n : Int} (h : fits n) : U.isBytes (shA n) ∧ (shA n).length ≤ 100 := by
  obtain ⟨f1, f2⟩ := fmt_bytes h
  unfold shA
  split
  · next c =>
    have := plain_iff.1 c
    exact ⟨bytes_cons (by omega) (by omega) (fun y hy => by cases hy), by simp⟩
  · exact ⟨bytes_cons (by omega) (by omega) (bytes_cons (by omega) (by omega) (bytes_app f1 (bytes_cons (by omega) (by omega) (fun y hy => by cases hy)))), by simp; omega⟩
theorem flat_eq {α : Type} {f g : α → List Int} : ∀ {l : List α}, (∀ x ∈ l, f x = g x) → l.flatMap f = l.flatMap g := by
  intro l
  induction l with
  | nil => intro _; rfl
  | cons x l ih => intro h; rw [List.flatMap_cons, List.flatMap_cons, h x (List.mem_cons_self ..), ih fun y hy => h y (List.mem_cons_of_mem _ hy)]
theorem parts_wr {t : Tk} (h : partsB t = true) : wrL shA t = textL t := by
  obtain ⟨k, x, R⟩ := t
  unfold partsB at h
  simp only [Bool.and_eq_true, decide_eq_true_eq, List.all_eq_true, Bool.or_eq_true] at h
  obtain ⟨⟨⟨h0, h5⟩, hm⟩, ha⟩ := h
  unfold wrL textL
  simp only
  by_cases c0 : k = 0
  · subst c0; simp
  by_cases c4 : k = 4
  · subst c4; simp
  rw [if_neg (by omega)]
  by_cases c5 : k = 5
  · subst c5; simp
  rw [if_neg c5, if_neg c5]
  by_cases c1 : k = 1
  · subst c1; simp
  rw [if_neg c1, if_neg c1]
  by_cases c2 : k = 2
  · subst c2
    rw [if_pos rfl, if_pos rfl]
    have : R.flatMap (showR shA) = R.flatMap (showI false) := flat_eq fun r hr => by
      obtain ⟨q1, -⟩ := ha r hr
      rcases q1 with q1 | ⟨q1, q2⟩
      · exact absurd rfl q1
      · unfold showR showI
        rw [shA_may q1, shA_may q2]
    rw [this]; rfl
  rw [if_neg c2, if_neg c2]
  obtain rfl : k = 3 := by omega
  rw [if_pos rfl, if_pos rfl]
  have : R.flatMap (showR hexT) = R.flatMap (showI true) := flat_eq fun r hr => by
    obtain ⟨-, q1⟩ := ha r hr
    have hb := G.may_mem hm hr
    rcases q1 with q1 | q1
    · exact absurd rfl q1
    · unfold showR showI showO
      rw [hexT_is (by omega) (by omega), hexT_is (by omega) (by omega)]
      rfl
  rw [this]; rfl
theorem one_of {t : Tk} {x : Sum (Nat × Int) (List (Tk × Nat))} (h : oneB t x = true) : ∃ p, x = .inr [(t, p)] := by
  unfold oneB at h
  split at h
  · next u p => rw [decide_eq_true_eq] at h; subst h; exact ⟨p, rfl⟩
  · cases h
theorem mayL_one (t : Tk) : mayL t = (partsB t && oneB t (allL (textL t))) := rfl
theorem mayW_all {t : Tk} (hb : U.isBytes (wrL shA t)) : mayW shA t = mayL t := by
  rw [mayL_one]
  unfold mayW
  cases hp : partsB t with
  | true => rw [parts_wr hp]; rfl
  | false =>
    rw [Bool.false_and]
    cases hm : oneB t (allL (wrL shA t)) with
    | false => rfl
    | true =>
      obtain ⟨p, e⟩ := one_of hm
      have := parts_ok (allL_ok hb e (t, p) (List.mem_singleton.2 rfl))
      rw [hp] at this
      cases this
theorem txtW_all {t : Tk} (hb : U.isBytes (wrL shA t)) : txtW shA t = if mayL t then textL t else [] := by
  unfold txtW
  rw [mayW_all hb]
  cases hm : mayL t with
  | false => rfl
  | true =>
    rw [mayL_one, Bool.and_eq_true] at hm
    rw [if_pos rfl, if_pos rfl, parts_wr hm.1]
/-- a token's text, nothing if it may not be -/
def txtL (t : Tk) : List Int := if mayL t then textL t else []

/-! ### scalarText at every number -/
theorem plain_no {n : Int} (h : plainB n = false) : seenB n = false ∨ (seenB n = true ∧ U.mayB n = true ∧ standB n = false) := by
  cases hs : seenB n with
  | false => exact .inl rfl
  | true =>
    have h1 : 32 ≤ n ∧ n ≤ 126 := by unfold seenB at hs; simp at hs; exact hs
    refine .inr ⟨rfl, (U.may_iff n).2 (by omega), ?_⟩
    cases hc : standB n with
    | false => rfl
    | true =>
      exfalso
      have : plainB n = true := by
        rw [plain_iff]
        simp [standB, clsB] at hc
        omega
      rw [h] at this
      cases this
set_option maxRecDepth 20000 in
set_option maxHeartbeats 2000000 in
theorem scalarT_l (n : Int) (h : fits n) (w : World) (hd : Db w) :
    Calls Tryz.prog 62 #[.int .i64 n] w fun e w' => e = .returned (.string (strOfNums (shA n))) ∧ Below w.heap.size w w' := by
  cases hp : plainB n with
  | true =>
    have : shA n = [n] := by unfold shA; rw [hp]; rfl
    rw [this]
    exact scalarT_plain n hp w
  | false =>
    obtain ⟨fb, fl⟩ := fmt_bytes h
    have es : shA n = ([92, 117] ++ fmt16 n) ++ [59] := by unfold shA; rw [hp]; simp
    have st_bu : St ⟨#[92, 117]⟩ [92, 117] := ⟨rfl, by intro z hz; simp at hz; omega⟩
    have st_se : St ⟨#[59]⟩ [59] := ⟨rfl, by intro z hz; simp at hz; omega⟩
    rw [es, ← (St.app (St.app st_bu (St.of fb)) st_se).1]
    have zf : (strOfNums (fmt16 n)).size ≤ 17 := by rw [strOfNums_size]; exact fl
    have CF := hideR (fun W (bW : Below w.heap.size w W) => fmt_l n h W (hd.later bW))
    have C1 := hideR (isSeen_l n h.1 h.2)
    clear hd es st_bu st_se fb fl
    generalize strOfNums (fmt16 n) = X at *
    rcases plain_no hp with hs | ⟨hs, hm, hc⟩
    · rw [hs] at C1
      clear h hp hs
      go_enter Tryz.func62, Tryz.ntmps62
      go_wp2_with fail
      refine (unhideR C1 _).mono ?_
      rintro e w1 ⟨rfl, hw1⟩
      obtain rfl : w = w1 := hw1.symm
      clear hw1 C1
      go_wp2_with fail
      refine (unhideR CF _ (Below.refl _ _)).mono ?_
      rintro e w2 ⟨rfl, b2⟩
      clear CF
      go_wp2_with fail
      go_ret
      exact ⟨rfl, b2⟩
    · have C2 := hideR (fun W => standsInClass_l n (.inr hm) W)
      rw [hs] at C1
      rw [hc] at C2
      clear h hp hs hm hc
      go_enter Tryz.func62, Tryz.ntmps62
      go_wp2_with fail
      refine (unhideR C1 _).mono ?_
      rintro e w1 ⟨rfl, hw1⟩
      obtain rfl : w = w1 := hw1.symm
      clear hw1 C1
      go_wp2_with fail
      refine (unhideR C2 _).mono ?_
      rintro e w2 ⟨rfl, b2⟩
      clear C2
      go_wp2_with fail
      refine (unhideR CF _ b2).mono ?_
      rintro e w3 ⟨rfl, b3⟩
      clear CF
      go_wp2_with fail
      go_ret
      exact ⟨rfl, bthen b2 b3⟩
/-- ends of whatever ranges, where the library's table lies -/
theorem ender_any (w : World) (hd : Db w) (R : List (Int × Int)) (h : ∀ r ∈ R, fits r.1 ∧ fits r.2) : Enders w shA R :=
  ⟨fits, fun n hn => shA_bytes hn, h, fun n hn W bW => scalarT_l n hn W (hd.later bW)⟩
end Go.Proofs.YtdaadeohamkoiaaGreatDoor.T

/- Contracts of the document's own answers of layer 5: digits by sixteen, signs and HEXes as text. -/
namespace Go.Proofs.YtdaadeohamkoiaaGreatDoor.T
open Go.RowKit
set_option linter.unusedVariables false
set_option linter.unusedSimpArgs false

theorem cut_digit (m : Nat) (h : m < 16) : ∀ W, (Instr.slice 9 (.string ⟨#[48, 49, 50, 51, 52, 53, 54, 55, 56, 57, 97, 98, 99, 100, 101, 102]⟩) (some (.int .i64 (m : Int))) (some (.int .i64 ((m : Int) + 1))) none).run Tryz.prog W = .ok (.string (strOfNums [hexD (m : Int)])) W := by
  intro W
  have := st_digits.part (a := m) (b := m + 1) (by omega) (by simp; omega) W
  have e : (([48, 49, 50, 51, 52, 53, 54, 55, 56, 57, 97, 98, 99, 100, 101, 102] : List Int).drop m).take (m + 1 - m) = [hexD (m : Int)] := by
    rw [Nat.add_sub_cancel_left, List.drop_eq_getElem_cons (by simp; omega), List.take_succ_cons, List.take_zero]
    have := dig_hex ⟨m, h⟩
    simp only [List.getD] at this
    rw [List.getElem?_eq_getElem (by simp; omega)] at this
    simpa using this
  rw [e] at this
  exact this
theorem rem16 (n : Nat) : (n : Int) % 16 = ((n % 16 : Nat) : Int) := by omega
theorem quo16 (n : Nat) (h : (n : Int) ≤ 1114111) : wrap64 ((n : Int) / 16) = ((n / 16 : Nat) : Int) := by
  unfold wrap64
  omega
theorem cut_ex (m : Nat) (h : m < 16) : (⟨#[48, 49, 50, 51, 52, 53, 54, 55, 56, 57, 97, 98, 99, 100, 101, 102]⟩ : ByteArray).extract m (m + 1) = strOfNums [hexD (m : Int)] := by
  have := st_digits.sub m (m + 1)
  rw [this]
  congr 1
  rw [Nat.add_sub_cancel_left, List.drop_eq_getElem_cons (by simp; omega), List.take_succ_cons, List.take_zero]
  have := dig_hex ⟨m, h⟩
  simp only [List.getD] at this
  rw [List.getElem?_eq_getElem (by simp; omega)] at this
  simpa using this
/-- the digits ahead of those that are there -/
def aheadD (f : Nat) (q : Nat) : List Int := if q = 0 then [] else sixF f (q : Int)
theorem ahead_step {f q : Nat} (h : 0 < q) (hb : (q : Int) < 16 ^ (f + 1)) : ∃ g, aheadD f q = aheadD g (q / 16) ++ [hexD ((q % 16 : Nat) : Int)] ∧ ((q / 16 : Nat) : Int) < 16 ^ (g + 1) ∧ (f = g + 1 ∨ (f = 0 ∧ g = 0)) := by
  unfold aheadD
  rw [if_neg (by omega)]
  by_cases c : q < 16
  · refine ⟨f - 1, ?_, ?_, by omega⟩
    · rw [if_pos (by omega), six_last (by omega), show q % 16 = q by omega]; rfl
    · rw [show q / 16 = 0 by omega]
      have : (0 : Int) < 16 ^ (f - 1 + 1) := Int.pow_pos (by omega)
      simpa using this
  · obtain ⟨g, rfl, e, e2⟩ := six_step (f := f) (u := (q : Int)) (by omega) hb
    refine ⟨g, ?_, ?_, by omega⟩
    · rw [if_neg (by omega), e]
      congr 1
    · rw [show ((q / 16 : Nat) : Int) = (q : Int) / 16 by omega]; exact e2
set_option maxRecDepth 20000 in
set_option maxHeartbeats 2000000 in
theorem sixteen_1 (n : Nat) (h : n ≤ 1114111) (w : World) :
    Calls Tryz.prog 58 #[.int .i64 (n : Int), .int .i64 1] w fun e w' => e = .returned (.string (strOfNums (sixL (n : Int)))) ∧ w' = w := by
  have r1 := rem16 n
  have q1 := quo16 n (by omega)
  have cx := cut_ex (n % 16) (by omega)
  have cd := cut_digit (n % 16) (by omega)
  have hn0 : ((n / 16 : Nat) : Int) ≤ 69631 := by omega
  have wq := wrapI ((n / 16 : Nat) : Int) (by omega)
  have HE : Hid (sixL (n : Int) = aheadD 4 (n / 16) ++ [hexD ((n % 16 : Nat) : Int)]) := by
    show sixF 5 (n : Int) = _
    unfold aheadD
    by_cases c : n < 16
    · rw [if_pos (by omega), six_last (by omega), show n % 16 = n by omega]; rfl
    · rw [if_neg (by omega)]
      simp only [sixF]
      rw [if_neg (by omega)]
      congr 1
  have HQ : Hid (((n / 16 : Nat) : Int) < 16 ^ (4 + 1)) := by show _ < _; omega
  have hmd : 0 ≤ hexD ((n % 16 : Nat) : Int) ∧ hexD ((n % 16 : Nat) : Int) ≤ 255 := hexD_byte' (by omega) (by omega)
  have HMB := hideR hmd
  clear h
  generalize sixL (n : Int) = SX at *
  generalize n / 16 = q at *
  generalize n % 16 = m at *
  clear hmd
  generalize hexD (m : Int) = X at *
  go_enter Tryz.func58, Tryz.ntmps58
  go_wp2_with fail
  go_loopw [0, 6] (fun j v wr => ∃ (q f : Nat) (acc : List Int), (q : Int) ≤ 69631 ∧ j = .int .i64 (q : Int) ∧ v = .string (strOfNums acc) ∧ Hid (SX = aheadD f q ++ acc) ∧ Hid ((q : Int) < 16 ^ (f + 1)) ∧ 1 ≤ acc.length ∧ acc.length + f ≤ 6 ∧ (0 < q → acc.length + f ≤ 5) ∧ Hid (U.isBytes acc) ∧ wr = w) (fun j _ _ => (intOf j).toNat)
  case atStart => exact ⟨q, 4, [X], hn0, by (first | rfl | rw [q1]), rfl, HE, HQ, Nat.le_refl _, (by show 1 + 4 ≤ 6; omega), (fun _ => Nat.le_refl _), bytes_cons (unhideR HMB).1 (unhideR HMB).2 (fun z hz => by cases hz), rfl⟩
  case round =>
    obtain ⟨q', f, acc, hq', rfl, rfl, hE, hF, ha1, ha2, ha3, hab, hww⟩ := hrel
    obtain rfl : wr = w := hww
    clear r1 q1 cx cd wq hn0 HMB HE HQ
    have hsz : (strOfNums acc).size = acc.length := strOfNums_size _
    by_cases c : 0 < q'
    · obtain ⟨g, eg, hg, hfg⟩ := ahead_step c (unhideR hF)
      have r2 := rem16 q'
      have q2 := quo16 q' (by omega)
      have cx2 := cut_ex (q' % 16) (by omega)
      have cd2 := cut_digit (q' % 16) (by omega)
      have hc : (0 : Int) < (q' : Int) := by omega
      have hx : 0 ≤ hexD ((q' % 16 : Nat) : Int) ∧ hexD ((q' % 16 : Nat) : Int) ≤ 255 := hexD_byte' (by omega) (by omega)
      have hq16 : q' / 16 < q' := by omega
      have HDV : Hid ((q' : Int) / 16 = ((q' / 16 : Nat) : Int)) := by show _ = _; omega
      have hq17 : ((q' / 16 : Nat) : Int) ≤ 69631 := by omega
      have wq2 := wrapI ((q' / 16 : Nat) : Int) (by omega)
      have AB := bytes_cons hx.1 hx.2 (unhideR hab)
      have hy1 : U.isBytes [hexD ((q' % 16 : Nat) : Int)] := bytes_cons hx.1 hx.2 (fun z hz => by cases hz)
      have SA := (St.app (St.of hy1) (St.of (unhideR hab))).1
      have HSA := hideR SA
      have HAB := hideR AB
      have HG : Hid (SX = aheadD g (q' / 16) ++ (hexD ((q' % 16 : Nat) : Int) :: acc)) := by show _ = _; rw [unhideR hE, eg, List.append_assoc]; rfl
      have HGB := hideR hg
      have sz1 : (strOfNums acc).size ≤ 6 := by rw [hsz]; omega
      have sz2 : (strOfNums [hexD ((q' % 16 : Nat) : Int)]).size ≤ 1 := by rw [strOfNums_size]; exact Nat.le_refl _
      have hlen : acc.length ≤ 6 := by omega
      have ha4 := ha3 c
      have hgl : acc.length + 1 + g ≤ 6 ∧ (0 < q' / 16 → acc.length + 1 + g ≤ 5) := by
        rcases hfg with h | ⟨h1, h2⟩
        · omega
        · subst h1; subst h2
          have : (q' : Int) < 16 := by have := unhideR hF; simpa using this
          omega
      obtain ⟨hgl, hgm⟩ := hgl
      clear hE hF hab eg hg hx AB SA hfg hsz hy1 ha3
      generalize q' / 16 = q3 at *
      generalize q' % 16 = m3 at *
      generalize hexD (m3 : Int) = Y at *
      generalize strOfNums [Y] = YS at *
      generalize strOfNums acc = AX at *
      go_wp2_with fail
      go_roundw
      case rel => exact ⟨q3, g, Y :: acc, hq17, by (first | rfl | rw [q2] | rw [unhideR HDV]), by rw [unhideR HSA]; rfl, HG, HGB, (by rw [List.length_cons]; omega), (by rw [List.length_cons]; omega), (by rw [List.length_cons]; exact hgm), HAB, by trivial⟩
      case measure => (try rw [q2]); simp only [intOf]; (try rw [unhideR HDV]); omega
    · obtain rfl : q' = 0 := by omega
      have eS : SX = acc := by rw [unhideR hE]; rfl
      have hsI : ¬ (((strOfNums acc).size : Int) < 1) := by rw [hsz]; omega
      subst eS
      clear hE hF hab hsz
      generalize hAX : strOfNums SX = AX at *
      have HAX := hideR hAX
      clear hAX
      go_wp2_with fail
      go_ret
      exact ⟨by rw [unhideR HAX]; rfl, rfl⟩
/-- how much of a HEX is left to be told -/
def leftH : Value → Nat
  | .string s => 2 - s.size
  | _ => 0
set_option maxRecDepth 20000 in
set_option maxHeartbeats 2000000 in
theorem sixteen_2 (n : Nat) (h : n ≤ 255) (w : World) :
    Calls Tryz.prog 58 #[.int .i64 (n : Int), .int .i64 2] w fun e w' => e = .returned (.string (strOfNums (hex2 (n : Int)))) ∧ w' = w := by
  have r1 := rem16 n
  have q1 := quo16 n (by omega)
  have cx := cut_ex (n % 16) (by omega)
  have cd := cut_digit (n % 16) (by omega)
  have hq : n / 16 ≤ 15 := by omega
  have HDV : Hid ((n : Int) / 16 = ((n / 16 : Nat) : Int)) := by show _ = _; omega
  have hX : 0 ≤ hexD ((n % 16 : Nat) : Int) ∧ hexD ((n % 16 : Nat) : Int) ≤ 255 := hexD_byte' (by omega) (by omega)
  have e2 : hex2 (n : Int) = [hexD ((n / 16 : Nat) : Int), hexD ((n % 16 : Nat) : Int)] := by
    unfold hex2
    rw [show (n : Int) / 16 = ((n / 16 : Nat) : Int) by omega, show (n : Int) % 16 = ((n % 16 : Nat) : Int) by omega]
  have cx2 := cut_ex (n / 16) (by omega)
  have cd2 := cut_digit (n / 16) (by omega)
  have hY : 0 ≤ hexD ((n / 16 : Nat) : Int) ∧ hexD ((n / 16 : Nat) : Int) ≤ 255 := hexD_byte' (by omega) (by omega)
  have hbX : U.isBytes [hexD ((n % 16 : Nat) : Int)] := bytes_cons hX.1 hX.2 (fun z hz => by cases hz)
  have hbY : U.isBytes [hexD ((n / 16 : Nat) : Int)] := bytes_cons hY.1 hY.2 (fun z hz => by cases hz)
  have SA := (St.app (St.of hbY) (St.of hbX)).1
  have HSA := hideR SA
  have s1 : (strOfNums [hexD ((n % 16 : Nat) : Int)]).size = 1 := by rw [strOfNums_size]; rfl
  have s2 : (strOfNums ([hexD ((n / 16 : Nat) : Int)] ++ [hexD ((n % 16 : Nat) : Int)])).size = 2 := by rw [strOfNums_size]; rfl
  have s3 : (strOfNums [hexD ((n / 16 : Nat) : Int)]).size = 1 := by rw [strOfNums_size]; rfl
  rw [e2, show [hexD ((n / 16 : Nat) : Int), hexD ((n % 16 : Nat) : Int)] = [hexD ((n / 16 : Nat) : Int)] ++ [hexD ((n % 16 : Nat) : Int)] from rfl]
  clear h hX hY e2 SA hbX hbY
  generalize n / 16 = q at *
  generalize n % 16 = m at *
  generalize hexD (m : Int) = X at *
  generalize hexD (q : Int) = Y at *
  have HF := hideR (show strOfNums ([Y] ++ [X]) = strOfNums ([Y] ++ [X]) from rfl)
  generalize hT : strOfNums ([Y] ++ [X]) = TX at *
  generalize strOfNums [X] = XS at *
  generalize strOfNums [Y] = YS at *
  clear HF hT
  have qI : (q : Int) % 16 = (q : Int) := by omega
  have q0 : (q : Int) / 16 = 0 := by omega
  have HQI := hideR qI
  have HQ0 := hideR q0
  have hqI : (q : Int) ≤ 15 := by omega
  clear qI q0 hq
  go_enter Tryz.func58, Tryz.ntmps58
  go_wp2_with fail
  go_loopw [0, 6] (fun j v wr => ((j = .int .i64 (q : Int) ∧ v = .string XS) ∨ (j = .int .i64 0 ∧ v = .string TX)) ∧ wr = w) (fun _ v _ => leftH v)
  case atStart => exact ⟨.inl ⟨by (first | rfl | rw [q1] | rw [unhideR HDV]), rfl⟩, by trivial⟩
  case round =>
    obtain ⟨hcase, hww⟩ := hrel
    obtain rfl : wr = w := hww
    clear r1 q1 cx cd HDV
    rcases hcase with ⟨rfl, rfl⟩ | ⟨rfl, rfl⟩
    · have r2 := unhideR HQI
      have r3 := unhideR HQ0
      have z1 : XS.size ≤ 1 := by omega
      have z3 : YS.size ≤ 1 := by omega
      have t2 : (XS.size : Int) < 2 := by omega
      by_cases c : 0 < (q : Int)
      · go_wp2_with fail
        go_roundw
        case rel => exact ⟨.inr ⟨by (first | rfl | rw [r3]), by rw [unhideR HSA]⟩, by trivial⟩
        case measure => simp only [leftH]; rw [unhideR HSA, s1, s2]; omega
      · obtain rfl : q = 0 := by omega
        have cx3 := hideR (show (⟨#[48, 49, 50, 51, 52, 53, 54, 55, 56, 57, 97, 98, 99, 100, 101, 102]⟩ : ByteArray).extract 0 1 = YS from cx2)
        have z4 : ((⟨#[48, 49, 50, 51, 52, 53, 54, 55, 56, 57, 97, 98, 99, 100, 101, 102]⟩ : ByteArray).extract 0 1).size ≤ 1 := by rw [unhideR cx3]; exact z3
        go_wp2_with fail
        go_roundw
        case rel => exact ⟨.inr ⟨by (first | rfl | rw [r3]), by rw [← unhideR HSA, ← unhideR cx3]⟩, by trivial⟩
        case measure => simp only [leftH]; (first | rw [unhideR cx3, unhideR HSA, s1, s2] | rw [unhideR HSA, s1, s2]); omega
    · have t2 : ¬ ((TX.size : Int) < 2) := by omega
      clear cd2 cx2 HSA
      go_wp2_with fail
      go_ret
      exact ⟨rfl, rfl⟩
end Go.Proofs.YtdaadeohamkoiaaGreatDoor.T

/- Contracts of the document's own answers of layer 5: a SIGN, or a HEX, of a number. -/
namespace Go.Proofs.YtdaadeohamkoiaaGreatDoor.T
open Go.RowKit
set_option linter.unusedVariables false
set_option linter.unusedSimpArgs false

theorem conv1 (w : World) (x : Int) (hx : 0 ≤ x ∧ x ≤ 255) : (convert 55 9 (.slice (some ⟨w.heap.size, 0, none⟩) 1 1)).run Tryz.prog (w.alloc (.cells #[.int .u8 x] 5)) = .ok (.string (strOfNums [x])) (w.alloc (.cells #[.int .u8 x] 5)) := by
  have hb : Bs (w.alloc (.cells #[.int .u8 x] 5)) (some ⟨w.heap.size, 0, none⟩) 1 1 [x] := by
    refine ⟨rfl, Nat.le_refl _, by decide, fun z hz => by simp at hz; omega, fun i hi => ⟨_, _, rfl, ?_⟩⟩
    obtain rfl : i = 0 := by omega
    have e := heap_alloc_new w (.cells #[.int .u8 x] 5)
    simp only [World.cell?, e]
    rfl
  exact hb.str
theorem plain_not {n : Int} (h : plainB n = false) : n < 32 ∨ 126 < n ∨ n = 91 ∨ n = 93 ∨ n = 94 ∨ n = 45 ∨ n = 92 := by
  have : ¬ (32 ≤ n ∧ n ≤ 126 ∧ n ≠ 91 ∧ n ≠ 93 ∧ n ≠ 94 ∧ n ≠ 45 ∧ n ≠ 92) := fun c => by rw [plain_iff.2 c] at h; cases h
  omega
set_option maxRecDepth 20000 in
set_option maxHeartbeats 4000000 in
theorem shown_any (n : Nat) (b : Bool) (h : if b then n ≤ 255 else n ≤ 1114111) (w : World) :
    Calls Tryz.prog 93 #[.int .i64 (n : Int), .bool b] w fun e w' => e = .returned (.string (strOfNums (showO b (n : Int)))) ∧ Below w.heap.size w w' := by
  cases b with
  | true =>
    have C := hideR (sixteen_2 n h w)
    have e : showO true (n : Int) = hex2 (n : Int) := rfl
    rw [e]
    clear h e
    generalize strOfNums (hex2 (n : Int)) = X at *
    go_enter Tryz.func93, Tryz.ntmps93
    go_wp2_with fail
    refine (unhideR C).mono ?_
    rintro e w1 ⟨rfl, hw1⟩
    obtain rfl : w = w1 := hw1.symm
    clear C hw1
    go_wp2_with fail
    go_ret
    exact ⟨rfl, Below.refl _ _⟩
  | false =>
    cases hp : plainB (n : Int) with
    | true =>
      have e : showO false (n : Int) = [(n : Int)] := by unfold showO; simp [hp]
      have hn := plain_iff.1 hp
      obtain ⟨n1, n2, n3, n4, n5, n6, n7⟩ := hn
      have p3 : ((n : Int) != 91) = true := by simp [n3]
      have p4 : ((n : Int) != 93) = true := by simp [n4]
      have p5 : ((n : Int) != 94) = true := by simp [n5]
      have p6 : ((n : Int) != 45) = true := by simp [n6]
      have p7 : ((n : Int) != 92) = true := by simp [n7]
      have iw : IntKind.u8.wrap (n : Int) = (n : Int) := by simp [IntKind.wrap, IntKind.bits, IntKind.signed]; omega
      have cv := conv1 w (n : Int) (by omega)
      rw [e]
      clear e hp h
      generalize strOfNums [(n : Int)] = X at *
      generalize (n : Int) = z at *
      go_enter Tryz.func93, Tryz.ntmps93
      go_wp2_with fail
      go_ret
      exact ⟨rfl, Below.new1 _⟩
    | false =>
      have hn := plain_not hp
      have C := hideR (sixteen_1 n h w)
      have hb := sixL_ok (n := (n : Int)) (by omega) (by simp at h; omega)
      have e : showO false (n : Int) = ([92, 117] ++ sixL (n : Int)) ++ [59] := by unfold showO; simp [hp]
      have st_bu : St ⟨#[92, 117]⟩ [92, 117] := ⟨rfl, by intro z hz; simp at hz; omega⟩
      have st_se : St ⟨#[59]⟩ [59] := ⟨rfl, by intro z hz; simp at hz; omega⟩
      have sb : U.isBytes (sixL (n : Int)) := six_bytes 5 (n : Int) (by omega) (by simp at h; omega)
      rw [e, ← (St.app (St.app st_bu (St.of sb)) st_se).1]
      have zf : (strOfNums (sixL (n : Int))).size ≤ 6 := by rw [strOfNums_size]; exact hb.2.2.2
      clear e hp h hb st_bu st_se sb
      generalize strOfNums (sixL (n : Int)) = X at *
      have DONE : True := trivial
      rcases hn with c | c | c | c | c | c | c
      · generalize (n : Int) = z at *
        go_enter Tryz.func93, Tryz.ntmps93
        go_wp2_with fail
        refine (unhideR C).mono ?_
        rintro e w1 ⟨rfl, hw1⟩
        obtain rfl : w = w1 := hw1.symm
        clear C hw1
        go_wp2_with fail
        go_ret
        exact ⟨rfl, Below.refl _ _⟩
      · generalize (n : Int) = z at *
        go_enter Tryz.func93, Tryz.ntmps93
        go_wp2_with fail
        refine (unhideR C).mono ?_
        rintro e w1 ⟨rfl, hw1⟩
        obtain rfl : w = w1 := hw1.symm
        clear C hw1
        go_wp2_with fail
        go_ret
        exact ⟨rfl, Below.refl _ _⟩
      · rw [c] at C
        generalize (n : Int) = z at *
        subst c
        go_enter Tryz.func93, Tryz.ntmps93
        go_wp2_with fail
        refine (unhideR C).mono ?_
        rintro e w1 ⟨rfl, hw1⟩
        obtain rfl : w = w1 := hw1.symm
        clear C hw1
        go_wp2_with fail
        go_ret
        exact ⟨rfl, Below.refl _ _⟩
      · rw [c] at C
        generalize (n : Int) = z at *
        subst c
        go_enter Tryz.func93, Tryz.ntmps93
        go_wp2_with fail
        refine (unhideR C).mono ?_
        rintro e w1 ⟨rfl, hw1⟩
        obtain rfl : w = w1 := hw1.symm
        clear C hw1
        go_wp2_with fail
        go_ret
        exact ⟨rfl, Below.refl _ _⟩
      · rw [c] at C
        generalize (n : Int) = z at *
        subst c
        go_enter Tryz.func93, Tryz.ntmps93
        go_wp2_with fail
        refine (unhideR C).mono ?_
        rintro e w1 ⟨rfl, hw1⟩
        obtain rfl : w = w1 := hw1.symm
        clear C hw1
        go_wp2_with fail
        go_ret
        exact ⟨rfl, Below.refl _ _⟩
      · rw [c] at C
        generalize (n : Int) = z at *
        subst c
        go_enter Tryz.func93, Tryz.ntmps93
        go_wp2_with fail
        refine (unhideR C).mono ?_
        rintro e w1 ⟨rfl, hw1⟩
        obtain rfl : w = w1 := hw1.symm
        clear C hw1
        go_wp2_with fail
        go_ret
        exact ⟨rfl, Below.refl _ _⟩
      · rw [c] at C
        generalize (n : Int) = z at *
        subst c
        go_enter Tryz.func93, Tryz.ntmps93
        go_wp2_with fail
        refine (unhideR C).mono ?_
        rintro e w1 ⟨rfl, hw1⟩
        obtain rfl : w = w1 := hw1.symm
        clear C hw1
        go_wp2_with fail
        go_ret
        exact ⟨rfl, Below.refl _ _⟩
end Go.Proofs.YtdaadeohamkoiaaGreatDoor.T

/- Contracts of the document's own answers of layer 5: SIGNs, and HEXes, one by one. -/
namespace Go.Proofs.YtdaadeohamkoiaaGreatDoor.T
open Go.RowKit
set_option linter.unusedVariables false
set_option linter.unusedSimpArgs false

/-! ### SIGNs -/
set_option maxRecDepth 20000 in
set_option maxHeartbeats 6000000 in
theorem sign_any (s : ByteArray) (l : List Int) (h : St s l) (hs : l.length ≤ 1000000) (a : Nat) (ha : a ≤ 2000000) (w : World) :
    Calls Tryz.prog 139 #[.string s, .int .i64 a] w fun e w' => e = .returned (.tuple #[.int .i64 (pairR (signL (l.drop a))).1, .int .i64 (pairR (signL (l.drop a))).2]) ∧ Below w.heap.size w w' := by
  have hsz := h.size
  by_cases h0 : a < l.length
  · have x0 := h.ix h0
    have z0 := h.byte a
    have e0 : (l.drop a).getD 0 0 = l.getD a 0 := by rw [drop_getD, Nat.add_zero]
    have hne := drop_ne h0
    by_cases h92 : l.getD a 0 = 92
    · rw [h92] at x0
      by_cases h117 : l.getD (a + 1) 0 = 117
      · have hk1 : a + 1 < l.length := by
          by_cases hh : a + 1 < l.length
          · exact hh
          · exfalso
            simp [List.getD, List.getElem?_eq_none (Nat.le_of_not_lt hh)] at h117
        have x1 := h.ix hk1
        rw [h117, show ((a + 1 : Nat) : Int) = (a : Int) + 1 by omega] at x1
        have SE := hideR (fun v j (hd : digF 6 0 ((l.drop a).drop 2) = (v, j)) => sign_esc hne (by rw [e0]; exact h92) (by rw [drop_getD]; exact h117) hd)
        have CV := hideR (fun y (h0 : 0 ≤ y) (h1 : y ≤ 255) W => value_any y h0 h1 W)
        have CM := hideR (fun v W => refMay_any v W)
        have HS := hideR h
        clear h e0 hne h92 h117
        obtain ⟨R, hR⟩ : ∃ R, pairR (signL (l.drop a)) = R := ⟨_, rfl⟩
        rw [hR] at SE ⊢
        clear hR
        go_enter Tryz.func139, Tryz.ntmps139
        go_wp2_with fail
        clear x0 x1
        go_loopw [8, 9] (fun u q wr => ∃ (v : Int) (j : Nat), j ≤ 6 ∧ a + 2 + j ≤ l.length ∧ 0 ≤ v ∧ v ≤ bnd j ∧ u = .int .i64 v ∧ q = .int .i64 ((2 + j : Nat) : Int) ∧ Hid (digF 6 0 ((l.drop a).drop 2) = ((digF (6 - j) v (l.drop (a + 2 + j))).1, (digF (6 - j) v (l.drop (a + 2 + j))).2 + j)) ∧ wr = w) (fun _ q _ => 9 - (intOf q).toNat)
        case atStart => exact ⟨0, 0, by omega, by omega, by omega, by decide, rfl, rfl, by show _ = _; rw [List.drop_drop]; rfl, by trivial⟩
        case round =>
          obtain ⟨v, j, hj, hjl, v0, v1, rfl, rfl, hg, hww⟩ := hrel
          obtain rfl : wr = w := hww
          have hbj := bnd_le j (by omega)
          by_cases hin : a + 2 + j < l.length ∧ j < 6 ∧ 0 ≤ valI (l.getD (a + 2 + j) 0)
          · obtain ⟨i1, i2, i3⟩ := hin
            have x2 := (unhideR HS).ix i1
            have zz := (unhideR HS).byte (a + 2 + j)
            have vr := val_range (l.getD (a + 2 + j) 0)
            rw [show ((a + 2 + j : Nat) : Int) = (a : Int) + (2 + (j : Int)) by omega] at x2
            have dy := dig_yes (m := 6 - (j + 1)) (v := v) i1 i3
            rw [show 6 - (j + 1) + 1 = 6 - j by omega] at dy
            have hg2 : Hid (digF 6 0 ((l.drop a).drop 2) = ((digF (6 - (j + 1)) (16 * v + valI (l.getD (a + 2 + j) 0)) (l.drop (a + 2 + (j + 1)))).1, (digF (6 - (j + 1)) (16 * v + valI (l.getD (a + 2 + j) 0)) (l.drop (a + 2 + (j + 1)))).2 + (j + 1))) := by
              show _ = _
              rw [hg.out, dy, show a + 2 + j + 1 = a + 2 + (j + 1) by omega]
              simp only [Prod.mk.injEq, true_and]
              omega
            have hb2 : 16 * v + valI (l.getD (a + 2 + j) 0) ≤ bnd (j + 1) := by
              show _ ≤ 16 * bnd j + 15
              omega
            obtain ⟨z00, z01⟩ := zz
            have C1 := hideR (unhideR CV _ z00 z01)
            clear SE CM CV HS dy hg
            generalize valI (l.getD (a + 2 + j) 0) = d at *
            generalize l.getD (a + 2 + j) 0 = y at *
            go_wp2_with fail
            refine (unhideR C1 _).mono ?_
            rintro e w1 ⟨rfl, hw1⟩
            obtain rfl : wr = w1 := hw1.symm
            clear hw1
            go_wp2_with fail
            refine (unhideR C1 _).mono ?_
            rintro e w1 ⟨rfl, hw1⟩
            obtain rfl : wr = w1 := hw1.symm
            clear hw1 C1
            go_wp2_with fail
            go_roundw
            case rel => exact ⟨16 * v + d, j + 1, by omega, by omega, by omega, hb2, rfl, by go_num, hg2, by trivial⟩
            case measure => simp [intOf]; omega
          · have hd : digF 6 0 ((l.drop a).drop 2) = (v, j) := by
              rw [hg.out]
              by_cases i1 : a + 2 + j < l.length
              · by_cases i2 : j < 6
                · rw [dig_no (show valI (l.getD (a + 2 + j) 0) < 0 by
                    by_cases hh : 0 ≤ valI (l.getD (a + 2 + j) 0)
                    · exact absurd ⟨i1, i2, hh⟩ hin
                    · omega)]
                  simp
                · obtain rfl : j = 6 := by omega
                  simp [digF]
              · rw [dig_over (by omega)]
                simp
            have se := unhideR SE v j hd
            have cm := unhideR CM v
            rw [drop_getD, show a + (2 + j) = a + 2 + j by omega] at se
            have C2 := hideR cm
            have SE2 := hideR se
            clear SE CM hg hd cm se
            by_cases i1 : a + 2 + j < l.length
            · have x2 := (unhideR HS).ix i1
              have zz := (unhideR HS).byte (a + 2 + j)
              rw [show ((a + 2 + j : Nat) : Int) = (a : Int) + (2 + (j : Int)) by omega] at x2
              obtain ⟨z00, z01⟩ := zz
              have C1 := hideR (unhideR CV _ z00 z01)
              have hin2 : j < 6 → valI (l.getD (a + 2 + j) 0) < 0 := fun i2 => by
                by_cases hh : 0 ≤ valI (l.getD (a + 2 + j) 0)
                · exact absurd ⟨i1, i2, hh⟩ hin
                · omega
              clear CV HS hin
              generalize valI (l.getD (a + 2 + j) 0) = d at *
              generalize l.getD (a + 2 + j) 0 = y at *
              by_cases i2 : j < 6
              · have hd0 := hin2 i2
                clear hin2
                by_cases f1 : j = 0
                · subst f1
                  rw [show (a : Int) + (2 + ((0 : Nat) : Int)) = (a : Int) + 2 by omega] at x2
                  have se := unhideR SE2
                  rw [if_pos (.inl rfl)] at se
                  have SE3 := hideR se
                  clear SE2 se
                  go_wp2_with fail
                  refine (unhideR C1 _).mono ?_
                  rintro e w1 ⟨rfl, hw1⟩
                  obtain rfl : wr = w1 := hw1.symm
                  clear hw1 C1
                  go_wp2_with fail
                  refine (unhideR C2 _).mono ?_
                  rintro e w1 ⟨rfl, hw1⟩
                  obtain rfl : wr = w1 := hw1.symm
                  clear hw1 C2
                  go_wp2_with fail
                  go_ret2
                  exact ⟨by rw [unhideR SE3]; rfl, Below.refl _ _⟩
                · have fj : ((2 : Int) + (j : Int) == 2) = false := by rw [beq_eq_false_iff_ne]; omega
                  cases f2 : U.mayB v with
                  | false =>
                    have se := unhideR SE2
                    rw [if_pos (.inr (.inl f2))] at se
                    have SE3 := hideR se
                    rw [f2] at C2
                    clear SE2 se f2
                    go_wp2_with fail
                    refine (unhideR C1 _).mono ?_
                    rintro e w1 ⟨rfl, hw1⟩
                    obtain rfl : wr = w1 := hw1.symm
                    clear hw1 C1
                    go_wp2_with fail
                    refine (unhideR C2 _).mono ?_
                    rintro e w1 ⟨rfl, hw1⟩
                    obtain rfl : wr = w1 := hw1.symm
                    clear hw1 C2
                    go_wp2_with fail
                    go_ret2
                    exact ⟨by rw [unhideR SE3]; rfl, Below.refl _ _⟩
                  | true =>
                    rw [f2] at C2
                    by_cases f3 : y = 59
                    · have se := unhideR SE2
                      rw [if_neg (by rintro (c | c | c); exact f1 c; rw [f2] at c; cases c; exact c f3)] at se
                      have SE3 := hideR se
                      subst f3
                      clear SE2 se f2
                      go_wp2_with fail
                      refine (unhideR C1 _).mono ?_
                      rintro e w1 ⟨rfl, hw1⟩
                      obtain rfl : wr = w1 := hw1.symm
                      clear hw1 C1
                      go_wp2_with fail
                      refine (unhideR C2 _).mono ?_
                      rintro e w1 ⟨rfl, hw1⟩
                      obtain rfl : wr = w1 := hw1.symm
                      clear hw1 C2
                      go_wp2_with fail
                      go_ret2
                      refine ⟨?_, Below.refl _ _⟩
                      rw [unhideR SE3]
                      simp only
                      rw [show ((j + 3 : Nat) : Int) = 2 + (j : Int) + 1 by omega]
                      rfl
                    · have se := unhideR SE2
                      rw [if_pos (.inr (.inr f3))] at se
                      have SE3 := hideR se
                      have ey : (y == 59) = false := by rw [beq_eq_false_iff_ne]; exact f3
                      have ey2 : (y != 59) = true := by rw [bne, ey]; rfl
                      clear SE2 se f2
                      go_wp2_with fail
                      refine (unhideR C1 _).mono ?_
                      rintro e w1 ⟨rfl, hw1⟩
                      obtain rfl : wr = w1 := hw1.symm
                      clear hw1 C1
                      go_wp2_with fail
                      refine (unhideR C2 _).mono ?_
                      rintro e w1 ⟨rfl, hw1⟩
                      obtain rfl : wr = w1 := hw1.symm
                      clear hw1 C2
                      go_wp2_with fail
                      go_ret2
                      exact ⟨by rw [unhideR SE3]; rfl, Below.refl _ _⟩
              · have hj6 : ¬ j < 6 := i2
                clear hin2 C1
                by_cases f1 : j = 0
                · exact absurd f1 (by omega)
                · have fj : ((2 : Int) + (j : Int) == 2) = false := by rw [beq_eq_false_iff_ne]; omega
                  cases f2 : U.mayB v with
                  | false =>
                    have se := unhideR SE2
                    rw [if_pos (.inr (.inl f2))] at se
                    have SE3 := hideR se
                    rw [f2] at C2
                    clear SE2 se f2
                    go_wp2_with fail
                    refine (unhideR C2 _).mono ?_
                    rintro e w1 ⟨rfl, hw1⟩
                    obtain rfl : wr = w1 := hw1.symm
                    clear hw1 C2
                    go_wp2_with fail
                    go_ret2
                    exact ⟨by rw [unhideR SE3]; rfl, Below.refl _ _⟩
                  | true =>
                    rw [f2] at C2
                    by_cases f3 : y = 59
                    · have se := unhideR SE2
                      rw [if_neg (by rintro (c | c | c); exact f1 c; rw [f2] at c; cases c; exact c f3)] at se
                      have SE3 := hideR se
                      subst f3
                      clear SE2 se f2
                      go_wp2_with fail
                      refine (unhideR C2 _).mono ?_
                      rintro e w1 ⟨rfl, hw1⟩
                      obtain rfl : wr = w1 := hw1.symm
                      clear hw1 C2
                      go_wp2_with fail
                      go_ret2
                      refine ⟨?_, Below.refl _ _⟩
                      rw [unhideR SE3]
                      simp only
                      rw [show ((j + 3 : Nat) : Int) = 2 + (j : Int) + 1 by omega]
                      rfl
                    · have se := unhideR SE2
                      rw [if_pos (.inr (.inr f3))] at se
                      have SE3 := hideR se
                      have ey : (y == 59) = false := by rw [beq_eq_false_iff_ne]; exact f3
                      have ey2 : (y != 59) = true := by rw [bne, ey]; rfl
                      clear SE2 se f2
                      go_wp2_with fail
                      refine (unhideR C2 _).mono ?_
                      rintro e w1 ⟨rfl, hw1⟩
                      obtain rfl : wr = w1 := hw1.symm
                      clear hw1 C2
                      go_wp2_with fail
                      go_ret2
                      exact ⟨by rw [unhideR SE3]; rfl, Below.refl _ _⟩
            · have y0 : l.getD (a + 2 + j) 0 = 0 := by simp [List.getD, List.getElem?_eq_none (Nat.le_of_not_lt i1)]
              have hl2 : l.length = a + 2 + j := by omega
              rw [y0] at SE2
              have se := unhideR SE2
              rw [if_pos (.inr (.inr (by decide)))] at se
              have SE3 := hideR se
              clear CV HS hin SE2 se
              by_cases f1 : j = 0
              · subst f1
                go_wp2_with fail
                refine (unhideR C2 _).mono ?_
                rintro e w1 ⟨rfl, hw1⟩
                obtain rfl : wr = w1 := hw1.symm
                clear hw1 C2
                go_wp2_with fail
                go_ret2
                exact ⟨by rw [unhideR SE3]; rfl, Below.refl _ _⟩
              · have fj : ((2 : Int) + (j : Int) == 2) = false := by rw [beq_eq_false_iff_ne]; omega
                cases f2 : U.mayB v with
                | false =>
                  rw [f2] at C2
                  clear f2
                  go_wp2_with fail
                  refine (unhideR C2 _).mono ?_
                  rintro e w1 ⟨rfl, hw1⟩
                  obtain rfl : wr = w1 := hw1.symm
                  clear hw1 C2
                  go_wp2_with fail
                  go_ret2
                  exact ⟨by rw [unhideR SE3]; rfl, Below.refl _ _⟩
                | true =>
                  rw [f2] at C2
                  clear f2
                  go_wp2_with fail
                  refine (unhideR C2 _).mono ?_
                  rintro e w1 ⟨rfl, hw1⟩
                  obtain rfl : wr = w1 := hw1.symm
                  clear hw1 C2
                  go_wp2_with fail
                  go_ret2
                  exact ⟨by rw [unhideR SE3]; rfl, Below.refl _ _⟩
      · rw [sign_nou hne (by rw [e0]; exact h92) (by rw [drop_getD]; exact h117)]
        by_cases hk1 : a + 1 < l.length
        · have x1 := h.ix hk1
          rw [show ((a + 1 : Nat) : Int) = (a : Int) + 1 by omega] at x1
          generalize l.getD (a + 1) 0 = y at *
          have ey : (y == 117) = false := by rw [beq_eq_false_iff_ne]; exact h117
          have ey2 : (y != 117) = true := by rw [bne, ey]; rfl
          clear h e0 hne h92
          go_enter Tryz.func139, Tryz.ntmps139
          go_wp2_with fail
          go_ret2
          exact ⟨rfl, Below.refl _ _⟩
        · clear h e0 hne h92
          go_enter Tryz.func139, Tryz.ntmps139
          go_wp2_with fail
          go_ret2
          exact ⟨rfl, Below.refl _ _⟩
    · have sr := sign_raw hne (by rw [e0]; exact h92)
      have ez : (l.getD a 0 == 92) = false := by rw [beq_eq_false_iff_ne]; exact h92
      have ez2 : (l.getD a 0 != 92) = true := by rw [bne, ez]; rfl
      have sl := h.tail (a := a) (by omega)
      have hst : St (strOfNums (l.drop a)) (l.drop a) := St.of (U.isBytes_drop h.2 a)
      have hdl : (l.drop a).length = l.length - a := List.length_drop
      have kc := fun W => run_bytes_of_string (P := Tryz.prog) W 9 55 5 (strOfNums (l.drop a)) Tryz.underlying9 Tryz.underlying55 Tryz.underlying5
      have BC := hideR (fun W fr => bs_conv W hst (by unfold maxLen; omega) fr)
      have NX : nx (l.drop a) 0 = U.nextL (l.drop a) := by unfold nx; rw [if_neg (by rw [hdl]; omega)]; rfl
      have CN := hideR (fun W x c (hB : Bs W x (strOfNums (l.drop a)).size c (l.drop a)) => refNext_any x _ c (l.drop a) W hB 0)
      rw [NX] at CN
      have nb := U.next_bound (U.isBytes_drop h.2 a) hne
      rw [sr]
      clear sr NX hst h e0 hne h92
      generalize strOfNums (l.drop a) = S2 at *
      generalize l.getD a 0 = y at *
      obtain ⟨⟨x, m⟩, hp⟩ : ∃ p, U.nextL (l.drop a) = p := ⟨_, rfl⟩
      rw [hp] at CN nb ⊢
      simp only at CN nb ⊢
      clear hp
      by_cases c1 : x < 32
      · rw [if_pos (.inl c1)]
        go_enter Tryz.func139, Tryz.ntmps139
        go_wp2_with fail
        refine (unhideR CN _ _ _ (unhideR BC _ _)).mono ?_
        rintro e w1 ⟨rfl, hb1⟩
        have B1 : Below w.heap.size w w1 := (new_drew _).trans (hb1.mono (by simp))
        clear CN BC hb1 kc sl
        go_wp2_with fail
        go_ret2
        exact ⟨rfl, B1⟩
      · by_cases c2 : x = 91
        · rw [if_pos (.inr (.inl c2))]
          subst c2
          go_enter Tryz.func139, Tryz.ntmps139
          go_wp2_with fail
          refine (unhideR CN _ _ _ (unhideR BC _ _)).mono ?_
          rintro e w1 ⟨rfl, hb1⟩
          have B1 : Below w.heap.size w w1 := (new_drew _).trans (hb1.mono (by simp))
          clear CN BC hb1 kc sl
          go_wp2_with fail
          go_ret2
          exact ⟨rfl, B1⟩
        · by_cases c3 : x = 93
          · rw [if_pos (.inr (.inr (.inl c3)))]
            subst c3
            go_enter Tryz.func139, Tryz.ntmps139
            go_wp2_with fail
            refine (unhideR CN _ _ _ (unhideR BC _ _)).mono ?_
            rintro e w1 ⟨rfl, hb1⟩
            have B1 : Below w.heap.size w w1 := (new_drew _).trans (hb1.mono (by simp))
            clear CN BC hb1 kc sl
            go_wp2_with fail
            go_ret2
            exact ⟨rfl, B1⟩
          · by_cases c4 : x = 94
            · rw [if_pos (.inr (.inr (.inr (.inl c4))))]
              subst c4
              go_enter Tryz.func139, Tryz.ntmps139
              go_wp2_with fail
              refine (unhideR CN _ _ _ (unhideR BC _ _)).mono ?_
              rintro e w1 ⟨rfl, hb1⟩
              have B1 : Below w.heap.size w w1 := (new_drew _).trans (hb1.mono (by simp))
              clear CN BC hb1 kc sl
              go_wp2_with fail
              go_ret2
              exact ⟨rfl, B1⟩
            · by_cases c5 : x = 45
              · rw [if_pos (.inr (.inr (.inr (.inr c5))))]
                subst c5
                go_enter Tryz.func139, Tryz.ntmps139
                go_wp2_with fail
                refine (unhideR CN _ _ _ (unhideR BC _ _)).mono ?_
                rintro e w1 ⟨rfl, hb1⟩
                have B1 : Below w.heap.size w w1 := (new_drew _).trans (hb1.mono (by simp))
                clear CN BC hb1 kc sl
                go_wp2_with fail
                go_ret2
                exact ⟨rfl, B1⟩
              · rw [if_neg (by omega)]
                have d2 : (x == 91) = false := by rw [beq_eq_false_iff_ne]; exact c2
                have d3 : (x == 93) = false := by rw [beq_eq_false_iff_ne]; exact c3
                have d4 : (x == 94) = false := by rw [beq_eq_false_iff_ne]; exact c4
                have d5 : (x == 45) = false := by rw [beq_eq_false_iff_ne]; exact c5
                go_enter Tryz.func139, Tryz.ntmps139
                go_wp2_with fail
                refine (unhideR CN _ _ _ (unhideR BC _ _)).mono ?_
                rintro e w1 ⟨rfl, hb1⟩
                have B1 : Below w.heap.size w w1 := (new_drew _).trans (hb1.mono (by simp))
                clear CN BC hb1 kc sl
                go_wp2_with fail
                go_ret2
                exact ⟨rfl, B1⟩
  · rw [sign_out (List.drop_of_length_le (by omega))]
    go_enter Tryz.func139, Tryz.ntmps139
    go_wp2_with fail
    go_ret2
    exact ⟨rfl, Below.refl _ _⟩

end Go.Proofs.YtdaadeohamkoiaaGreatDoor.T

/- Contracts of the document's own answers of layer 2 (exegeteref02). -/
namespace Go.Proofs.YtdaadeohamkoiaaGreatDoor
open Go.RowKit
set_option linter.unusedVariables false

set_option maxRecDepth 20000 in
set_option maxHeartbeats 1000000 in
theorem refHas_any (a : Option Addr) (len cap : Nat) (l : List (Int × Int)) (n : Int) (w : World) (h : Rs w a len cap l) :
    Calls Tryz.prog 163 #[.slice a len cap, .int .i64 n] w fun e w' => e = .returned (.bool (G.hasB l n)) ∧ w' = w := by
  have hl := h.hlen
  have hmax := h.hmax
  have hcap := h.hcap
  unfold maxLen at hmax
  go_enter Tryz.func163, Tryz.ntmps163
  go_wp2
  go_loop [5] (fun i => ∃ (k : Nat), k ≤ len ∧ i = .int .i64 k ∧ Hid (G.hasB (l.drop k) n = G.hasB l n)) (fun i => len - (intOf i).toNat)
  case atStart => exact ⟨0, Nat.zero_le _, rfl, by show G.hasB l n = G.hasB l n; rfl⟩
  case round =>
    obtain ⟨k, hk, rfl, hn⟩ := hrel
    by_cases hlt : k < len
    · obtain ⟨b, off, rfl, hr⟩ := h.open (by omega)
      obtain ⟨lo, hi, hd, -, f1, f2, c0, c1⟩ := hr.at k hlt
      have hd' : Hid (l.drop k = (lo, hi) :: l.drop (k + 1)) := hd
      clear hd hr f1 f2 h
      by_cases t1 : lo ≤ n
      · by_cases t2 : n ≤ hi
        · have fin : Hid (G.hasB l n = true) := by
            show G.hasB l n = true
            rw [← hn.out, hd'.out, G.hasB_cons]; simp [t1, t2]
          go_wp2
          go_ret
          exact ⟨ret_bool fin.out.symm, rfl⟩
        · have fin : Hid (G.hasB (l.drop (k + 1)) n = G.hasB l n) := by
            show _ = _
            rw [← hn.out, hd'.out, G.hasB_cons]; simp [t2]
          have t2' : hi < n := by omega
          go_wp2
          go_round
          case rel => exact ⟨k + 1, by omega, by go_num, fin⟩
          case measure => simp [intOf]; omega
      · have fin : Hid (G.hasB (l.drop (k + 1)) n = G.hasB l n) := by
          show _ = _
          rw [← hn.out, hd'.out, G.hasB_cons]; simp [t1]
        have t1' : n < lo := by omega
        go_wp2
        go_round
        case rel => exact ⟨k + 1, by omega, by go_num, fin⟩
        case measure => simp [intOf]; omega
    · have fin : Hid (G.hasB l n = false) := by
        show _ = _
        rw [← hn.out, List.drop_of_length_le (by omega)]; rfl
      clear h
      go_wp2
      go_ret
      exact ⟨ret_bool fin.out.symm, rfl⟩

/-- what the border says of the first k ranges -/
def bdI (l : List (Int × Int)) (n : Int) (k : Nat) (r : Int) : Prop := ∀ p ∈ l.take k, (n < p.1 → r ≤ p.1) ∧ (n ≤ p.2 → r ≤ p.2 + 1)

theorem bdI_step {l : List (Int × Int)} {n : Int} {k : Nat} {r r' lo hi : Int} (h : bdI l n k r) (ht : l.take (k + 1) = l.take k ++ [(lo, hi)]) (hr : r' ≤ r) (h1 : n < lo → r' ≤ lo) (h2 : n ≤ hi → r' ≤ hi + 1) : bdI l n (k + 1) r' := by
  intro p hp
  rw [ht] at hp
  rcases List.mem_append.1 hp with hp | hp
  · have := h p hp
    exact ⟨fun x => Int.le_trans hr (this.1 x), fun x => Int.le_trans hr (this.2 x)⟩
  · simp at hp; subst hp; exact ⟨h1, h2⟩

theorem bdI_same {l : List (Int × Int)} {n : Int} {k : Nat} {r : Int} (h : bdI l n k r) (hk : l.length ≤ k) {m : Int} (h1 : n ≤ m) (h2 : m < r) : G.hasB l m = G.hasB l n := by
  unfold bdI at h
  rw [List.take_of_length_le hk] at h
  unfold G.hasB
  rw [Bool.eq_iff_iff, List.any_eq_true, List.any_eq_true]
  constructor
  · rintro ⟨p, hp, hx⟩
    refine ⟨p, hp, ?_⟩
    have := h p hp
    simp only [Bool.and_eq_true, decide_eq_true_eq] at *
    by_cases c : n < p.1
    · have := this.1 c; omega
    · omega
  · rintro ⟨p, hp, hx⟩
    refine ⟨p, hp, ?_⟩
    have := h p hp
    simp only [Bool.and_eq_true, decide_eq_true_eq] at *
    have := this.2 hx.2
    omega

set_option maxRecDepth 20000 in
set_option maxHeartbeats 1000000 in
theorem refBorder_any (a : Option Addr) (len cap : Nat) (l : List (Int × Int)) (n best : Int) (w : World) (h : Rs w a len cap l) (h0 : 0 ≤ n) (h1 : n < best) (h2 : best ≤ 1114112) :
    Calls Tryz.prog 140 #[.slice a len cap, .int .i64 n, .int .i64 best] w fun e w' => (∃ r : Int, e = .returned (.int .i64 r) ∧ n < r ∧ r ≤ best ∧ ∀ m, n ≤ m → m < r → G.hasB l m = G.hasB l n) ∧ w' = w := by
  have hl := h.hlen
  have hmax := h.hmax
  have hcap := h.hcap
  unfold maxLen at hmax
  go_enter Tryz.func140, Tryz.ntmps140
  go_wp2
  go_loop [2, 7] (fun b i => ∃ (k : Nat) (r : Int), k ≤ len ∧ i = .int .i64 k ∧ b = .int .i64 r ∧ n < r ∧ r ≤ best ∧ Hid (bdI l n k r)) (fun _ i => len - (intOf i).toNat)
  case atStart => exact ⟨0, best, Nat.zero_le _, rfl, rfl, h1, Int.le_refl _, fun p hp => by simp at hp⟩
  case round =>
    obtain ⟨k, r, hk, rfl, rfl, hr0, hr1, hn⟩ := hrel
    by_cases hlt : k < len
    · obtain ⟨b, off, rfl, hr⟩ := h.open (by omega)
      obtain ⟨lo, hi, -, ht, f1, f2, c0, c1⟩ := hr.at k hlt
      unfold fits at f1 f2
      obtain ⟨f1a, f1b⟩ := f1
      obtain ⟨f2a, f2b⟩ := f2
      have ht' := hideR ht
      clear ht hr h
      have key : ∃ r1, ((n < lo ∧ lo < r ∧ r1 = lo) ∨ (n < lo ∧ r ≤ lo ∧ r1 = r) ∨ (lo ≤ n ∧ r1 = r)) := by
        by_cases x1 : n < lo
        · by_cases x2 : lo < r
          · exact ⟨lo, .inl ⟨x1, x2, rfl⟩⟩
          · exact ⟨r, .inr (.inl ⟨x1, by omega, rfl⟩)⟩
        · exact ⟨r, .inr (.inr ⟨by omega, rfl⟩)⟩
      obtain ⟨r1, key⟩ := key
      rcases key with ⟨x1, x2, rfl⟩ | ⟨x1, x2, rfl⟩ | ⟨x1, rfl⟩
      · by_cases y1 : n ≤ hi
        · by_cases y2 : hi < r1 - 1
          · have st := hideR (bdI_step (r' := hi + 1) hn.out (unhideR ht') (by omega) (by omega) (by omega))
            go_wp2
            go_round
            case rel => exact ⟨k + 1, hi + 1, by omega, by go_num, rfl, by omega, by omega, unhideR st⟩
            case measure => simp [intOf]; omega
          · have st := hideR (bdI_step (r' := r1) hn.out (unhideR ht') (by omega) (by omega) (by omega))
            have y2' : r1 - 1 ≤ hi := by omega
            go_wp2
            go_round
            case rel => exact ⟨k + 1, r1, by omega, by go_num, rfl, by omega, by omega, unhideR st⟩
            case measure => simp [intOf]; omega
        · have st := hideR (bdI_step (r' := r1) hn.out (unhideR ht') (by omega) (by omega) (by omega))
          have y1' : hi < n := by omega
          go_wp2
          go_round
          case rel => exact ⟨k + 1, r1, by omega, by go_num, rfl, by omega, by omega, unhideR st⟩
          case measure => simp [intOf]; omega
      · by_cases y1 : n ≤ hi
        · by_cases y2 : hi < r1 - 1
          · have st := hideR (bdI_step (r' := hi + 1) hn.out (unhideR ht') (by omega) (by omega) (by omega))
            go_wp2
            go_round
            case rel => exact ⟨k + 1, hi + 1, by omega, by go_num, rfl, by omega, by omega, unhideR st⟩
            case measure => simp [intOf]; omega
          · have st := hideR (bdI_step (r' := r1) hn.out (unhideR ht') (by omega) (by omega) (by omega))
            have y2' : r1 - 1 ≤ hi := by omega
            go_wp2
            go_round
            case rel => exact ⟨k + 1, r1, by omega, by go_num, rfl, by omega, by omega, unhideR st⟩
            case measure => simp [intOf]; omega
        · have st := hideR (bdI_step (r' := r1) hn.out (unhideR ht') (by omega) (by omega) (by omega))
          have y1' : hi < n := by omega
          go_wp2
          go_round
          case rel => exact ⟨k + 1, r1, by omega, by go_num, rfl, by omega, by omega, unhideR st⟩
          case measure => simp [intOf]; omega
      · by_cases y1 : n ≤ hi
        · by_cases y2 : hi < r1 - 1
          · have st := hideR (bdI_step (r' := hi + 1) hn.out (unhideR ht') (by omega) (by omega) (by omega))
            go_wp2
            go_round
            case rel => exact ⟨k + 1, hi + 1, by omega, by go_num, rfl, by omega, by omega, unhideR st⟩
            case measure => simp [intOf]; omega
          · have st := hideR (bdI_step (r' := r1) hn.out (unhideR ht') (by omega) (by omega) (by omega))
            have y2' : r1 - 1 ≤ hi := by omega
            go_wp2
            go_round
            case rel => exact ⟨k + 1, r1, by omega, by go_num, rfl, by omega, by omega, unhideR st⟩
            case measure => simp [intOf]; omega
        · have st := hideR (bdI_step (r' := r1) hn.out (unhideR ht') (by omega) (by omega) (by omega))
          have y1' : hi < n := by omega
          go_wp2
          go_round
          case rel => exact ⟨k + 1, r1, by omega, by go_num, rfl, by omega, by omega, unhideR st⟩
          case measure => simp [intOf]; omega
    · have hn' := hn.out
      go_wp2
      go_ret
      exact ⟨⟨r, rfl, hr0, hr1, fun m m1 m2 => bdI_same hn' (by omega) m1 m2⟩, rfl⟩

/-- what is asked of a number -/
def isP (how high : Int) (x y : Bool) (n : Int) : Bool := if how = 0 then x || y else if how = 1 then x && y else if how = 2 then x && !y else !x && decide (n ≤ high)

set_option maxRecDepth 20000 in
set_option maxHeartbeats 2000000 in
theorem refIs_any (a : Option Addr) (la ca : Nat) (A : List (Int × Int)) (b : Option Addr) (lb cb : Nat) (B : List (Int × Int)) (how high n : Int) (w : World) (ha : Rs w a la ca A) (hb : Rs w b lb cb B) :
    Calls Tryz.prog 141 #[.slice a la ca, .slice b lb cb, .int .i64 how, .int .i64 high, .int .i64 n] w fun e w' => e = .returned (.bool (isP how high (G.hasB A n) (G.hasB B n) n)) ∧ w' = w := by
  have c1 := refHas_any a la ca A n w ha
  have c2 := refHas_any b lb cb B n w hb
  clear ha hb
  generalize G.hasB A n = x at *
  generalize G.hasB B n = y at *
  have C1 := hideR c1
  have C2 := hideR c2
  clear c1 c2
  have walk : ∀ r : Bool, isP how high x y n = r → Calls Tryz.prog 141 #[.slice a la ca, .slice b lb cb, .int .i64 how, .int .i64 high, .int .i64 n] w fun e w' => e = .returned (.bool r) ∧ w' = w := by
    intro r hr
    unfold isP at hr
    by_cases h0 : how = 0
    · rw [if_pos h0] at hr
      have g0 : (how == 0) = true := by rw [beq_iff_eq]; exact h0
      clear h0
      cases x
      all_goals
        subst hr
        go_enter Tryz.func141, Tryz.ntmps141
        go_wp2_with fail
        refine (unhideR C1).mono ?_
        rintro e w' ⟨rfl, rfl⟩
        go_wp2_with fail
        refine (unhideR C2).mono ?_
        rintro e w' ⟨rfl, rfl⟩
        go_wp2_with fail
        go_ret
        exact ⟨ret_bool (by simp), rfl⟩
    · rw [if_neg h0] at hr
      have g0 : (how == 0) = false := by rw [beq_eq_false_iff_ne]; exact h0
      clear h0
      by_cases h1 : how = 1
      · rw [if_pos h1] at hr
        have g1 : (how == 1) = true := by rw [beq_iff_eq]; exact h1
        clear h1
        cases x
        all_goals
          subst hr
          go_enter Tryz.func141, Tryz.ntmps141
          go_wp2_with fail
          refine (unhideR C1).mono ?_
          rintro e w' ⟨rfl, rfl⟩
          go_wp2_with fail
          refine (unhideR C2).mono ?_
          rintro e w' ⟨rfl, rfl⟩
          go_wp2_with fail
          go_ret
          exact ⟨ret_bool (by simp), rfl⟩
      · rw [if_neg h1] at hr
        have g1 : (how == 1) = false := by rw [beq_eq_false_iff_ne]; exact h1
        clear h1
        by_cases h2 : how = 2
        · rw [if_pos h2] at hr
          have g2 : (how == 2) = true := by rw [beq_iff_eq]; exact h2
          clear h2
          cases x
          all_goals
            subst hr
            go_enter Tryz.func141, Tryz.ntmps141
            go_wp2_with fail
            refine (unhideR C1).mono ?_
            rintro e w' ⟨rfl, rfl⟩
            go_wp2_with fail
            refine (unhideR C2).mono ?_
            rintro e w' ⟨rfl, rfl⟩
            go_wp2_with fail
            go_ret
            exact ⟨ret_bool (by simp), rfl⟩
        · rw [if_neg h2] at hr
          have g2 : (how == 2) = false := by rw [beq_eq_false_iff_ne]; exact h2
          clear h2
          cases x
          all_goals
            subst hr
            go_enter Tryz.func141, Tryz.ntmps141
            go_wp2_with fail
            refine (unhideR C1).mono ?_
            rintro e w' ⟨rfl, rfl⟩
            go_wp2_with fail
            refine (unhideR C2).mono ?_
            rintro e w' ⟨rfl, rfl⟩
            go_wp2_with fail
            go_ret
            exact ⟨ret_bool (by simp), rfl⟩
  exact walk _ rfl

end Go.Proofs.YtdaadeohamkoiaaGreatDoor

/- The contract of the document's way to tell ranges in order: border by border. -/
namespace Go.Proofs.YtdaadeohamkoiaaGreatDoor
open Go.RowKit
set_option linter.unusedVariables false

/-- what is told of the numbers below n -/
structure OI (p : Int → Bool) (n : Int) (out : List (Int × Int)) : Prop where
  may : G.mayB out = true
  has : ∀ m, G.hasB out m = (decide (0 ≤ m) && decide (m < n) && p m)
  last : ∀ o x y, out = o ++ [(x, y)] → y ≤ n - 1

theorem OI.skip {p : Int → Bool} {n next : Int} {out : List (Int × Int)} (h : OI p n out) (hn : n < next) (hf : ∀ m, n ≤ m → m < next → p m = p n) (hp : p n = false) : OI p next out := by
  refine ⟨h.may, fun m => ?_, fun o x y e => by have := h.last o x y e; omega⟩
  rw [h.has]
  by_cases c1 : m < n
  · simp [c1, show m < next by omega]
  · by_cases c2 : m < next
    · rw [hf m (by omega) c2, hp]; simp
    · simp [c1, c2]

theorem OI.wide {p : Int → Bool} {n next z : Int} {o : List (Int × Int)} {x y : Int} (hz : z = next - 1) (h : OI p n (o ++ [(x, y)])) (hy : y = n - 1) (h0 : 0 ≤ n) (hn : n < next) (h1 : next ≤ 1114112) (hf : ∀ m, n ≤ m → m < next → p m = p n) (hp : p n = true) : OI p next (o ++ [(x, z)]) := by
  subst hy
  subst hz
  have hm := h.may
  rw [G.may_snoc] at hm
  simp only at hm
  refine ⟨by rw [G.may_snoc]; simp only; exact ⟨hm.1, hm.2.1, by omega, by omega⟩, fun m => ?_, fun o' x' y' e => ?_⟩
  · have k := h.has m
    rw [G.hasB_append, G.hasB_one] at k
    rw [G.hasB_append, G.hasB_one]
    by_cases c1 : m < n
    · have : decide (m ≤ next - 1) = decide (m ≤ n - 1) := by rw [decide_eq_true (show m ≤ next - 1 by omega), decide_eq_true (show m ≤ n - 1 by omega)]
      rw [this, k, decide_eq_true c1, decide_eq_true (show m < next by omega)]
    · have ko : G.hasB o m = false := by
        rw [decide_eq_false c1] at k
        simp at k
        exact k.1
      rw [ko, Bool.false_or]
      by_cases c2 : m < next
      · rw [hf m (by omega) c2, hp, decide_eq_true (show x ≤ m by omega), decide_eq_true (show m ≤ next - 1 by omega), decide_eq_true (show 0 ≤ m by omega), decide_eq_true c2]; rfl
      · rw [decide_eq_false (show ¬ m ≤ next - 1 by omega), decide_eq_false c2]; simp
  · have e' := List.append_inj_right' e (by simp)
    simp at e'; omega

theorem OI.app {p : Int → Bool} {n next z : Int} {out : List (Int × Int)} (hz : z = next - 1) (h : OI p n out) (hl : ∀ o x y, out = o ++ [(x, y)] → y ≠ n - 1) (h0 : 0 ≤ n) (hn : n < next) (h1 : next ≤ 1114112) (hf : ∀ m, n ≤ m → m < next → p m = p n) (hp : p n = true) : OI p next (out ++ [(n, z)]) := by
  subst hz
  have he : G.endOf 0 out ≤ n := by
    rcases List.eq_nil_or_concat out with e | ⟨o, ⟨x, y⟩, e⟩
    · rw [e]; exact h0
    · rw [List.concat_eq_append] at e
      have a := hl o x y e
      have b := h.last o x y e
      rw [e, G.endOf_append]; simp only; omega
  refine ⟨by rw [G.may_snoc]; exact ⟨h.may, he, by simp only; omega, by simp only; omega⟩, fun m => ?_, fun o' x' y' e => ?_⟩
  · rw [G.hasB_append, G.hasB_one, h.has]
    by_cases c1 : m < n
    · rw [decide_eq_true c1, decide_eq_false (show ¬ n ≤ m by omega), decide_eq_true (show m < next by omega)]; simp
    · rw [decide_eq_false c1]
      by_cases c2 : m < next
      · rw [hf m (by omega) c2, hp, decide_eq_true (show n ≤ m by omega), decide_eq_true (show m ≤ next - 1 by omega), decide_eq_true (show 0 ≤ m by omega), decide_eq_true c2]; rfl
      · rw [decide_eq_false (show ¬ m ≤ next - 1 by omega), decide_eq_false c2]; simp
  · have e' := List.append_inj_right' e (by simp)
    simp at e'; omega

theorem OI.done {p : Int → Bool} {n : Int} {out : List (Int × Int)} (h : OI p n out) (hn : n = 1114112) : G.Is out (fun m => G.dom m && p m) := by
  subst hn
  refine ⟨h.may, fun m => ?_⟩
  rw [h.has]
  unfold G.dom
  congr 2
  rw [Bool.eq_iff_iff]; simp only [decide_eq_true_eq]; omega

/-- what is asked, of a number -/
def ofP (how high : Int) (A B : List (Int × Int)) (n : Int) : Bool := isP how high (G.hasB A n) (G.hasB B n) n

theorem ofP_flat {how high : Int} {A B : List (Int × Int)} {n next : Int} (ha : ∀ m, n ≤ m → m < next → G.hasB A m = G.hasB A n) (hb : ∀ m, n ≤ m → m < next → G.hasB B m = G.hasB B n) (hh : n ≤ high → next ≤ high + 1) : ∀ m, n ≤ m → m < next → ofP how high A B m = ofP how high A B n := by
  intro m h1 h2
  unfold ofP isP
  rw [ha m h1 h2, hb m h1 h2]
  have : decide (m ≤ high) = decide (n ≤ high) := by
    by_cases c : n ≤ high
    · rw [decide_eq_true c, decide_eq_true (show m ≤ high by have := hh c; omega)]
    · rw [decide_eq_false c, decide_eq_false (show ¬ m ≤ high by omega)]
  rw [this]

theorem below_append1' {B : Nat} {w w1 : World} {o1 : Obj} {e : TypeId} {sz n : Nat} {v : Value} {xs : List Value} (h : w.ownsRow B e sz v n xs) (hB : B ≤ w.heap.size) (hg : (w.alloc o1).grownBy w1 v.ownBlock) : Below B w w1 :=
  ((Below.refl B w).alloc hB _).grown hg (by simp; omega) (fun k hk => (h.lt k hk).1)

set_option maxRecDepth 20000 in
set_option maxHeartbeats 4000000 in
theorem refOfO_any (a : Option Addr) (la ca : Nat) (A : List (Int × Int)) (b : Option Addr) (lb cb : Nat) (B : List (Int × Int)) (how high : Int) (w : World) (ha : Rs w a la ca A) (hb : Rs w b lb cb B) (hh : fits high) :
    Calls Tryz.prog 92 #[.slice a la ca, .slice b lb cb, .int .i64 how, .int .i64 high] w (AnO w fun n => G.dom n && ofP how high A B n) := by
  obtain ⟨i0, hi0, hz0, hz1, hz2⟩ := info_parts infoRg
  unfold fits at hh
  obtain ⟨hh0, hh1⟩ := hh
  obtain ⟨p, hpe⟩ : ∃ p, p = ofP how high A B := ⟨_, rfl⟩
  have hpe' := hideR hpe
  have goal : Hid (∀ e w', AnO w (fun n => G.dom n && p n) e w' → AnO w (fun n => G.dom n && ofP how high A B n) e w') := by intro e w' hx; rw [← hpe]; exact hx
  refine Calls.mono (R := AnO w fun n => G.dom n && p n) ?_ (unhideR goal)
  clear goal hpe
  go_enter Tryz.func92, Tryz.ntmps92
  go_wp2
  go_loopw [9, 10] (fun v i wr => ∃ (n : Int) (out : List (Int × Int)), 0 ≤ n ∧ n ≤ 1114112 ∧ i = .int .i64 n ∧ Hid (OI p n out) ∧ out.length ≤ 557057 ∧ wr.ownsRow w.heap.size 54 2 v out.length (cellsL out) ∧ Below w.heap.size w wr) (fun _ i _ => (1114112 - intOf i).toNat)
  case atStart => exact ⟨0, [], by omega, by omega, rfl, ⟨rfl, fun m => by by_cases c : 0 ≤ m <;> simp [G.hasB, c]; omega, fun o x y e => by simp at e⟩, by simp, World.ownsRow_nil _ _ _ _, Below.refl _ _⟩
  case round =>
    obtain ⟨n, out, n0, n1, rfl, hoi, hol, hown, hbl⟩ := hrel
    by_cases hlt : n ≤ 1114111
    · have RA := ha.later hbl (Nat.le_refl _)
      have RB := hb.later hbl (Nat.le_refl _)
      have C1 := hideR (refBorder_any a la ca A n 1114112 wr RA n0 (by omega) (by omega))
      have C2 := hideR (fun r (h1 : n < r) (h2 : r ≤ 1114112) => refBorder_any b lb cb B n r wr RB n0 h1 h2)
      have C3 := hideR (refIs_any a la ca A b lb cb B how high n wr RA RB)
      have e3 : isP how high (G.hasB A n) (G.hasB B n) n = p n := by rw [unhideR hpe']; rfl
      rw [e3] at C3
      clear RA RB e3
      go_wp2_with fail
      refine (unhideR C1).mono ?_
      rintro e w' ⟨⟨r1, rfl, r1a, r1b, r1c⟩, hw⟩
      obtain rfl : wr = w' := hw.symm
      have R1 := hideR r1c
      clear r1c C1
      go_wp2_with fail
      refine (unhideR C2 r1 r1a r1b).mono ?_
      rintro e w' ⟨⟨r2, rfl, r2a, r2b, r2c⟩, hw⟩
      obtain rfl : wr = w' := hw.symm
      have R2 := hideR r2c
      clear r2c C2
      have key : (n ≤ high ∧ high < r2 - 1) ∨ (n ≤ high ∧ r2 - 1 ≤ high) ∨ high < n := by omega
      rcases key with ⟨x1, x2⟩ | ⟨x1, x2⟩ | x1
      · have FL : Hid (∀ m, n ≤ m → m < (high + 1) → p m = p n) := by
          have := ofP_flat (how := how) (high := high) (next := (high + 1)) (fun m m1 m2 => unhideR R1 m m1 (by omega)) (fun m m1 m2 => unhideR R2 m m1 (by omega)) (by omega)
          rw [unhideR hpe']; exact this
        cases hpn : p n with
        | false =>
          rw [hpn] at C3
          have st := hideR ((unhideR hoi).skip (next := (high + 1)) (by omega) (unhideR FL) hpn)
          obtain ⟨va, vc, hv⟩ := own_form hown
          subst hv
          clear hpn FL hoi R1 R2
          go_wp2_with fail
          refine (unhideR C3).mono ?_
          rintro e w' ⟨rfl, hw⟩
          obtain rfl : wr = w' := hw.symm
          go_wp2_with fail
          go_roundw
          case rel => exact ⟨(high + 1), out, by omega, by omega, rfl, unhideR st, hol, hown, hbl⟩
          case measure => simp [intOf]; omega
        | true =>
          rw [hpn] at C3
          rcases List.eq_nil_or_concat out with ho | ⟨o, ⟨x, y⟩, ho⟩
          · subst ho
            have st := hideR (OI.app (next := (high + 1)) (z := high) (by omega) (unhideR hoi) (fun o x y e => by simp at e) n0 (by omega) (by omega) (unhideR FL) hpn)
            have ln := G.may_length (unhideR st).may
            rw [List.length_append] at ln
            obtain ⟨va, vc, hv⟩ := own_form hown
            subst hv
            simp only [List.length_nil] at hown
            clear hpn FL hoi R1 R2
            go_wp2_with fail
            refine (unhideR C3).mono ?_
            rintro e w' ⟨rfl, hw⟩
            obtain rfl : wr = w' := hw.symm
            go_wp2_with (at_builtin; refine wpList_append_lies _ rfl _ _ 22 rfl w.heap.size 54 i0 _ 2 16 Tryz.underlying22 hi0 hz0 hz1 hz2 rfl (by omega) _ _ _ rfl (hown.alloc _) ⟨wr.heap.size, 0, none⟩ 1 1 [.int .i64 n, .int .i64 high] rfl rfl (new_cells _ _ _ _ rfl) (by simp [Value.oneCell']) (by omega) (by unfold maxLen; omega) (by omega) (by have := hbl.size; simp; omega) (wr.heap.size + 1) (by simp) ?_; intro gg cap1 w3 hown3 hgrow hat hlt1)
            go_roundw
            case rel => exact ⟨(high + 1), [] ++ [(n, high)], by omega, by omega, rfl, unhideR st, by simp, hown3, hbl.trans (below_append1' hown hbl.size hgrow)⟩
            case measure => simp [intOf]; omega
          · rw [List.concat_eq_append] at ho
            subst ho
            obtain ⟨g, vc, hv⟩ := ownsRow_succ (k := o.length) (by simpa using hown)
            subst hv
            rw [List.length_append] at hown hol
            simp only [List.length_cons, List.length_nil, Nat.zero_add] at hown hol
            have ym := G.may_mem (unhideR hoi).may (r := (x, y)) (by simp)
            simp only at ym
            obtain ⟨ym0, ym1, ym2⟩ := ym
            have u1 := hown.cellAt (o.length * 2 + 1) (by omega)
            have u2 := hown.frozenAt (o.length * 2 + 1)
            rw [cellsL_append, List.getElem?_append_right (by rw [cellsL_length]; omega), cellsL_length, show o.length * 2 + 1 - o.length * 2 = 1 by omega, show (cellsL [(x, y)])[1]? = some (.int .i64 y) from rfl] at u1
            have gb := (hown.lt g rfl).1
            by_cases hy : y = n - 1
            · have st := hideR (OI.wide (next := (high + 1)) (z := high) (by omega) (unhideR hoi) hy n0 (by omega) (by omega) (unhideR FL) hpn)
              have q1 : (y == n - 1) = true := by rw [beq_iff_eq]; exact hy
              obtain ⟨o3, g3⟩ := hown.stored (o.length * 2 + 1) (.int .i64 high)
              rw [cellsL_set2] at o3
              have O3 := hideR o3
              clear hpn FL hoi R1 R2 hy o3 g3
              go_wp2_with fail
              refine (unhideR C3).mono ?_
              rintro e w' ⟨rfl, hw⟩
              obtain rfl : wr = w' := hw.symm
              go_wp2_with fail
              go_roundw
              case rel => exact ⟨(high + 1), o ++ [(x, high)], by omega, by omega, rfl, unhideR st, by simpa using hol, by rw [List.length_append]; exact unhideR O3, hbl.setCell (by simp; omega) _⟩
              case measure => simp [intOf]; omega
            · have st := hideR (OI.app (next := (high + 1)) (z := high) (by omega) (unhideR hoi) (fun o' x' y' e => by have e' := List.append_inj_right' e (by simp); simp at e'; omega) n0 (by omega) (by omega) (unhideR FL) hpn)
              have ln := G.may_length (unhideR st).may
              rw [List.length_append, List.length_append] at ln
              simp only [List.length_cons, List.length_nil, Nat.zero_add] at ln
              have q1 : (y == n - 1) = false := by rw [beq_eq_false_iff_ne]; exact hy
              clear hpn FL hoi R1 R2 hy
              go_wp2_with fail
              refine (unhideR C3).mono ?_
              rintro e w' ⟨rfl, hw⟩
              obtain rfl : wr = w' := hw.symm
              go_wp2_with (at_builtin; refine wpList_append_lies _ rfl _ _ 22 rfl w.heap.size 54 i0 _ 2 16 Tryz.underlying22 hi0 hz0 hz1 hz2 rfl (by omega) _ _ _ rfl (hown.alloc _) ⟨wr.heap.size, 0, none⟩ 1 1 [.int .i64 n, .int .i64 high] rfl rfl (new_cells _ _ _ _ rfl) (by simp [Value.oneCell']) (by omega) (by unfold maxLen; omega) (by omega) (by have := hbl.size; simp; omega) (wr.heap.size + 1) (by simp) ?_; intro gg cap1 w3 hown3 hgrow hat hlt1)
              go_roundw
              case rel => exact ⟨(high + 1), o ++ [(x, y)] ++ [(n, high)], by omega, by omega, rfl, unhideR st, by simp; omega, by rw [cellsL_append (o ++ [(x, y)]), List.length_append, List.length_append]; exact hown3, hbl.trans (below_append1' hown hbl.size hgrow)⟩
              case measure => simp [intOf]; omega
      · have FL : Hid (∀ m, n ≤ m → m < r2 → p m = p n) := by
          have := ofP_flat (how := how) (high := high) (next := r2) (fun m m1 m2 => unhideR R1 m m1 (by omega)) (fun m m1 m2 => unhideR R2 m m1 (by omega)) (by omega)
          rw [unhideR hpe']; exact this
        cases hpn : p n with
        | false =>
          rw [hpn] at C3
          have st := hideR ((unhideR hoi).skip (next := r2) (by omega) (unhideR FL) hpn)
          obtain ⟨va, vc, hv⟩ := own_form hown
          subst hv
          clear hpn FL hoi R1 R2
          go_wp2_with fail
          refine (unhideR C3).mono ?_
          rintro e w' ⟨rfl, hw⟩
          obtain rfl : wr = w' := hw.symm
          go_wp2_with fail
          go_roundw
          case rel => exact ⟨r2, out, by omega, by omega, rfl, unhideR st, hol, hown, hbl⟩
          case measure => simp [intOf]; omega
        | true =>
          rw [hpn] at C3
          rcases List.eq_nil_or_concat out with ho | ⟨o, ⟨x, y⟩, ho⟩
          · subst ho
            have st := hideR (OI.app (next := r2) (z := (r2 - 1)) (by omega) (unhideR hoi) (fun o x y e => by simp at e) n0 (by omega) (by omega) (unhideR FL) hpn)
            have ln := G.may_length (unhideR st).may
            rw [List.length_append] at ln
            obtain ⟨va, vc, hv⟩ := own_form hown
            subst hv
            simp only [List.length_nil] at hown
            clear hpn FL hoi R1 R2
            go_wp2_with fail
            refine (unhideR C3).mono ?_
            rintro e w' ⟨rfl, hw⟩
            obtain rfl : wr = w' := hw.symm
            go_wp2_with (at_builtin; refine wpList_append_lies _ rfl _ _ 22 rfl w.heap.size 54 i0 _ 2 16 Tryz.underlying22 hi0 hz0 hz1 hz2 rfl (by omega) _ _ _ rfl (hown.alloc _) ⟨wr.heap.size, 0, none⟩ 1 1 [.int .i64 n, .int .i64 (r2 - 1)] rfl rfl (new_cells _ _ _ _ rfl) (by simp [Value.oneCell']) (by omega) (by unfold maxLen; omega) (by omega) (by have := hbl.size; simp; omega) (wr.heap.size + 1) (by simp) ?_; intro gg cap1 w3 hown3 hgrow hat hlt1)
            go_roundw
            case rel => exact ⟨r2, [] ++ [(n, (r2 - 1))], by omega, by omega, rfl, unhideR st, by simp, hown3, hbl.trans (below_append1' hown hbl.size hgrow)⟩
            case measure => simp [intOf]; omega
          · rw [List.concat_eq_append] at ho
            subst ho
            obtain ⟨g, vc, hv⟩ := ownsRow_succ (k := o.length) (by simpa using hown)
            subst hv
            rw [List.length_append] at hown hol
            simp only [List.length_cons, List.length_nil, Nat.zero_add] at hown hol
            have ym := G.may_mem (unhideR hoi).may (r := (x, y)) (by simp)
            simp only at ym
            obtain ⟨ym0, ym1, ym2⟩ := ym
            have u1 := hown.cellAt (o.length * 2 + 1) (by omega)
            have u2 := hown.frozenAt (o.length * 2 + 1)
            rw [cellsL_append, List.getElem?_append_right (by rw [cellsL_length]; omega), cellsL_length, show o.length * 2 + 1 - o.length * 2 = 1 by omega, show (cellsL [(x, y)])[1]? = some (.int .i64 y) from rfl] at u1
            have gb := (hown.lt g rfl).1
            by_cases hy : y = n - 1
            · have st := hideR (OI.wide (next := r2) (z := (r2 - 1)) (by omega) (unhideR hoi) hy n0 (by omega) (by omega) (unhideR FL) hpn)
              have q1 : (y == n - 1) = true := by rw [beq_iff_eq]; exact hy
              obtain ⟨o3, g3⟩ := hown.stored (o.length * 2 + 1) (.int .i64 (r2 - 1))
              rw [cellsL_set2] at o3
              have O3 := hideR o3
              clear hpn FL hoi R1 R2 hy o3 g3
              go_wp2_with fail
              refine (unhideR C3).mono ?_
              rintro e w' ⟨rfl, hw⟩
              obtain rfl : wr = w' := hw.symm
              go_wp2_with fail
              go_roundw
              case rel => exact ⟨r2, o ++ [(x, (r2 - 1))], by omega, by omega, rfl, unhideR st, by simpa using hol, by rw [List.length_append]; exact unhideR O3, hbl.setCell (by simp; omega) _⟩
              case measure => simp [intOf]; omega
            · have st := hideR (OI.app (next := r2) (z := (r2 - 1)) (by omega) (unhideR hoi) (fun o' x' y' e => by have e' := List.append_inj_right' e (by simp); simp at e'; omega) n0 (by omega) (by omega) (unhideR FL) hpn)
              have ln := G.may_length (unhideR st).may
              rw [List.length_append, List.length_append] at ln
              simp only [List.length_cons, List.length_nil, Nat.zero_add] at ln
              have q1 : (y == n - 1) = false := by rw [beq_eq_false_iff_ne]; exact hy
              clear hpn FL hoi R1 R2 hy
              go_wp2_with fail
              refine (unhideR C3).mono ?_
              rintro e w' ⟨rfl, hw⟩
              obtain rfl : wr = w' := hw.symm
              go_wp2_with (at_builtin; refine wpList_append_lies _ rfl _ _ 22 rfl w.heap.size 54 i0 _ 2 16 Tryz.underlying22 hi0 hz0 hz1 hz2 rfl (by omega) _ _ _ rfl (hown.alloc _) ⟨wr.heap.size, 0, none⟩ 1 1 [.int .i64 n, .int .i64 (r2 - 1)] rfl rfl (new_cells _ _ _ _ rfl) (by simp [Value.oneCell']) (by omega) (by unfold maxLen; omega) (by omega) (by have := hbl.size; simp; omega) (wr.heap.size + 1) (by simp) ?_; intro gg cap1 w3 hown3 hgrow hat hlt1)
              go_roundw
              case rel => exact ⟨r2, o ++ [(x, y)] ++ [(n, (r2 - 1))], by omega, by omega, rfl, unhideR st, by simp; omega, by rw [cellsL_append (o ++ [(x, y)]), List.length_append, List.length_append]; exact hown3, hbl.trans (below_append1' hown hbl.size hgrow)⟩
              case measure => simp [intOf]; omega
      · have FL : Hid (∀ m, n ≤ m → m < r2 → p m = p n) := by
          have := ofP_flat (how := how) (high := high) (next := r2) (fun m m1 m2 => unhideR R1 m m1 (by omega)) (fun m m1 m2 => unhideR R2 m m1 (by omega)) (by omega)
          rw [unhideR hpe']; exact this
        cases hpn : p n with
        | false =>
          rw [hpn] at C3
          have st := hideR ((unhideR hoi).skip (next := r2) (by omega) (unhideR FL) hpn)
          obtain ⟨va, vc, hv⟩ := own_form hown
          subst hv
          clear hpn FL hoi R1 R2
          go_wp2_with fail
          refine (unhideR C3).mono ?_
          rintro e w' ⟨rfl, hw⟩
          obtain rfl : wr = w' := hw.symm
          go_wp2_with fail
          go_roundw
          case rel => exact ⟨r2, out, by omega, by omega, rfl, unhideR st, hol, hown, hbl⟩
          case measure => simp [intOf]; omega
        | true =>
          rw [hpn] at C3
          rcases List.eq_nil_or_concat out with ho | ⟨o, ⟨x, y⟩, ho⟩
          · subst ho
            have st := hideR (OI.app (next := r2) (z := (r2 - 1)) (by omega) (unhideR hoi) (fun o x y e => by simp at e) n0 (by omega) (by omega) (unhideR FL) hpn)
            have ln := G.may_length (unhideR st).may
            rw [List.length_append] at ln
            obtain ⟨va, vc, hv⟩ := own_form hown
            subst hv
            simp only [List.length_nil] at hown
            clear hpn FL hoi R1 R2
            go_wp2_with fail
            refine (unhideR C3).mono ?_
            rintro e w' ⟨rfl, hw⟩
            obtain rfl : wr = w' := hw.symm
            go_wp2_with (at_builtin; refine wpList_append_lies _ rfl _ _ 22 rfl w.heap.size 54 i0 _ 2 16 Tryz.underlying22 hi0 hz0 hz1 hz2 rfl (by omega) _ _ _ rfl (hown.alloc _) ⟨wr.heap.size, 0, none⟩ 1 1 [.int .i64 n, .int .i64 (r2 - 1)] rfl rfl (new_cells _ _ _ _ rfl) (by simp [Value.oneCell']) (by omega) (by unfold maxLen; omega) (by omega) (by have := hbl.size; simp; omega) (wr.heap.size + 1) (by simp) ?_; intro gg cap1 w3 hown3 hgrow hat hlt1)
            go_roundw
            case rel => exact ⟨r2, [] ++ [(n, (r2 - 1))], by omega, by omega, rfl, unhideR st, by simp, hown3, hbl.trans (below_append1' hown hbl.size hgrow)⟩
            case measure => simp [intOf]; omega
          · rw [List.concat_eq_append] at ho
            subst ho
            obtain ⟨g, vc, hv⟩ := ownsRow_succ (k := o.length) (by simpa using hown)
            subst hv
            rw [List.length_append] at hown hol
            simp only [List.length_cons, List.length_nil, Nat.zero_add] at hown hol
            have ym := G.may_mem (unhideR hoi).may (r := (x, y)) (by simp)
            simp only at ym
            obtain ⟨ym0, ym1, ym2⟩ := ym
            have u1 := hown.cellAt (o.length * 2 + 1) (by omega)
            have u2 := hown.frozenAt (o.length * 2 + 1)
            rw [cellsL_append, List.getElem?_append_right (by rw [cellsL_length]; omega), cellsL_length, show o.length * 2 + 1 - o.length * 2 = 1 by omega, show (cellsL [(x, y)])[1]? = some (.int .i64 y) from rfl] at u1
            have gb := (hown.lt g rfl).1
            by_cases hy : y = n - 1
            · have st := hideR (OI.wide (next := r2) (z := (r2 - 1)) (by omega) (unhideR hoi) hy n0 (by omega) (by omega) (unhideR FL) hpn)
              have q1 : (y == n - 1) = true := by rw [beq_iff_eq]; exact hy
              obtain ⟨o3, g3⟩ := hown.stored (o.length * 2 + 1) (.int .i64 (r2 - 1))
              rw [cellsL_set2] at o3
              have O3 := hideR o3
              clear hpn FL hoi R1 R2 hy o3 g3
              go_wp2_with fail
              refine (unhideR C3).mono ?_
              rintro e w' ⟨rfl, hw⟩
              obtain rfl : wr = w' := hw.symm
              go_wp2_with fail
              go_roundw
              case rel => exact ⟨r2, o ++ [(x, (r2 - 1))], by omega, by omega, rfl, unhideR st, by simpa using hol, by rw [List.length_append]; exact unhideR O3, hbl.setCell (by simp; omega) _⟩
              case measure => simp [intOf]; omega
            · have st := hideR (OI.app (next := r2) (z := (r2 - 1)) (by omega) (unhideR hoi) (fun o' x' y' e => by have e' := List.append_inj_right' e (by simp); simp at e'; omega) n0 (by omega) (by omega) (unhideR FL) hpn)
              have ln := G.may_length (unhideR st).may
              rw [List.length_append, List.length_append] at ln
              simp only [List.length_cons, List.length_nil, Nat.zero_add] at ln
              have q1 : (y == n - 1) = false := by rw [beq_eq_false_iff_ne]; exact hy
              clear hpn FL hoi R1 R2 hy
              go_wp2_with fail
              refine (unhideR C3).mono ?_
              rintro e w' ⟨rfl, hw⟩
              obtain rfl : wr = w' := hw.symm
              go_wp2_with (at_builtin; refine wpList_append_lies _ rfl _ _ 22 rfl w.heap.size 54 i0 _ 2 16 Tryz.underlying22 hi0 hz0 hz1 hz2 rfl (by omega) _ _ _ rfl (hown.alloc _) ⟨wr.heap.size, 0, none⟩ 1 1 [.int .i64 n, .int .i64 (r2 - 1)] rfl rfl (new_cells _ _ _ _ rfl) (by simp [Value.oneCell']) (by omega) (by unfold maxLen; omega) (by omega) (by have := hbl.size; simp; omega) (wr.heap.size + 1) (by simp) ?_; intro gg cap1 w3 hown3 hgrow hat hlt1)
              go_roundw
              case rel => exact ⟨r2, o ++ [(x, y)] ++ [(n, (r2 - 1))], by omega, by omega, rfl, unhideR st, by simp; omega, by rw [cellsL_append (o ++ [(x, y)]), List.length_append, List.length_append]; exact hown3, hbl.trans (below_append1' hown hbl.size hgrow)⟩
              case measure => simp [intOf]; omega
    · have fin := hideR ((unhideR hoi).done (by omega))
      clear hoi
      go_wp2
      go_ret
      exact ⟨_, _, rfl, hown, unhideR fin, hbl⟩

theorem refOf_any (a : Option Addr) (la ca : Nat) (A : List (Int × Int)) (b : Option Addr) (lb cb : Nat) (B : List (Int × Int)) (how high : Int) (w : World) (ha : Rs w a la ca A) (hb : Rs w b lb cb B) (hh : fits high) :
    Calls Tryz.prog 92 #[.slice a la ca, .slice b lb cb, .int .i64 how, .int .i64 high] w (An w fun n => G.dom n && ofP how high A B n) := (refOfO_any a la ca A b lb cb B how high w ha hb hh).mono fun _ _ h => h.an
end Go.Proofs.YtdaadeohamkoiaaGreatDoor
