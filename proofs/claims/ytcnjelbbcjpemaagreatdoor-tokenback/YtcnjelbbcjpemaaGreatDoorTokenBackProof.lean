/-
  TokenBack: of any string and any token the law returns true, and its arguments read as they did. No condition but the card's own: the library's tables that the row lists lie as their text lays them (the card ties them); whether other code writes them is the translator's report; the seat is cut from a pruned copy of the project.
-/
import Derived.Test.YtcnjelbbcjpemaaGreatDoorTkSt
import Derived.Test.YtcnjelbbcjpemaaGreatDoorUtfAwake
import Derived.Laws.BitsLemmas
import Derived.Laws.Bits64
import Derived.Test.YtcnjelbbcjpemaaGreatDoorTkV
import Derived.Test.YtcnjelbbcjpemaaGreatDoorTkLaws
import Derived.Deep.RegionHeld3
import Derived.ProofKit
import Derived.OpenShut
import Derived.Test.YtcnjelbbcjpemaaGreatDoorRows
import Derived.LaidMore
import Derived.ChangeSame
import Derived.Stop.Joined
import GoSem.PinnedTables
import Derived.Test.YtcnjelbbcjpemaaGreatDoorRgBase
import Derived.Deep.SlicePairs
import Derived.Lib.SmallJoins
import Derived.Test.YtcnjelbbcjpemaaGreatDoorTie
import Derived.Test.YtcnjelbbcjpemaaGreatDoorCards
import Derived.WalkKit
import Derived.ShutString
import Derived.ChangeOld
import Derived.Below
import Derived.SevenTiedAt
import Derived.ChangeMaps5
/- Contracts of the library's digits by sixteen (strconv.FormatInt), and of scalarText at every number. -/
namespace Go.Proofs.YtcnjelbbcjpemaaGreatDoor.T
open Go.RowKit
set_option linter.unusedVariables false
set_option linter.unusedSimpArgs false

/-- a number's digits by sixteen, with its sign -/
def fmt16 (n : Int) : List Int := if n < 0 then 45 :: sixF 15 (-n) else sixF 15 n
theorem six_more : ∀ (f g : Nat) (n : Int), 0 ≤ n → n < 16 ^ (f + 1) → f ≤ g → sixF g n = sixF f n := by
  intro f
  induction f with
  | zero =>
    intro g n h0 h1 hg
    have h1' : n < 16 := by simpa using h1
    cases g with
    | zero => rfl
    | succ g => simp only [sixF]; rw [if_pos h1']
  | succ f ih =>
    intro g n h0 h1 hg
    obtain ⟨k, rfl⟩ : ∃ k, g = k + 1 := ⟨g - 1, by omega⟩
    by_cases h : n < 16
    · simp only [sixF]; rw [if_pos h, if_pos h]
    · have h2 : n / 16 < 16 ^ (f + 1) := by
        have : (16 : Int) ^ (f + 1 + 1) = 16 ^ (f + 1) * 16 := Int.pow_succ _ _
        rw [this] at h1
        generalize (16 : Int) ^ (f + 1) = P at *
        omega
      simp only [sixF]
      rw [if_neg h, if_neg h, ih k (n / 16) (by omega) h2 (by omega)]
theorem six_bytes : ∀ (f : Nat) (n : Int), 0 ≤ n → n < 16 ^ (f + 1) → U.isBytes (sixF f n) := by
  intro f n h0 h1 z hz
  have := (six_ok f n h0 h1).1 z hz
  unfold valI isDig at this
  split at this
  · next c => simp at c; omega
  · split at this
    · omega
    · omega
theorem fmt_bytes {n : Int} (h : fits n) : U.isBytes (fmt16 n) ∧ (fmt16 n).length ≤ 17 := by
  unfold fits at h
  unfold fmt16
  split
  · have := six_ok 15 (-n) (by omega) (by omega)
    exact ⟨bytes_cons (by omega) (by omega) (six_bytes 15 (-n) (by omega) (by omega)), by rw [List.length_cons]; omega⟩
  · have := six_ok 15 n (by omega) (by omega)
    exact ⟨six_bytes 15 n (by omega) (by omega), by omega⟩
theorem and15u (n : Int) (h0 : 0 ≤ n) (h1 : n ≤ 18446744073709551615) : bits .and .u64 n 15 = n % 16 := by
  have h15 : (BitVec.ofInt 64 15).toNat = 2 ^ 4 - 1 := by decide
  have key : (BitVec.ofInt 64 n &&& BitVec.ofInt 64 15).toNat = (n % ((2 ^ 64 : Nat) : Int)).toNat % 2 ^ 4 := by
    rw [BitVec.toNat_and, BitVec.toNat_ofInt, h15, Nat.and_two_pow_sub_one_eq_mod]
  show IntKind.u64.wrap ((BitVec.ofInt 64 n &&& BitVec.ofInt 64 15).toNat : Nat) = n % 16
  rw [key]
  simp [IntKind.wrap, IntKind.bits, IntKind.signed]
  omega
abbrev d36 : ByteArray := ⟨#[48, 49, 50, 51, 52, 53, 54, 55, 56, 57, 97, 98, 99, 100, 101, 102, 103, 104, 105, 106, 107, 108, 109, 110, 111, 112, 113, 114, 115, 116, 117, 118, 119, 120, 121, 122]⟩
theorem ix36 (z : Int) (h0 : 0 ≤ z) (h1 : z < 16) : ∀ W, (Instr.index 9 (.string ⟨#[48, 49, 50, 51, 52, 53, 54, 55, 56, 57, 97, 98, 99, 100, 101, 102, 103, 104, 105, 106, 107, 108, 109, 110, 111, 112, 113, 114, 115, 116, 117, 118, 119, 120, 121, 122]⟩) (.int .u64 z)).run Tryz.prog W = .ok (.int .u8 (hexD z)) W := by
  intro W
  rw [run_index_string W 9 _ .u64 z Tryz.underlying9, dif_pos ⟨h0, by show z < ((36 : Nat) : Int); omega⟩]
  have h : z = 0 ∨ z = 1 ∨ z = 2 ∨ z = 3 ∨ z = 4 ∨ z = 5 ∨ z = 6 ∨ z = 7 ∨ z = 8 ∨ z = 9 ∨ z = 10 ∨ z = 11 ∨ z = 12 ∨ z = 13 ∨ z = 14 ∨ z = 15 := by omega
  rcases h with rfl | rfl | rfl | rfl | rfl | rfl | rfl | rfl | rfl | rfl | rfl | rfl | rfl | rfl | rfl | rfl <;> rfl
/-- the library's table of places of bits lies as its text says, where it is read -/
def Db (w : World) : Prop := w.cell? ⟨5, 15, none⟩ = some (.int .u8 4)
theorem Db.later {w w' : World} (h : Db w) (b : Below w.heap.size w w') : Db w' := by
  unfold Db at *
  rw [b.cell (block_lt' h)]
  exact h
set_option maxRecDepth 20000 in
set_option maxHeartbeats 2000000 in
theorem tz64_l (w : World) (h : Db w) : Calls Tryz.prog 157 #[.int .u64 16] w fun e w' => e = .returned (.int .i64 4) ∧ w' = w := by
  unfold Db at h
  have e1 : IntKind.u64.wrap (-16) = 18446744073709551600 := by decide
  have e2 : bits .and .u64 16 18446744073709551600 = 16 := by decide
  have e3 : IntKind.u64.wrap 4573923408821661840 = 4573923408821661840 := by decide
  go_enter Tryz.func157, Tryz.ntmps157
  go_wp2_with fail
  go_ret
  exact ⟨rfl, rfl⟩
set_option maxRecDepth 20000 in
set_option maxHeartbeats 2000000 in
theorem tz_l (w : World) (h : Db w) : Calls Tryz.prog 147 #[.int .u64 16] w fun e w' => e = .returned (.int .i64 4) ∧ w' = w := by
  have C := hideR (tz64_l w h)
  clear h
  go_enter Tryz.func147, Tryz.ntmps147
  go_wp2_with fail
  refine (unhideR C).mono ?_
  rintro e w1 ⟨rfl, hw1⟩
  obtain rfl : w = w1 := hw1.symm
  clear hw1 C
  go_wp2_with fail
  go_ret
  exact ⟨rfl, rfl⟩
set_option maxRecDepth 20000 in
set_option maxHeartbeats 2000000 in
theorem pow2_l (w : World) : Calls Tryz.prog 146 #[.int .i64 16] w fun e w' => e = .returned (.bool true) ∧ w' = w := by
  go_enter Tryz.func146, Tryz.ntmps146
  go_wp2_with fail
  go_ret
  exact ⟨rfl, rfl⟩

/-! ### formatBits -/
theorem six_step {f : Nat} {u : Int} (h : 16 ≤ u) (hb : u < 16 ^ (f + 1)) : ∃ g, f = g + 1 ∧ sixF f u = sixF g (u / 16) ++ [hexD (u % 16)] ∧ u / 16 < 16 ^ (g + 1) := by
  cases f with
  | zero => simp at hb; omega
  | succ g =>
    refine ⟨g, rfl, by simp only [sixF]; rw [if_neg (by omega)], ?_⟩
    have : (16 : Int) ^ (g + 1 + 1) = 16 ^ (g + 1) * 16 := Int.pow_succ _ _
    rw [this] at hb
    generalize (16 : Int) ^ (g + 1) = P at *
    omega
theorem six_last {f : Nat} {u : Int} (h : u < 16) : sixF f u = [hexD u] := by
  cases f with
  | zero => rfl
  | succ g => simp only [sixF]; rw [if_pos h]
theorem hexD_byte' {z : Int} (h0 : 0 ≤ z) (h1 : z < 16) : 0 ≤ hexD z ∧ hexD z ≤ 255 := by
  unfold hexD
  split <;> omega
/-- a block of 65 bytes of which the last ones are these -/
def Tl (w : World) (g : Nat) (m : Nat) (acc : List Int) : Prop := ∃ cs : Array Value, w.heap[g]? = some (.cells cs 161) ∧ cs.size = 65 ∧ m + acc.length = 65 ∧ cs.toList.drop m = acc.map (Value.int .u8)
theorem Tl.cell {w : World} {g m : Nat} {acc : List Int} (h : Tl w g (m + 1) acc) : ∃ v, w.cell? ⟨g, m, none⟩ = some v := by
  obtain ⟨cs, h1, h2, h3, h4⟩ := h
  refine ⟨cs[m]'(by omega), ?_⟩
  simp [World.cell?, h1]
theorem Tl.free {w : World} {g m : Nat} {acc : List Int} (h : Tl w g m acc) (k : Nat) : w.frozen? ⟨g, k, none⟩ = false := by
  obtain ⟨cs, h1, h2, h3, h4⟩ := h
  simp [World.frozen?, h1]
theorem Tl.put {w : World} {g m : Nat} {acc : List Int} (h : Tl w g (m + 1) acc) (x : Int) : Tl (w.setCell ⟨g, m, none⟩ (.int .u8 x)) g m (x :: acc) := by
  obtain ⟨cs, h1, h2, h3, h4⟩ := h
  refine ⟨cs.setIfInBounds m (.int .u8 x), heap_setCell_same w g m cs _ _ h1, by simp [h2], by rw [List.length_cons]; omega, ?_⟩
  have hm : m < (cs.toList.set m (Value.int .u8 x)).length := by simp; omega
  rw [Array.toList_setIfInBounds, List.drop_eq_getElem_cons hm, List.getElem_set_self, List.map_cons, List.drop_set, if_pos (by omega), h4]
/-- the bytes behind a place of it -/
theorem Tl.bs {w : World} {g m : Nat} {acc : List Int} (h : Tl w g m acc) (hb : U.isBytes acc) : Bs w (some ⟨g, m, none⟩) (65 - m) (65 - m) acc := by
  obtain ⟨cs, h1, h2, h3, h4⟩ := h
  refine ⟨by omega, Nat.le_refl _, by unfold maxLen; omega, hb, fun i hi => ⟨_, _, rfl, ?_⟩⟩
  have hi' : i < acc.length := by omega
  have e := congrArg (fun l => l[i]?) h4
  simp only [List.getElem?_drop, List.getElem?_map] at e
  rw [List.getElem?_eq_getElem hi'] at e
  simp only [Option.map_some, Array.getElem?_toList] at e
  simp only [World.cell?, h1, List.getD, List.getElem?_eq_getElem hi', Option.getD_some]
  exact e
theorem cut65 (g m : Nat) (h : m < 65) : ∀ W, (Instr.sliceAt 161 (.pointer (some ⟨g, 0, none⟩)) (some (.int .i64 (m : Int))) none none).run Tryz.prog W = .ok (.slice (some ⟨g, m, none⟩) (65 - m) (65 - m)) W := by
  intro W
  have ht : Tryz.prog.underlying 161 = some (.array (Tryz.prog.arrayLen 161) (Tryz.prog.elem 161)) := by kernel_rfl
  have al : Tryz.prog.arrayLen 161 = 65 := by kernel_rfl
  have sz : (sizeOf (Tryz.prog.elem 161)).run Tryz.prog W = .ok 1 W := by kernel_rfl
  rw [run_sliceAt_array_l W 161 _ ht .i64 (m : Int) (by omega) (by rw [al]; omega), sz, al]
  simp only [Result.andThen, slicedAt, Int.toNat_natCast]
  rw [if_neg (by omega), Nat.mul_one, Addr.add_lit, Nat.zero_add]
theorem Tl.new (w : World) : Tl (w.alloc (.cells Tryz.zeroCells161 161)) w.heap.size 65 [] :=
  ⟨Tryz.zeroCells161, heap_alloc_new w _, by kernel_rfl, rfl, by kernel_rfl⟩
set_option maxRecDepth 20000 in
set_option maxHeartbeats 4000000 in
theorem fbits_pos (M : Int) (h0 : 0 ≤ M) (h1 : M ≤ 9223372036854775807) (w : World) (hd : Db w) :
    Calls Tryz.prog 122 #[.slice none 0 0, .int .u64 M, .int .i64 16, .bool false, .bool false] w fun e w' => e = .returned (.tuple #[.slice none 0 0, .string (strOfNums (sixF 15 M))]) ∧ Below w.heap.size w w' := by
  have P2 := hideR pow2_l
  have TZ := hideR (fun W (hW : Below w.heap.size w W) => tz_l W (hd.later hW))
  clear hd
  have HS0 : Hid (sixF 15 M = sixF 15 M ++ []) := by show _ = _; simp
  have HU : Hid (M < 16 ^ (15 + 1)) := by show _ < _; omega
  generalize hSX : sixF 15 M = SX at *
  have HM := hideR hSX
  clear hSX
  go_enter Tryz.func122, Tryz.ntmps122
  go_wp2_with fail
  refine (unhideR P2 _).mono ?_
  rintro e w1 ⟨rfl, hw1⟩
  obtain rfl := hw1
  clear P2
  go_wp2_with fail
  refine (unhideR TZ _ (Below.new1 _)).mono ?_
  rintro e w1 ⟨rfl, hw1⟩
  obtain rfl := hw1
  clear TZ
  go_wp2_with fail
  go_loopw [1, 13] (fun u i wr => ∃ (f : Nat) (acc : List Int) (uv : Int) (m : Nat), 0 ≤ uv ∧ uv ≤ 18446744073709551615 ∧ Hid (uv < 16 ^ (f + 1)) ∧ f + acc.length = 15 ∧ m + acc.length = 65 ∧ Hid (SX = sixF f uv ++ acc) ∧ Hid (U.isBytes acc) ∧ u = .int .u64 uv ∧ i = .int .i64 (m : Int) ∧ Hid (Tl wr w.heap.size m acc) ∧ Below w.heap.size w wr) (fun u _ _ => (intOf u).toNat)
  case atStart => exact ⟨15, [], M, 65, by omega, by omega, HU, rfl, rfl, by show _ = _; rw [unhideR HM]; exact unhideR HS0, (fun z hz => by cases hz), rfl, rfl, Tl.new w, Below.new1 _⟩
  case round =>
    obtain ⟨f, acc, uv, m, u0, u1, hf, s1, s2, hE, hA, rfl, rfl, hT, hb⟩ := hrel
    by_cases c16 : 16 ≤ uv
    · obtain ⟨g, rfl, es, hlt⟩ := six_step c16 (unhideR hf)
      obtain ⟨m', rfl⟩ : ∃ k, m = k + 1 := ⟨m - 1, by omega⟩
      obtain ⟨v0, hv0⟩ := (unhideR hT).cell
      have fr := (unhideR hT).free m'
      have a1 := and15u uv u0 u1
      have i1 := ix36 (uv % 16) (by omega) (by omega)
      have hmm : m' < 65 := by omega
      have hmm2 : (m' : Int) < 65 := by omega
      have hX := hexD_byte' (z := uv % 16) (by omega) (by omega)
      have HX := hideR hX
      clear hX
      generalize hexD (uv % 16) = X at *
      have HES := hideR es
      have HLT := hideR hlt
      clear es hlt hf
      go_wp2_with fail
      go_roundw
      case rel => exact ⟨g, X :: acc, uv / 16, m', by omega, by omega, HLT, by rw [List.length_cons]; omega, by rw [List.length_cons]; omega, by show _ = _; rw [unhideR hE, unhideR HES]; simp, bytes_cons (unhideR HX).1 (unhideR HX).2 (unhideR hA), rfl, rfl, (unhideR hT).put X, hb.setCell (Nat.le_refl _) _⟩
      case measure => simp only [intOf]; omega
    · have c17 : uv < 16 := by omega
      have e1 : SX = hexD uv :: acc := by rw [unhideR hE, six_last c17]; rfl
      obtain ⟨m', rfl⟩ : ∃ k, m = k + 1 := ⟨m - 1, by omega⟩
      obtain ⟨v0, hv0⟩ := (unhideR hT).cell
      have fr := (unhideR hT).free m'
      have i1 := ix36 uv u0 c17
      have hmm : m' < 65 := by omega
      have hmm2 : (m' : Int) < 65 := by omega
      have hX := hexD_byte' (z := uv) u0 c17
      have ab : U.isBytes (hexD uv :: acc) := bytes_cons hX.1 hX.2 (unhideR hA)
      have T1 := (unhideR hT).put (hexD uv)
      have cv := (T1.bs ab).str
      have B1 : Below w.heap.size w (wr.setCell ⟨w.heap.size, m', none⟩ (.int .u8 (hexD uv))) := hb.setCell (Nat.le_refl _) _
      rw [← e1] at cv
      have sl := cut65 w.heap.size m' hmm
      generalize hexD uv = X at *
      clear HM HS0 HU hf hE hA hT ab T1 hX e1
      go_wp2_with fail
      go_ret2
      exact ⟨rfl, B1⟩
set_option maxRecDepth 20000 in
set_option maxHeartbeats 4000000 in
theorem fbits_neg (M : Int) (h0 : 1 ≤ M) (h1 : M ≤ 9223372036854775808) (w : World) (hd : Db w) :
    Calls Tryz.prog 122 #[.slice none 0 0, .int .u64 (18446744073709551616 - M), .int .i64 16, .bool true, .bool false] w fun e w' => e = .returned (.tuple #[.slice none 0 0, .string (strOfNums (45 :: sixF 15 M))]) ∧ Below w.heap.size w w' := by
  have P2 := hideR pow2_l
  have TZ := hideR (fun W (hW : Below w.heap.size w W) => tz_l W (hd.later hW))
  clear hd
  have HS0 : Hid (sixF 15 M = sixF 15 M ++ []) := by show _ = _; simp
  have HU : Hid (M < 16 ^ (15 + 1)) := by show _ < _; omega
  have n1 : IntKind.u64.wrap (-(18446744073709551616 - M)) = M := by simp [IntKind.wrap, IntKind.bits, IntKind.signed]; omega
  have n2 : IntKind.u64.wrap (M - 18446744073709551616) = M := by simp [IntKind.wrap, IntKind.bits, IntKind.signed]; omega
  generalize hSX : sixF 15 M = SX at *
  have HM := hideR hSX
  clear hSX
  go_enter Tryz.func122, Tryz.ntmps122
  go_wp2_with fail
  refine (unhideR P2 _).mono ?_
  rintro e w1 ⟨rfl, hw1⟩
  obtain rfl := hw1
  clear P2
  go_wp2_with fail
  refine (unhideR TZ _ (Below.new1 _)).mono ?_
  rintro e w1 ⟨rfl, hw1⟩
  obtain rfl := hw1
  clear TZ
  go_wp2_with fail
  go_loopw [1, 13] (fun u i wr => ∃ (f : Nat) (acc : List Int) (uv : Int) (m : Nat), 0 ≤ uv ∧ uv ≤ 18446744073709551615 ∧ Hid (uv < 16 ^ (f + 1)) ∧ f + acc.length = 15 ∧ m + acc.length = 65 ∧ Hid (SX = sixF f uv ++ acc) ∧ Hid (U.isBytes acc) ∧ u = .int .u64 uv ∧ i = .int .i64 (m : Int) ∧ Hid (Tl wr w.heap.size m acc) ∧ Below w.heap.size w wr) (fun u _ _ => (intOf u).toNat)
  case atStart => exact ⟨15, [], M, 65, by omega, by omega, HU, rfl, rfl, by show _ = _; rw [unhideR HM]; exact unhideR HS0, (fun z hz => by cases hz), rfl, rfl, Tl.new w, Below.new1 _⟩
  case round =>
    obtain ⟨f, acc, uv, m, u0, u1, hf, s1, s2, hE, hA, rfl, rfl, hT, hb⟩ := hrel
    by_cases c16 : 16 ≤ uv
    · obtain ⟨g, rfl, es, hlt⟩ := six_step c16 (unhideR hf)
      obtain ⟨m', rfl⟩ : ∃ k, m = k + 1 := ⟨m - 1, by omega⟩
      obtain ⟨v0, hv0⟩ := (unhideR hT).cell
      have fr := (unhideR hT).free m'
      have a1 := and15u uv u0 u1
      have i1 := ix36 (uv % 16) (by omega) (by omega)
      have hmm : m' < 65 := by omega
      have hmm2 : (m' : Int) < 65 := by omega
      have hX := hexD_byte' (z := uv % 16) (by omega) (by omega)
      have HX := hideR hX
      clear hX
      generalize hexD (uv % 16) = X at *
      have HES := hideR es
      have HLT := hideR hlt
      clear es hlt hf
      go_wp2_with fail
      go_roundw
      case rel => exact ⟨g, X :: acc, uv / 16, m', by omega, by omega, HLT, by rw [List.length_cons]; omega, by rw [List.length_cons]; omega, by show _ = _; rw [unhideR hE, unhideR HES]; simp, bytes_cons (unhideR HX).1 (unhideR HX).2 (unhideR hA), rfl, rfl, (unhideR hT).put X, hb.setCell (Nat.le_refl _) _⟩
      case measure => simp only [intOf]; omega
    · have c17 : uv < 16 := by omega
      have e1 : SX = hexD uv :: acc := by rw [unhideR hE, six_last c17]; rfl
      obtain ⟨m', rfl⟩ : ∃ k, m = k + 1 := ⟨m - 1, by omega⟩
      obtain ⟨v0, hv0⟩ := (unhideR hT).cell
      have fr := (unhideR hT).free m'
      have i1 := ix36 uv u0 c17
      have hmm : m' < 65 := by omega
      have hmm2 : (m' : Int) < 65 := by omega
      have hX := hexD_byte' (z := uv) u0 c17
      have ab : U.isBytes (hexD uv :: acc) := bytes_cons hX.1 hX.2 (unhideR hA)
      have T1 := (unhideR hT).put (hexD uv)
      obtain ⟨m2, rfl⟩ : ∃ k, m' = k + 1 := ⟨m' - 1, by omega⟩
      obtain ⟨v1, hv1⟩ := T1.cell
      have fr1 := T1.free m2
      have T2 := T1.put 45
      have cv := (T2.bs (bytes_cons (by omega) (by omega) ab)).str
      have B0 : Below w.heap.size w (wr.setCell ⟨w.heap.size, m2 + 1, none⟩ (.int .u8 (hexD uv))) := hb.setCell (Nat.le_refl _) _
      have B1 : Below w.heap.size w ((wr.setCell ⟨w.heap.size, m2 + 1, none⟩ (.int .u8 (hexD uv))).setCell ⟨w.heap.size, m2, none⟩ (.int .u8 45)) := B0.setCell (Nat.le_refl _) _
      rw [← e1] at cv
      have sl := cut65 w.heap.size m2 (by omega)
      have hm3 : (m2 : Int) < 65 := by omega
      generalize hexD uv = X at *
      clear HM HS0 HU hf hE hA hT ab T1 T2 hX e1
      go_wp2_with fail
      go_ret2
      exact ⟨rfl, B1⟩

/-! ### FormatInt -/
set_option maxRecDepth 20000 in
set_option maxHeartbeats 2000000 in
theorem fi_pos (M : Int) (h0 : 0 ≤ M) (h1 : M ≤ 9223372036854775807) (w : World) (hd : Db w) :
    Calls Tryz.prog 105 #[.int .i64 M, .int .i64 16] w fun e w' => e = .returned (.string (strOfNums (sixF 15 M))) ∧ Below w.heap.size w w' := by
  have C := hideR (fbits_pos M h0 h1 w hd)
  clear hd
  generalize strOfNums (sixF 15 M) = X at *
  have n1 : IntKind.u64.wrap M = M := by simp [IntKind.wrap, IntKind.bits, IntKind.signed]; omega
  have n2 : ¬ (M < 0) := by omega
  go_enter Tryz.func105, Tryz.ntmps105
  go_wp2_with fail
  refine (unhideR C).mono ?_
  rintro e w1 ⟨rfl, b1⟩
  clear C
  go_wp2_with fail
  go_ret
  exact ⟨rfl, b1⟩
set_option maxRecDepth 20000 in
set_option maxHeartbeats 2000000 in
theorem fi_neg (M : Int) (h0 : 1 ≤ M) (h1 : M ≤ 9223372036854775808) (w : World) (hd : Db w) :
    Calls Tryz.prog 105 #[.int .i64 (-M), .int .i64 16] w fun e w' => e = .returned (.string (strOfNums (45 :: sixF 15 M))) ∧ Below w.heap.size w w' := by
  have C := hideR (fbits_neg M h0 h1 w hd)
  clear hd
  generalize strOfNums (45 :: sixF 15 M) = X at *
  have n1 : IntKind.u64.wrap (-M) = 18446744073709551616 - M := by simp [IntKind.wrap, IntKind.bits, IntKind.signed]; omega
  have n2 : -M < 0 := by omega
  have n3 : 0 < M := by omega
  go_enter Tryz.func105, Tryz.ntmps105
  go_wp2_with fail
  refine (unhideR C).mono ?_
  rintro e w1 ⟨rfl, b1⟩
  clear C
  go_wp2_with fail
  go_ret
  exact ⟨rfl, b1⟩
set_option maxRecDepth 20000 in
set_option maxHeartbeats 2000000 in
theorem fmt_pos (M : Int) (h0 : 0 ≤ M) (h1 : M ≤ 9223372036854775807) (w : World) (hd : Db w) :
    Calls Tryz.prog 82 #[.int .i64 M, .int .i64 16] w fun e w' => e = .returned (.string (strOfNums (sixF 15 M))) ∧ Below w.heap.size w w' := by
  have C := hideR (fi_pos M h0 h1 w hd)
  clear hd
  generalize strOfNums (sixF 15 M) = X at *
  go_enter Tryz.func82, Tryz.ntmps82
  go_wp2_with fail
  refine (unhideR C).mono ?_
  rintro e w1 ⟨rfl, b1⟩
  clear C
  go_wp2_with fail
  go_ret
  exact ⟨rfl, b1⟩
set_option maxRecDepth 20000 in
set_option maxHeartbeats 2000000 in
theorem fmt_neg (M : Int) (h0 : 1 ≤ M) (h1 : M ≤ 9223372036854775808) (w : World) (hd : Db w) :
    Calls Tryz.prog 82 #[.int .i64 (-M), .int .i64 16] w fun e w' => e = .returned (.string (strOfNums (45 :: sixF 15 M))) ∧ Below w.heap.size w w' := by
  have C := hideR (fi_neg M h0 h1 w hd)
  clear hd
  generalize strOfNums (45 :: sixF 15 M) = X at *
  go_enter Tryz.func82, Tryz.ntmps82
  go_wp2_with fail
  refine (unhideR C).mono ?_
  rintro e w1 ⟨rfl, b1⟩
  clear C
  go_wp2_with fail
  go_ret
  exact ⟨rfl, b1⟩
/-- a number's digits by sixteen, whatever it is -/
theorem fmt_l (n : Int) (h : fits n) (w : World) (hd : Db w) :
    Calls Tryz.prog 82 #[.int .i64 n, .int .i64 16] w fun e w' => e = .returned (.string (strOfNums (fmt16 n))) ∧ Below w.heap.size w w' := by
  unfold fits at h
  unfold fmt16
  split
  · have := fmt_neg (-n) (by omega) (by omega) w hd
    rw [Int.neg_neg] at this
    exact this
  · exact fmt_pos n (by omega) (by omega) w hd
end Go.Proofs.YtcnjelbbcjpemaaGreatDoor.T

/- Plain mathematics of layer 5: a number's digits by sixteen, whatever the number; what may be, told by what is written. -/
namespace Go.Proofs.YtcnjelbbcjpemaaGreatDoor.T
open Go.RowKit
set_option linter.unusedVariables false
set_option linter.unusedSimpArgs false

/-- an end of a class's items, whatever the number -/
def shA (n : Int) : List Int := if plainB n then [n] else 92 :: 117 :: (fmt16 n ++ [59])
theorem shA_may {n : Int} (h : U.mayB n = true) : shA n = showO false n := by
  have hn := (U.may_iff n).1 h
  unfold shA showO
  rw [if_neg (by simp : ¬ (false = true))]
  split
  · rfl
  · unfold fmt16 sixL
    rw [if_neg (by omega), six_more 5 15 n (by omega) (by omega) (by omega)]
theorem shA_bytes {n : Int} (h : fits n) : U.isBytes (shA n) ∧ (shA n).length ≤ 100 := by
  obtain ⟨f1, f2⟩ := fmt_bytes h
  unfold shA
  split
  · next c =>
    have := plain_iff.1 c
    exact ⟨bytes_cons (by omega) (by omega) (fun y hy => by cases hy), by simp⟩
  · exact ⟨bytes_cons (by omega) (by omega) (bytes_cons (by omega) (by omega) (bytes_app f1 (bytes_cons (by omega) (by omega) (fun y hy => by cases hy)))), by simp; omega⟩
theorem flat_eq {α : Type} {f g : α → List Int} : ∀ {l : List α}, (∀ x ∈ l, f x = g x) → l.flatMap f = l.flatMap g := by
  intro l
  induction l with
  | nil => intro _; rfl
  | cons x l ih => intro h; rw [List.flatMap_cons, List.flatMap_cons, h x (List.mem_cons_self ..), ih fun y hy => h y (List.mem_cons_of_mem _ hy)]
theorem parts_wr {t : Tk} (h : partsB t = true) : wrL shA t = textL t := by
  obtain ⟨k, x, R⟩ := t
  unfold partsB at h
  simp only [Bool.and_eq_true, decide_eq_true_eq, List.all_eq_true, Bool.or_eq_true] at h
  obtain ⟨⟨⟨h0, h5⟩, hm⟩, ha⟩ := h
  unfold wrL textL
  simp only
  by_cases c0 : k = 0
  · subst c0; simp
  by_cases c4 : k = 4
  · subst c4; simp
  rw [if_neg (by omega)]
  by_cases c5 : k = 5
  · subst c5; simp
  rw [if_neg c5, if_neg c5]
  by_cases c1 : k = 1
  · subst c1; simp
  rw [if_neg c1, if_neg c1]
  by_cases c2 : k = 2
  · subst c2
    rw [if_pos rfl, if_pos rfl]
    have : R.flatMap (showR shA) = R.flatMap (showI false) := flat_eq fun r hr => by
      obtain ⟨q1, -⟩ := ha r hr
      rcases q1 with q1 | ⟨q1, q2⟩
      · exact absurd rfl q1
      · unfold showR showI
        rw [shA_may q1, shA_may q2]
    rw [this]; rfl
  rw [if_neg c2, if_neg c2]
  obtain rfl : k = 3 := by omega
  rw [if_pos rfl, if_pos rfl]
  have : R.flatMap (showR hexT) = R.flatMap (showI true) := flat_eq fun r hr => by
    obtain ⟨-, q1⟩ := ha r hr
    have hb := G.may_mem hm hr
    rcases q1 with q1 | q1
    · exact absurd rfl q1
    · unfold showR showI showO
      rw [hexT_is (by omega) (by omega), hexT_is (by omega) (by omega)]
      rfl
  rw [this]; rfl
theorem one_of {t : Tk} {x : Sum (Nat × Int) (List (Tk × Nat))} (h : oneB t x = true) : ∃ p, x = .inr [(t, p)] := by
  unfold oneB at h
  split at h
  · next u p => rw [decide_eq_true_eq] at h; subst h; exact ⟨p, rfl⟩
  · cases h
theorem mayL_one (t : Tk) : mayL t = (partsB t && oneB t (allL (textL t))) := rfl
theorem mayW_all {t : Tk} (hb : U.isBytes (wrL shA t)) : mayW shA t = mayL t := by
  rw [mayL_one]
  unfold mayW
  cases hp : partsB t with
  | true => rw [parts_wr hp]; rfl
  | false =>
    rw [Bool.false_and]
    cases hm : oneB t (allL (wrL shA t)) with
    | false => rfl
    | true =>
      obtain ⟨p, e⟩ := one_of hm
      have := parts_ok (allL_ok hb e (t, p) (List.mem_singleton.2 rfl))
      rw [hp] at this
      cases this
theorem txtW_all {t : Tk} (hb : U.isBytes (wrL shA t)) : txtW shA t = if mayL t then textL t else [] := by
  unfold txtW
  rw [mayW_all hb]
  cases hm : mayL t with
  | false => rfl
  | true =>
    rw [mayL_one, Bool.and_eq_true] at hm
    rw [if_pos rfl, if_pos rfl, parts_wr hm.1]
/-- a token's text, nothing if it may not be -/
def txtL (t : Tk) : List Int := if mayL t then textL t else []

/-! ### scalarText at every number -/
theorem plain_no {n : Int} (h : plainB n = false) : seenB n = false ∨ (seenB n = true ∧ U.mayB n = true ∧ standB n = false) := by
  cases hs : seenB n with
  | false => exact .inl rfl
  | true =>
    have h1 : 32 ≤ n ∧ n ≤ 126 := by unfold seenB at hs; simp at hs; exact hs
    refine .inr ⟨rfl, (U.may_iff n).2 (by omega), ?_⟩
    cases hc : standB n with
    | false => rfl
    | true =>
      exfalso
      have : plainB n = true := by
        rw [plain_iff]
        simp [standB, clsB] at hc
        omega
      rw [h] at this
      cases this
set_option maxRecDepth 20000 in
set_option maxHeartbeats 2000000 in
theorem scalarT_l (n : Int) (h : fits n) (w : World) (hd : Db w) :
    Calls Tryz.prog 54 #[.int .i64 n] w fun e w' => e = .returned (.string (strOfNums (shA n))) ∧ Below w.heap.size w w' := by
  cases hp : plainB n with
  | true =>
    have : shA n = [n] := by unfold shA; rw [hp]; rfl
    rw [this]
    exact scalarT_plain n hp w
  | false =>
    obtain ⟨fb, fl⟩ := fmt_bytes h
    have es : shA n = ([92, 117] ++ fmt16 n) ++ [59] := by unfold shA; rw [hp]; simp
    have st_bu : St ⟨#[92, 117]⟩ [92, 117] := ⟨rfl, by intro z hz; simp at hz; omega⟩
    have st_se : St ⟨#[59]⟩ [59] := ⟨rfl, by intro z hz; simp at hz; omega⟩
    rw [es, ← (St.app (St.app st_bu (St.of fb)) st_se).1]
    have zf : (strOfNums (fmt16 n)).size ≤ 17 := by rw [strOfNums_size]; exact fl
    have CF := hideR (fun W (bW : Below w.heap.size w W) => fmt_l n h W (hd.later bW))
    have C1 := hideR (isSeen_l n h.1 h.2)
    clear hd es st_bu st_se fb fl
    generalize strOfNums (fmt16 n) = X at *
    rcases plain_no hp with hs | ⟨hs, hm, hc⟩
    · rw [hs] at C1
      clear h hp hs
      go_enter Tryz.func54, Tryz.ntmps54
      go_wp2_with fail
      refine (unhideR C1 _).mono ?_
      rintro e w1 ⟨rfl, hw1⟩
      obtain rfl : w = w1 := hw1.symm
      clear hw1 C1
      go_wp2_with fail
      refine (unhideR CF _ (Below.refl _ _)).mono ?_
      rintro e w2 ⟨rfl, b2⟩
      clear CF
      go_wp2_with fail
      go_ret
      exact ⟨rfl, b2⟩
    · have C2 := hideR (fun W => standsInClass_l n (.inr hm) W)
      rw [hs] at C1
      rw [hc] at C2
      clear h hp hs hm hc
      go_enter Tryz.func54, Tryz.ntmps54
      go_wp2_with fail
      refine (unhideR C1 _).mono ?_
      rintro e w1 ⟨rfl, hw1⟩
      obtain rfl : w = w1 := hw1.symm
      clear hw1 C1
      go_wp2_with fail
      refine (unhideR C2 _).mono ?_
      rintro e w2 ⟨rfl, b2⟩
      clear C2
      go_wp2_with fail
      refine (unhideR CF _ b2).mono ?_
      rintro e w3 ⟨rfl, b3⟩
      clear CF
      go_wp2_with fail
      go_ret
      exact ⟨rfl, bthen b2 b3⟩
/-- ends of whatever ranges, where the library's table lies -/
theorem ender_any (w : World) (hd : Db w) (R : List (Int × Int)) (h : ∀ r ∈ R, fits r.1 ∧ fits r.2) : Enders w shA R :=
  ⟨fits, fun n hn => shA_bytes hn, h, fun n hn W bW => scalarT_l n hn W (hd.later bW)⟩
end Go.Proofs.YtcnjelbbcjpemaaGreatDoor.T

/- Plain mathematics of layer 5: which errors All tells. -/
namespace Go.Proofs.YtcnjelbbcjpemaaGreatDoor.T
set_option linter.unusedSimpArgs false
set_option linter.unusedVariables false

theorem allF_err : ∀ (f a c : Nat) (r : List Int) (e : Nat × Int), allF f a c r = .inl e → e.2 = 2 ∨ e.2 = 7 := by
  intro f
  induction f with
  | zero => intro a c r e h; cases h
  | succ f ih =>
    intro a c r e h
    unfold allF at h
    split at h
    · cases h
    · split at h
      · exact ih _ _ _ _ h
      · split at h
        · injection h with h; subst h; exact .inl rfl
        · split at h
          · injection h with h; subst h; exact .inr rfl
          · split at h
            · next e' he => injection h with h; subst h; exact ih _ _ _ _ he
            · cases h
theorem allL_err {s : List Int} {p : Nat} {er : Int} (h : allL s = .inl (p, er)) : er = 2 ∨ er = 7 := by
  unfold allL at h
  split at h
  · injection h with h; injection h with h1 h2; exact .inr h2.symm
  · exact allF_err _ _ _ _ _ h
theorem nl_app (s t : List Int) : (s ++ [10, 32]) ++ t = s ++ 10 :: 32 :: t := by simp
/-- the i-th token of both: of the first text, or of the second one, as much further -/
theorem both_at (a b : List (Tk × Nat)) (d i : Nat) : (a ++ b.map fun p => (p.1, p.2 + d))[i]? = if i < a.length then a[i]? else (b[i - a.length]?).map fun p => (p.1, p.2 + d) := by
  split
  · next h => rw [List.getElem?_append_left h]
  · next h => rw [List.getElem?_append_right (by omega), List.getElem?_map]
theorem allF_place : ∀ (f a c : Nat) (r : List Int) (e : Nat × Int), U.isBytes r → allF f a c r = .inl e → e.1 ≤ a + r.length := by
  intro f
  induction f with
  | zero => intro a c r e _ h; cases h
  | succ f ih =>
    intro a c r e hb h
    unfold allF at h
    split at h
    · cases h
    · next hr =>
      have hl : 0 < r.length := by cases r <;> simp_all
      split at h
      · have := ih _ _ _ _ (fun z hz => hb z (List.mem_of_mem_drop hz)) h
        rw [List.length_drop] at this
        omega
      · split at h
        · injection h with h; subst h; simp
        · next t n ht =>
          have hn := (tok_ok hb ht).2.2
          split at h
          · injection h with h; subst h; simp
          · split at h
            · next e' he =>
              injection h with h; subst h
              have := ih _ _ _ _ (fun z hz => hb z (List.mem_of_mem_drop hz)) he
              rw [List.length_drop] at this
              omega
            · cases h
theorem allL_place {s : List Int} (hb : U.isBytes s) {p : Nat} {er : Int} (h : allL s = .inl (p, er)) : p ≤ s.length := by
  unfold allL at h
  split at h
  · injection h with h; injection h with h1 h2; omega
  · have := allF_place _ _ _ _ _ hb h
    simpa using this
theorem allF_at : ∀ (f a c : Nat) (r : List Int) (l : List (Tk × Nat)), U.isBytes r → allF f a c r = .inr l → ∀ p ∈ l, p.2 ≤ a + r.length := by
  intro f
  induction f with
  | zero => intro a c r l _ h p hp; injection h with h; subst h; cases hp
  | succ f ih =>
    intro a c r l hb h p hp
    unfold allF at h
    split at h
    · injection h with h; subst h; cases hp
    · next hr =>
      have hl : 0 < r.length := by cases r <;> simp_all
      split at h
      · have := ih _ _ _ _ (fun z hz => hb z (List.mem_of_mem_drop hz)) h p hp
        rw [List.length_drop] at this
        omega
      · split at h
        · cases h
        · next t n ht =>
          have hn := (tok_ok hb ht).2.2
          split at h
          · cases h
          · split at h
            · cases h
            · next l' he =>
              injection h with h; subst h
              rcases List.mem_cons.1 hp with rfl | hp
              · simp
              · have := ih _ _ _ _ (fun z hz => hb z (List.mem_of_mem_drop hz)) he p hp
                rw [List.length_drop] at this
                omega
theorem allL_at {s : List Int} (hb : U.isBytes s) {l : List (Tk × Nat)} (h : allL s = .inr l) : ∀ p ∈ l, p.2 ≤ s.length := by
  unfold allL at h
  split at h
  · cases h
  · intro p hp
    have := allF_at _ _ _ _ _ hb h p hp
    simpa using this
end Go.Proofs.YtcnjelbbcjpemaaGreatDoor.T

/- The walk of TokenBlank. -/
namespace Go.Proofs.YtcnjelbbcjpemaaGreatDoor.T
open Go.RowKit
set_option linter.unusedVariables false
set_option linter.unusedSimpArgs false

theorem st_of' (s : ByteArray) : ∃ l, St s l := by
  refine ⟨s.data.toList.map fun b => (b.toNat : Int), ?_, ?_⟩
  · apply ByteArray.ext
    apply Array.ext'
    rw [strOfNums_data, List.map_map]
    symm
    conv => rhs; rw [← List.map_id s.data.toList]
    refine List.map_congr_left fun b _ => ?_
    simp
  · intro z hz
    obtain ⟨b, _, rfl⟩ := List.mem_map.1 hz
    have := b.toNat_lt
    omega
theorem tks_form {w : World} {base : Nat} {v : Value} {ts : List (Tk × Nat)} (h : Tks w base v ts) : ∃ p c, v = .slice p ts.length c := by
  obtain ⟨cs, ho, -⟩ := h
  obtain ⟨p, c, e⟩ := own_form ho
  exact ⟨p, c, e⟩
/-- one of the tokens, where they lie, in every later world -/
theorem tks_cells {w : World} {base : Nat} {p : Option Addr} {n c : Nat} {ts : List (Tk × Nat)} (h : Tks w base (.slice p n c) ts) {i : Nat} {t : Tk} {q : Nat} (hi : ts[i]? = some (t, q)) :
    ∃ g a c', p = some ⟨g, 0, none⟩ ∧ g < w.heap.size ∧ ∀ W, Below w.heap.size w W → W.cell? ⟨g, i * 4, none⟩ = some (.int .i64 t.1) ∧ W.cell? ⟨g, i * 4 + 1, none⟩ = some (.string (strOfNums t.2.1)) ∧ W.cell? ⟨g, i * 4 + 2, none⟩ = some (.slice a t.2.2.length c') ∧ W.cell? ⟨g, i * 4 + 3, none⟩ = some (.int .i64 (q : Int)) ∧ Rs W a t.2.2.length c' t.2.2 := by
  obtain ⟨g, cap, a, c', ev, h1, h2, h3, y0, y1, y2, y3, hr⟩ := tks_at h hi
  injection ev with e1 e2 e3
  rw [show 4 * i = i * 4 by omega] at y0 y1 y2 y3
  have gl := block_lt' y0
  exact ⟨g, a, c', e1, gl, fun W b => ⟨(b.cell gl).trans y0, (b.cell gl).trans y1, (b.cell gl).trans y2, (b.cell gl).trans y3, Rs.later hr b (Nat.le_refl _)⟩⟩
set_option maxRecDepth 20000 in
set_option maxHeartbeats 16000000 in
theorem tokenBlank_walk (s u : ByteArray) (w : World) (hs0 : s.size ≤ maxLen) (hu0 : u.size ≤ maxLen) :
    Calls Tryz.prog 5 #[.string s, .string u] w fun e w' => e = .returned (.bool true) ∧ Below w.heap.size w w' := by
  have CU := hideR (awake5_any w)
  by_cases B1 : 1000 < s.size
  · have t1 : (1000 : Int) < (s.size : Int) := by omega
    go_enter Tryz.func5, Tryz.ntmps5
    go_wp2_with fail
    refine (unhideR CU).mono ?_
    rintro e w1 ⟨rfl, b1⟩
    clear CU
    go_wp2_with fail
    go_ret
    exact ⟨rfl, b1⟩
  have t1 : (s.size : Int) ≤ 1000 := by omega
  by_cases B2 : 1000 < u.size
  · have t1 : (1000 : Int) < (u.size : Int) := by omega
    go_enter Tryz.func5, Tryz.ntmps5
    go_wp2_with fail
    refine (unhideR CU).mono ?_
    rintro e w1 ⟨rfl, b1⟩
    clear CU
    go_wp2_with fail
    go_ret
    exact ⟨rfl, b1⟩
  have t2 : (u.size : Int) ≤ 1000 := by omega
  obtain ⟨ls, hs⟩ := st_of' s
  obtain ⟨lu, hu⟩ := st_of' u
  have zs := hs.size
  have zu := hu.size
  have st_nl : St ⟨#[10, 32]⟩ [10, 32] := ⟨rfl, by intro z hz; simp at hz; omega⟩
  have C1 := hideR (fun W => all_l s ls hs (by omega) W)
  have C2 := hideR (fun W => all_l u lu hu (by omega) W)
  have hsn := St.app (St.app hs st_nl) hu
  rw [nl_app] at hsn
  have C3 := hideR (fun W => all_l _ _ hsn (by rw [List.length_append, List.length_cons, List.length_cons]; omega) W)
  have hz1 : s.size ≤ 1000 := by omega
  have hz2 : u.size ≤ 1000 := by omega
  have HBB := hideR (fun (a b : List (Tk × Nat)) ha hb => blank_both (a := a) (b := b) hs.2 hu.2 (by omega) ha hb)
  have HBD := hideR (fun (a : List (Tk × Nat)) (e : Nat × Int) ha hb => blank_bad (a := a) (e := e) hs.2 hu.2 (by omega) ha hb)
  have HBS := hideR hs.2
  have HBU := hideR hu.2
  have HB1 := hideR (fun (a : List (Tk × Nat)) ha => all_bound (a := a) hs.2 ha)
  have HB2 := hideR (fun (a : List (Tk × Nat)) ha => all_bound (a := a) hu.2 ha)
  rw [← zs] at HBB HBD
  have HZS := hideR zs
  have HZU := hideR zu
  clear hs hu st_nl hsn zs zu
  generalize hLN : ls ++ 10 :: 32 :: lu = LN at *
  go_enter Tryz.func5, Tryz.ntmps5
  go_wp2_with fail
  refine (unhideR CU).mono ?_
  rintro e w1 ⟨rfl, b1⟩
  clear CU
  go_wp2_with fail
  refine (unhideR C1 _).mono ?_
  rintro e w2 ⟨ar, b2⟩
  clear C1
  rcases ar with ⟨pa, er, ea, rfl⟩ | ⟨ta, va, ea, rfl, ka⟩
  · have er0 : (er != 0) = true := by rcases allL_err ea with rfl | rfl <;> rfl
    clear ea HBB HBD HBS HBU HB1 HB2
    go_wp2_with fail
    refine (unhideR C2 _).mono ?_
    rintro e w3 ⟨ar, b3⟩
    clear C2
    obtain ⟨vb, x1, x2, rfl⟩ : ∃ v x1 x2, e = .returned (.tuple #[v, .int .i64 x1, .int .i64 x2]) := by
      rcases ar with ⟨pa, er, ea, rfl⟩ | ⟨ts, v, ea, rfl, tk⟩
      · exact ⟨_, _, _, rfl⟩
      · exact ⟨_, _, _, rfl⟩
    clear ar
    go_wp2_with fail
    refine (unhideR C3 _).mono ?_
    rintro e w4 ⟨ar, b4⟩
    clear C3
    obtain ⟨vc, y1, y2, rfl⟩ : ∃ v x1 x2, e = .returned (.tuple #[v, .int .i64 x1, .int .i64 x2]) := by
      rcases ar with ⟨pa, er, ea, rfl⟩ | ⟨ts, v, ea, rfl, tk⟩
      · exact ⟨_, _, _, rfl⟩
      · exact ⟨_, _, _, rfl⟩
    clear ar
    go_wp2_with fail
    go_ret
    exact ⟨retB (by first | rfl | simp), bthen (bthen (bthen b1 b2) b3) b4⟩
  have la := unhideR HB1 _ ea
  obtain ⟨qa, ca, rfl⟩ := tks_form ka
  clear HB1
  go_wp2_with fail
  refine (unhideR C2 _).mono ?_
  rintro e w3 ⟨ar, b3⟩
  clear C2
  rcases ar with ⟨pb, er, eb, rfl⟩ | ⟨tb, vb, eb, rfl, kb⟩
  · have er1 : er = 2 ∨ er = 7 := allL_err eb
    have hbd := unhideR HBD _ _ ea eb
    have hlp : ¬ ((600 : Int) < (ta.length : Int)) := by omega
    have hpb : pb ≤ 1000 := by have := allL_place (unhideR HBU) eb; rw [← unhideR HZU] at this; omega
    clear ea HBB HBD HBS HBU HB2 ka eb
    go_wp2_with fail
    refine (unhideR C3 _).mono ?_
    rintro e w4 ⟨ar, b4⟩
    clear C3
    rcases ar with ⟨pc, ec, ee, rfl⟩ | ⟨tc, vc, ee, rfl, kc⟩
    · have BB := bthen (bthen (bthen b1 b2) b3) b4
      rw [ee] at hbd
      rcases hbd with h | ⟨p, h⟩
      · injection h with h
        injection h with h1 h2
        subst h2
        have hpc : (pc : Int) = (pb : Int) + (s.size : Int) + 2 := by rw [h1]; omega
        clear h1 ee
        rcases er1 with rfl | rfl
        · go_wp2_with fail
          go_ret
          exact ⟨retB (by first | rfl | simp), BB⟩
        · go_wp2_with fail
          go_ret
          exact ⟨retB (by first | rfl | simp), BB⟩
      · injection h with h
        injection h with h1 h2
        subst h2
        clear h1 ee
        rcases er1 with rfl | rfl
        · go_wp2_with fail
          go_ret
          exact ⟨retB (by first | rfl | simp), BB⟩
        · by_cases hpc : (pc : Int) = (pb : Int) + (s.size : Int) + 2
          · go_wp2_with fail
            go_ret
            exact ⟨retB (by first | rfl | simp), BB⟩
          · have hpc2 : ((pc : Int) == (pb : Int) + (s.size : Int) + 2) = false := beq_eq_false_iff_ne.2 hpc
            go_wp2_with fail
            go_ret
            exact ⟨retB (by first | rfl | simp), BB⟩
    · rw [ee] at hbd
      rcases hbd with h | ⟨p, h⟩ <;> cases h
  have lb := unhideR HB2 _ eb
  obtain ⟨hb1, hb2⟩ := unhideR HBB _ _ ea eb
  obtain ⟨qb, cb, rfl⟩ := tks_form kb
  clear HB2 HBD HBB
  go_wp2_with fail
  refine (unhideR C3 _).mono ?_
  rintro e w4 ⟨ar, b4⟩
  clear C3
  have BB := bthen (bthen (bthen b1 b2) b3) b4
  by_cases many : 600 < ta.length + tb.length
  · obtain ⟨p, hp⟩ := hb2 many
    have many1 : (600 : Int) < (ta.length : Int) + (tb.length : Int) := by omega
    rcases ar with ⟨pc, ec, ee, rfl⟩ | ⟨tc, vc, ee, rfl, kc⟩
    · rw [ee] at hp
      injection hp with hp
      injection hp with _ hp
      subst hp
      clear hb1 hb2 ka kb ea eb ee HBS HBU
      go_wp2_with fail
      go_ret
      exact ⟨retB (by first | rfl | simp), BB⟩
    · rw [ee] at hp; cases hp
  have hb1 := hb1 (by omega)
  have many1 : (ta.length : Int) + (tb.length : Int) ≤ 600 := by omega
  rcases ar with ⟨pc, ec, ee, rfl⟩ | ⟨tc, vc, ee, rfl, kc⟩
  · rw [ee] at hb1; cases hb1
  have htc : tc = ta ++ tb.map fun p => (p.1, p.2 + (s.size + 2)) := by rw [ee] at hb1; injection hb1
  have hlc : tc.length = ta.length + tb.length := by rw [htc, List.length_append, List.length_map]
  obtain ⟨qc, cc, rfl⟩ := tks_form kc
  have hlc1 : (tc.length : Int) = (ta.length : Int) + (tb.length : Int) := by omega
  have HTC := hideR htc
  have HKA := hideR ka
  have HKB := hideR kb
  have HKC := hideR kc
  have HOA := hideR (allL_ok (unhideR HBS) ea)
  have HOB := hideR (allL_ok (unhideR HBU) eb)
  have HLC := hideR hlc
  have HPB := hideR (allL_at (unhideR HBU) eb)
  clear hb1 hb2 ka kb kc ea eb ee htc hlc
  go_wp2_with fail
  go_loopw [15] (fun j wr => ∃ k : Nat, k ≤ tc.length ∧ j = .int .i64 (k : Int) ∧ Below w4.heap.size w4 wr) (fun j _ => tc.length - (intOf j).toNat)
  case atStart => exact ⟨0, Nat.zero_le _, rfl, Below.refl _ _⟩
  case round =>
    obtain ⟨k, hk, rfl, hbw⟩ := hrel
    by_cases hlt : k < tc.length
    · by_cases hka : k < ta.length
      · obtain ⟨⟨t, q⟩, hta⟩ : ∃ x, ta[k]? = some x := ⟨_, List.getElem?_eq_getElem hka⟩
        have htc' : tc[k]? = some (t, q) := by rw [unhideR HTC, both_at, if_pos hka]; exact hta
        obtain ⟨ga, ra, c1, rfl, gla, fa⟩ := tks_cells (unhideR HKA) hta
        obtain ⟨gc, rc, c2, rfl, glc, fc⟩ := tks_cells (unhideR HKC) htc'
        have okt : fits t.1 ∧ U.isBytes t.2.1 := ok_parts (unhideR HOA (t, q) (List.mem_of_getElem? hta))
        have FA := fun W (b : Below w4.heap.size w4 W) => fa W (bthen (bthen b3 b4) b)
        have C := hideR (fun W (bW : Below w4.heap.size w4 W) => same_l t t rc ra c2 c1 q q W okt.1 okt.2 (fc W bW).2.2.2.2 okt.1 okt.2 (FA W bW).2.2.2.2)
        have dt : decide (t = t) = true := by simp
        rw [dt] at C
        unfold tokAgg at C
        obtain ⟨y0, y1, y2, y3, -⟩ := FA wr hbw
        obtain ⟨x0, x1, x2, x3, -⟩ := fc wr hbw
        have hk1 : (k : Int) < (ta.length : Int) := by omega
        have hk7 : decide ((ta.length : Int) ≤ (k : Int)) = false := by simp; omega
        have hk8 : decide (ta.length ≤ k) = false := by simp; omega
        have hk2 : (k : Int) < (ta.length : Int) + (tb.length : Int) := by omega
        have gla' : ga < wr.heap.size := by have := (bthen b3 b4).size; have := hbw.size; omega
        have glc' : gc < wr.heap.size := by have := hbw.size; omega
        generalize strOfNums t.2.1 = S at *
        generalize t.1 = K at *
        generalize t.2.2.length = M at *
        clear HTC HKA HKB HKC HOA HOB HLC hta htc' okt fa fc FA dt
        go_wp2_with fail
        go_region_held3 (fun w' => w'.cell? ⟨gc, k * 4, none⟩ = some (.int .i64 K) ∧ w'.cell? ⟨gc, k * 4 + 1, none⟩ = some (.string S) ∧ w'.cell? ⟨gc, k * 4 + 2, none⟩ = some (.slice rc M c2) ∧ w'.cell? ⟨gc, k * 4 + 3, none⟩ = some (.int .i64 (q : Int)) ∧ w'.cell? ⟨ga, k * 4, none⟩ = some (.int .i64 K) ∧ w'.cell? ⟨ga, k * 4 + 1, none⟩ = some (.string S) ∧ w'.cell? ⟨ga, k * 4 + 2, none⟩ = some (.slice ra M c1) ∧ w'.cell? ⟨ga, k * 4 + 3, none⟩ = some (.int .i64 (q : Int)))
          (first
            | exact ⟨x0, x1, x2, x3, y0, y1, y2, y3⟩
            | exact ⟨(b5.cell glc').trans x0, (b5.cell glc').trans x1, (b5.cell glc').trans x2, (b5.cell glc').trans x3, (b5.cell gla').trans y0, (b5.cell gla').trans y1, (b5.cell gla').trans y2, (b5.cell gla').trans y3⟩)
          ((go_at_call 18; refine (unhideR C _ (hbw.trans draws_b)).mono ?_; rintro e w5 ⟨rfl, b5⟩))
        clear C y0 y1 y2 y3 x0 x1 x2 x3
        go_wp2_with fail
        go_quiet (fail)
        go_wp2_with fail
        go_roundw
        case rel => exact ⟨k + 1, by omega, by go_num, hbw.trans ((draws_b (k := 1)).trans ((b5.mono (by have := hbw.size; show _ ≤ wr.heap.size; omega)).trans draws_b))⟩
        case measure => simp [intOf]; omega
      · obtain ⟨j, hj⟩ : ∃ j, k = ta.length + j := ⟨k - ta.length, by omega⟩
        have HJ := hideR hj
        have hjb : j < tb.length := by have := unhideR HLC; omega
        obtain ⟨⟨t, q⟩, htb⟩ : ∃ x, tb[j]? = some x := ⟨_, List.getElem?_eq_getElem hjb⟩
        have htc' : tc[k]? = some (t, q + (s.size + 2)) := by rw [unhideR HTC, both_at, if_neg hka, hj, Nat.add_sub_cancel_left, htb]; rfl
        obtain ⟨ga, ra, c1, rfl, gla, fa⟩ := tks_cells (unhideR HKB) htb
        obtain ⟨gc, rc, c2, rfl, glc, fc⟩ := tks_cells (unhideR HKC) htc'
        have okt : fits t.1 ∧ U.isBytes t.2.1 := ok_parts (unhideR HOB (t, q) (List.mem_of_getElem? htb))
        have hq : q ≤ 1000 := by have := unhideR HPB (t, q) (List.mem_of_getElem? htb); rw [← unhideR HZU] at this; simp only at this; omega
        have FA := fun W (b : Below w4.heap.size w4 W) => fa W (bthen b4 b)
        generalize hQN : q + (s.size + 2) = QN at *
        have C := hideR (fun W (bW : Below w4.heap.size w4 W) => same_l t t rc ra c2 c1 QN q W okt.1 okt.2 (fc W bW).2.2.2.2 okt.1 okt.2 (FA W bW).2.2.2.2)
        have dt : decide (t = t) = true := by simp
        rw [dt] at C
        unfold tokAgg at C
        obtain ⟨y0, y1, y2, y3, -⟩ := FA wr hbw
        obtain ⟨x0, x1, x2, x3, -⟩ := fc wr hbw
        have hk1 : ¬ ((k : Int) < (ta.length : Int)) := by omega
        have hk7 : decide ((k : Int) < (ta.length : Int)) = false := by simp; omega
        have hk8 : decide (k < ta.length) = false := by simp; omega
        have hk9 : decide ((ta.length : Int) ≤ (k : Int)) = true := by simp; omega
        have hk0 : decide (ta.length ≤ k) = true := by simp; omega
        have hk3 : (ta.length : Int) ≤ (k : Int) := by omega
        have hk2 : (k : Int) < (ta.length : Int) + (tb.length : Int) := by omega
        have hk4 : (k : Int) - (ta.length : Int) = (j : Int) := by omega
        have hk5 : IntKind.i64.wrap ((k : Int) - (ta.length : Int)) = (j : Int) := by rw [hk4]; exact wrapI _ (by omega)
        have hjb' : (j : Int) < (tb.length : Int) := by omega
        have hk6 := wrapI (j : Int) (by omega)
        have hs1 : (q : Int) + (s.size : Int) + 2 = (QN : Int) := by omega
        have hs2 := wrapI ((q : Int) + (s.size : Int)) (by omega)
        have hs3 : IntKind.i64.wrap ((q : Int) + (s.size : Int) + 2) = (QN : Int) := by rw [hs1]; exact wrapI _ (by omega)
        have gla' : ga < wr.heap.size := by have := b4.size; have := hbw.size; omega
        have glc' : gc < wr.heap.size := by have := hbw.size; omega
        have hQH := hideR hQN
        generalize strOfNums t.2.1 = S at *
        generalize t.1 = K at *
        generalize t.2.2.length = M at *
        clear HTC HKA HKB HKC HOA HOB HLC htb htc' okt fa fc FA dt hQN hj HPB hs1
        go_wp2_with fail
        go_quiet (fail)
        go_wp2_with fail
        go_region_held3 (fun w' => w'.cell? ⟨gc, k * 4, none⟩ = some (.int .i64 K) ∧ w'.cell? ⟨gc, k * 4 + 1, none⟩ = some (.string S) ∧ w'.cell? ⟨gc, k * 4 + 2, none⟩ = some (.slice rc M c2) ∧ w'.cell? ⟨gc, k * 4 + 3, none⟩ = some (.int .i64 (QN : Int)) ∧ w'.cell? ⟨ga, j * 4, none⟩ = some (.int .i64 K) ∧ w'.cell? ⟨ga, j * 4 + 1, none⟩ = some (.string S) ∧ w'.cell? ⟨ga, j * 4 + 2, none⟩ = some (.slice ra M c1) ∧ w'.cell? ⟨ga, j * 4 + 3, none⟩ = some (.int .i64 (q : Int)))
          (first
            | exact ⟨x0, x1, x2, x3, y0, y1, y2, y3⟩
            | exact ⟨(b5.cell glc').trans x0, (b5.cell glc').trans x1, (b5.cell glc').trans x2, (b5.cell glc').trans x3, (b5.cell gla').trans y0, (b5.cell gla').trans y1, (b5.cell gla').trans y2, (b5.cell gla').trans y3⟩)
          ((go_at_call 18; refine (unhideR C _ (hbw.trans draws_b)).mono ?_; rintro e w5 ⟨rfl, b5⟩))
        clear C
        all_goals (go_wp2_with fail)
        all_goals go_roundw
        case rel => exact ⟨k + 1, by omega, by go_num, hbw.trans (draws_b.trans (b5.mono (by have := hbw.size; show _ ≤ wr.heap.size; omega)))⟩
        case measure => simp [intOf]; omega
    · obtain rfl : k = tc.length := by omega
      have hno : ¬ ((tc.length : Int) < (ta.length : Int) + (tb.length : Int)) := by omega
      go_wp2_with fail
      go_ret
      exact ⟨rfl, bthen BB hbw⟩
end Go.Proofs.YtcnjelbbcjpemaaGreatDoor.T

/- The walk of TokenBack. -/
namespace Go.Proofs.YtcnjelbbcjpemaaGreatDoor.T
open Go.RowKit
set_option linter.unusedVariables false
set_option linter.unusedSimpArgs false

theorem keep_c {W V X : World} (b : Below W.heap.size W X) (e : V.heap = W.heap) {g o : Nat} {v : Value} (h : V.cell? ⟨g, o, none⟩ = some v) : X.cell? ⟨g, o, none⟩ = some v := by
  have h' : W.cell? ⟨g, o, none⟩ = some v := by
    unfold World.cell? at *
    rw [← e]
    exact h
  exact (b.cell (block_lt' h')).trans h'
theorem flat_ge {α : Type} {f : α → List Int} : ∀ {l : List α}, (∀ x ∈ l, f x ≠ []) → l.length ≤ (l.flatMap f).length := by
  intro l
  induction l with
  | nil => intro _; simp
  | cons x l ih =>
    intro h
    have h1 := ih fun y hy => h y (List.mem_cons_of_mem _ hy)
    have h2 : 0 < (f x).length := by have := h x (List.mem_cons_self ..); cases hq : f x <;> simp_all
    rw [List.flatMap_cons, List.length_append, List.length_cons]
    omega
theorem ok_sizes {t : Tk} (h : okT t) (hl : (textL t).length ≤ 3000) : t.2.1.length ≤ 3000 ∧ t.2.2.length ≤ 3000 := by
  obtain ⟨k, x, R⟩ := t
  rcases h with ⟨rfl, h1, h2, h3⟩ | ⟨rfl, h1, h2⟩ | ⟨rfl, ⟨c, h1, h2⟩, h3⟩ | ⟨rfl, h1, h2, h3⟩ | ⟨rfl, h1, h2, h3⟩ | ⟨rfl, h1, h2, h3⟩
  · simp only at h1 h2 h3 ⊢; rw [h3]; simp; omega
  · simp only at h1 h2 ⊢; have := marks_len x h1; rw [h2]; simp; omega
  · simp only at h2 h3 ⊢; rw [h2, h3]; simp
  · simp only at h3 ⊢
    have e : textL (1, x, R) = 34 :: (x.flatMap showP ++ [34]) := rfl
    rw [e, List.length_cons, List.length_append] at hl
    have := flat_ge (l := x) (f := showP) (fun c _ => piece_head.1)
    rw [h3]; simp; omega
  · simp only at h1 h2 h3 ⊢
    have e : textL (3, x, R) = 60 :: (R.flatMap (showI true) ++ [62]) := rfl
    rw [e, List.length_cons, List.length_append] at hl
    have := flat_ge (l := R) (f := showI true) (fun p hp => (showI_facts (okI_of (b := true) h2 h3 p hp)).1)
    rw [h1]; simp; omega
  · simp only at h1 h2 h3 ⊢
    have e : textL (2, x, R) = 91 :: (R.flatMap (showI false) ++ [93]) := rfl
    rw [e, List.length_cons, List.length_append] at hl
    have := flat_ge (l := R) (f := showI false) (fun p hp => (showI_facts (okI_of (b := false) h2 h3 p hp)).1)
    rw [h1]; simp; omega
/-- Text of a token that may be -/
theorem text_ok (t : Tk) (h : okT t) (hl : (textL t).length ≤ 3000) (a : Option Addr) (c : Nat) (p : Int) (w : World) (hr : Rs w a t.2.2.length c t.2.2) (hd : Db w) :
    Calls Tryz.prog 16 #[.agg (tokAgg t a c p)] w fun e w' => e = .returned (.string (strOfNums (textL t))) ∧ Below w.heap.size w w' := by
  obtain ⟨s1, s2⟩ := ok_sizes h hl
  have hp := ok_parts h
  have EN := ender_any w hd t.2.2 hr.hfit
  have C := text_l shA t a c p w ⟨hp.1, hp.2, s1, hr, s2⟩ EN
  rw [txtW_all (wr_bytes hp.2 s1 s2 EN).1, (may_iff (text_facts h).2.2).2 ⟨h, hl⟩, if_pos rfl] at C
  exact C
set_option maxRecDepth 20000 in
set_option maxHeartbeats 2000000 in
theorem all_huge (s : ByteArray) (l : List Int) (h : St s l) (hbig : 3000 < l.length) (w : World) :
    Calls Tryz.prog 10 #[.string s] w fun e w' => AllR w' w.heap.size l e ∧ Below w.heap.size w w' := by
  have hsz := h.size
  have e : allL l = .inl (0, 7) := by unfold allL; rw [if_pos hbig]
  have t1 : (3000 : Int) < (s.size : Int) := by omega
  have EQ := hideR e
  clear h hsz e
  go_enter Tryz.func10, Tryz.ntmps10
  go_wp2_with fail
  (try simp only [Exit.inBlock, Exit.then])
  refine bodyPost_ret (v := .tuple #[.slice none 0 0, .int .i64 (0 : Nat), .int .i64 7]) ?_ rfl ⟨.inl ⟨0, 7, unhideR EQ, rfl⟩, Below.refl _ _⟩
  simp [results, Tryz.results10]
/-- All, however long a text is -/
theorem all_any (s : ByteArray) (l : List Int) (h : St s l) (w : World) :
    Calls Tryz.prog 10 #[.string s] w fun e w' => AllR w' w.heap.size l e ∧ Below w.heap.size w w' := by
  by_cases hl : l.length ≤ 1000000
  · exact all_l s l h hl w
  · exact all_huge s l h (by omega) w
theorem map_at {a b : List (Tk × Nat)} (h : b.map Prod.fst = a.map Prod.fst) {i : Nat} {t : Tk} {q : Nat} (ha : a[i]? = some (t, q)) : ∃ q', b[i]? = some (t, q') := by
  have e := congrArg (fun l => l[i]?) h
  simp only [List.getElem?_map, ha, Option.map_some] at e
  cases hb : b[i]? with
  | none => rw [hb] at e; cases e
  | some x =>
    rw [hb] at e
    simp only [Option.map_some, Option.some.injEq] at e
    exact ⟨x.2, by rw [← e]⟩
theorem back_L {ts : List (Tk × Nat)} (h : ∀ p ∈ ts, okT p.1) (hc : ts.length ≤ 600) :
    (3000 < ((ts.map Prod.fst).flatMap sp).length ∧ allL ((ts.map Prod.fst).flatMap sp) = .inl (0, 7)) ∨ (((ts.map Prod.fst).flatMap sp).length ≤ 3000 ∧ ∃ l, allL ((ts.map Prod.fst).flatMap sp) = .inr l ∧ l.map Prod.fst = ts.map Prod.fst) := by
  by_cases c : 3000 < ((ts.map Prod.fst).flatMap sp).length
  · exact .inl ⟨c, by unfold allL; rw [if_pos c]⟩
  · refine .inr ⟨by omega, ?_⟩
    rw [allL_is (by omega)]
    exact back_all _ 0 600 (fun t ht => by obtain ⟨p, hp, rfl⟩ := List.mem_map.1 ht; exact h p hp) (by rw [List.length_map]; exact hc)
set_option maxRecDepth 20000 in
set_option maxHeartbeats 16000000 in
theorem tokenBack_walk (s : ByteArray) (K : Int) (S : ByteArray) (a : Option Addr) (n c : Nat) (R : List (Int × Int)) (p : Int) (w : World) (hs0 : s.size ≤ maxLen) (hK : fits K) (h : Rs w a n c R) (hd : Db w) :
    Calls Tryz.prog 4 #[.string s, .agg #[.int .i64 K, .string S, .slice a n c, .int .i64 p]] w fun e w' => e = .returned (.bool true) ∧ Below w.heap.size w w' := by
  have CU := hideR (fun o => awake5_any (w.alloc o))
  obtain rfl := h.hlen
  have B1 : ∀ o, Below w.heap.size w (w.alloc o) := fun o => Below.new1 o
  by_cases L1 : 400 < s.size
  · have t1 : (400 : Int) < (s.size : Int) := by omega
    clear h hd
    go_enter Tryz.func4, Tryz.ntmps4
    go_wp2_with fail
    refine (unhideR CU _).mono ?_
    rintro e w1 ⟨rfl, b1⟩
    obtain ⟨q0, q1, q2, q3⟩ := (cells4 (kept_new b1)).1
    clear CU
    go_wp2_with fail
    go_ret
    exact ⟨rfl, bthen (B1 _) b1⟩
  have t1 : (s.size : Int) ≤ 400 := by omega
  by_cases L2 : 300 < S.size
  · have t1 : (300 : Int) < (S.size : Int) := by omega
    clear h hd
    go_enter Tryz.func4, Tryz.ntmps4
    go_wp2_with fail
    refine (unhideR CU _).mono ?_
    rintro e w1 ⟨rfl, b1⟩
    obtain ⟨q0, q1, q2, q3⟩ := (cells4 (kept_new b1)).1
    clear CU
    go_wp2_with fail
    go_ret
    exact ⟨rfl, bthen (B1 _) b1⟩
  have t2 : (S.size : Int) ≤ 300 := by omega
  by_cases L3 : 20 < R.length
  · have t1 : (20 : Int) < (R.length : Int) := by omega
    clear h hd
    go_enter Tryz.func4, Tryz.ntmps4
    go_wp2_with fail
    refine (unhideR CU _).mono ?_
    rintro e w1 ⟨rfl, b1⟩
    obtain ⟨q0, q1, q2, q3⟩ := (cells4 (kept_new b1)).1
    clear CU
    go_wp2_with fail
    go_ret
    exact ⟨rfl, bthen (B1 _) b1⟩
  have t3 : (R.length : Int) ≤ 20 := by omega
  obtain ⟨ls, hs⟩ := st_of' s
  obtain ⟨x, hx⟩ := st_of' S
  obtain rfl := hx.1
  have zs := hs.size
  have zx := hx.size
  have TA : ∀ W, Below w.heap.size w W → TokA W (K, x, R) a c := fun W bW => ⟨hK, hx.2, by simp only; omega, Rs.later h bW (Nat.le_refl _), by simp only; omega⟩
  have EN : ∀ W, Below w.heap.size w W → Enders W shA R := fun W bW => ender_any W (hd.later bW) R h.hfit
  have wb := (wr_bytes (t := (K, x, R)) hx.2 (by simp only; omega) (by simp only; omega) (EN w (Below.refl _ _))).1
  have CM := hideR (fun W (bW : Below w.heap.size w W) => may_l shA (K, x, R) a c p W (TA W bW) (EN W bW))
  have CT := hideR (fun W (bW : Below w.heap.size w W) => text_l shA (K, x, R) a c p W (TA W bW) (EN W bW))
  have CS := hideR (fun W (bW : Below w.heap.size w W) (b : Option Addr) (d : Nat) (hr : Rs W b R.length d R) => same_l (K, x, R) (K, x, R) b a d c 0 p W hK hx.2 hr hK hx.2 (Rs.later h bW (Nat.le_refl _)))
  rw [mayW_all wb] at CM
  rw [txtW_all wb] at CT
  have dt : decide (((K, x, R) : Tk) = (K, x, R)) = true := by simp
  rw [dt] at CS
  unfold tokAgg at CM CT CS
  simp only at CM CT CS
  have CX := hideR (fun (l : List Int) (hb : U.isBytes l) W => all_any (strOfNums l) l (St.of hb) W)
  have CA := hideR (fun W => all_l s ls hs (by omega) W)
  have HD := hideR hd
  have HBS := hideR hs.2
  have HZS := hideR zs
  have HMI := hideR (fun hb => may_iff (t := (K, x, R)) hb)
  have HWB := hideR wb
  clear TA EN wb h hd dt hs zs hx zx hK
  generalize hS1 : strOfNums x = S at *
  have d1 : decide ((400 : Int) < (s.size : Int)) = false := by simp; omega
  have d2 : decide ((300 : Int) < (S.size : Int)) = false := by simp; omega
  have d3 : decide ((20 : Int) < (R.length : Int)) = false := by simp; omega
  cases hm : mayL (K, x, R) with
  | false =>
    rw [hm] at CM CT
    rw [if_neg (by simp)] at CT
    have CY := hideR (fun W => unhideR CX [] (fun z hz => by cases hz) W)
    have nl : (strOfNums []).toList = [] := (st_list (St.of (l := []) (fun z hz => by cases hz)) [] (fun z hz => by cases hz)).2 rfl
    have nl2 : (strOfNums []).toList.isEmpty = true := by rw [nl]; rfl
    generalize strOfNums [] = X at *
    have al : allL [] = .inr [] := rfl
    have HAL := hideR al
    clear HMI HWB CS al
    go_enter Tryz.func4, Tryz.ntmps4
    go_wp2_with fail
    refine (unhideR CU _).mono ?_
    rintro e w1 ⟨rfl, b1⟩
    clear CU
    obtain ⟨q0, q1, q2, q3⟩ := (cells4 (kept_new b1)).1
    go_wp2_with fail
    refine (unhideR CT _ (bthen (B1 _) b1)).mono ?_
    rintro e w2 ⟨rfl, b2⟩
    clear CT q0 q1 q2 q3
    have b12 := bthen b1 b2
    go_wp2_with fail
    refine (unhideR CY _).mono ?_
    rintro e w3 ⟨ar, b3⟩
    clear CY
    have b13 := bthen b12 b3
    obtain ⟨q0, q1, q2, q3⟩ := (cells4 (kept_new b13)).1
    have hgl := block_lt' q0
    have BB := bthen (B1 _) b13
    rcases ar with ⟨pa, er, ea, rfl⟩ | ⟨ts, v, ea, rfl, tk⟩
    · rw [unhideR HAL] at ea; cases ea
    obtain rfl : ts = [] := by rw [unhideR HAL] at ea; injection ea with ea; exact ea.symm
    obtain ⟨p7, c7, rfl⟩ := tks_form tk
    clear tk ea HAL
    go_wp2_with fail
    refine wp_region_held_drew (S := (fun w' => w'.cell? ⟨w.heap.size, 0, none⟩ = some (.int .i64 K) ∧ w'.cell? ⟨w.heap.size, 1, none⟩ = some (.string S) ∧ w'.cell? ⟨w.heap.size, 2, none⟩ = some (.slice a R.length c) ∧ w'.cell? ⟨w.heap.size, 3, none⟩ = some (.int .i64 p))) (by kernel_rfl) (⟨q0, q1, q2, q3⟩) (fun hHeld => ?_)
    refine wpAnyH_take (i := 0) (v := ?_) rfl (by kernel_rfl) (by kernel_rfl) (by kernel_rfl) (fun _ _ _ h => h) (Or.inl ⟨by kernel_rfl, ?_⟩) (by assumption) ?_
    rotate_left
    · intro w hSw; (try dsimp only at hSw); go_simp; (try with_reducible rfl)
    try simp only [Act.put, List.getElem_toArray, List.getElem_cons_succ, List.getElem_cons_zero, List.setIfInBounds_toArray, List.set_cons_zero, List.set_cons_succ]
    refine wpAnyH_take (i := 2) (v := ?_) rfl (by kernel_rfl) (by kernel_rfl) (by kernel_rfl) (fun _ _ _ h => h) (Or.inl ⟨by kernel_rfl, ?_⟩) (by assumption) ?_
    rotate_left
    · intro w hSw; (try dsimp only at hSw); go_simp; (try with_reducible rfl)
    try simp only [Act.put, List.getElem_toArray, List.getElem_cons_succ, List.getElem_cons_zero, List.setIfInBounds_toArray, List.set_cons_zero, List.set_cons_succ]
    refine wpAnyH_take (i := 3) (v := ?_) rfl (by kernel_rfl) (by kernel_rfl) (by kernel_rfl) (fun _ _ _ h => h) (Or.inl ⟨by kernel_rfl, ?_⟩) (by assumption) ?_
    rotate_left
    · intro w hSw; (try dsimp only at hSw); go_simp; (try with_reducible rfl)
    try simp only [Act.put, List.getElem_toArray, List.getElem_cons_succ, List.getElem_cons_zero, List.setIfInBounds_toArray, List.set_cons_zero, List.set_cons_succ]
    refine wpAnyH_ready (rs := [1]) (by kernel_rfl) (by simp) ?_
    refine AllReadyH.cons rfl (fun K hK => ?_) AllReadyH.nil
    go_simp
    refine (unhideR CM _ (BB.trans draws_b)).mono ?_; rintro e w4 ⟨rfl, b4⟩
    go_wp2_with fail
    refine hK.out _ _ (⟨(b4.cell hgl).trans q0, (b4.cell hgl).trans q1, (b4.cell hgl).trans q2, (b4.cell hgl).trans q3⟩) (fun hHeld => ?_)
    clear hK K
    try simp only [Act.put, List.getElem_toArray, List.getElem_cons_succ, List.getElem_cons_zero, List.setIfInBounds_toArray, List.set_cons_zero, List.set_cons_succ]
    refine wpAnyH_take (i := 4) (v := ?_) rfl (by kernel_rfl) (by kernel_rfl) (by kernel_rfl) (fun _ _ _ h => h) (Or.inl ⟨by kernel_rfl, ?_⟩) (by assumption) ?_
    rotate_left
    · intro w hSw; (try dsimp only at hSw); go_simp; (try with_reducible rfl)
    try simp only [Act.put, List.getElem_toArray, List.getElem_cons_succ, List.getElem_cons_zero, List.setIfInBounds_toArray, List.set_cons_zero, List.set_cons_succ]
    refine wpAnyH_take (i := 5) (v := ?_) rfl (by kernel_rfl) (by kernel_rfl) (by kernel_rfl) (fun _ _ _ h => h) (Or.inl ⟨by kernel_rfl, ?_⟩) (by assumption) ?_
    rotate_left
    · intro w hSw; (try dsimp only at hSw); go_simp; (try with_reducible rfl)
    try simp only [Act.put, List.getElem_toArray, List.getElem_cons_succ, List.getElem_cons_zero, List.setIfInBounds_toArray, List.set_cons_zero, List.set_cons_succ]
    refine wpAnyH_take (i := 6) (v := ?_) rfl (by kernel_rfl) (by kernel_rfl) (by kernel_rfl) (fun _ _ _ h => h) (Or.inl ⟨by kernel_rfl, ?_⟩) (by assumption) ?_
    rotate_left
    · intro w hSw; (try dsimp only at hSw); go_simp; (try with_reducible rfl)
    try simp only [Act.put, List.getElem_toArray, List.getElem_cons_succ, List.getElem_cons_zero, List.setIfInBounds_toArray, List.set_cons_zero, List.set_cons_succ]
    refine wpAnyH_take (i := 7) (v := ?_) rfl (by kernel_rfl) (by kernel_rfl) (by kernel_rfl) (fun _ _ _ h => h) (Or.inl ⟨by kernel_rfl, ?_⟩) (by assumption) ?_
    rotate_left
    · intro w hSw; (try dsimp only at hSw); go_simp; (try with_reducible rfl)
    try simp only [Act.put, List.getElem_toArray, List.getElem_cons_succ, List.getElem_cons_zero, List.setIfInBounds_toArray, List.set_cons_zero, List.set_cons_succ]
    refine wpAnyH_take (i := 8) (v := ?_) rfl (by kernel_rfl) (by kernel_rfl) (by kernel_rfl) (fun _ _ _ h => h) (Or.inl ⟨by kernel_rfl, ?_⟩) (by assumption) ?_
    rotate_left
    · intro w hSw; (try dsimp only at hSw); go_simp; (try with_reducible rfl)
    try simp only [Act.put, List.getElem_toArray, List.getElem_cons_succ, List.getElem_cons_zero, List.setIfInBounds_toArray, List.set_cons_zero, List.set_cons_succ]
    refine wpAnyH_take (i := 9) (v := undef) rfl (by kernel_rfl) (by kernel_rfl) (by kernel_rfl) (fun _ _ _ h => h) (Or.inr ⟨by kernel_rfl, rfl⟩) (by assumption) ?_
    try simp only [Act.put, List.getElem_toArray, List.getElem_cons_succ, List.getElem_cons_zero, List.setIfInBounds_toArray, List.set_cons_zero, List.set_cons_succ]
    refine wpAnyH_take (i := 10) (v := undef) rfl (by kernel_rfl) (by kernel_rfl) (by kernel_rfl) (fun _ _ _ h => h) (Or.inr ⟨by kernel_rfl, rfl⟩) (by assumption) ?_
    try simp only [Act.put, List.getElem_toArray, List.getElem_cons_succ, List.getElem_cons_zero, List.setIfInBounds_toArray, List.set_cons_zero, List.set_cons_succ]
    refine wpAnyH_take (i := 11) (v := undef) rfl (by kernel_rfl) (by kernel_rfl) (by kernel_rfl) (fun _ _ _ h => h) (Or.inr ⟨by kernel_rfl, rfl⟩) (by assumption) ?_
    try simp only [Act.put, List.getElem_toArray, List.getElem_cons_succ, List.getElem_cons_zero, List.setIfInBounds_toArray, List.set_cons_zero, List.set_cons_succ]
    refine wpAnyH_take (i := 12) (v := undef) rfl (by kernel_rfl) (by kernel_rfl) (by kernel_rfl) (fun _ _ _ h => h) (Or.inr ⟨by kernel_rfl, rfl⟩) (by assumption) ?_
    try simp only [Act.put, List.getElem_toArray, List.getElem_cons_succ, List.getElem_cons_zero, List.setIfInBounds_toArray, List.set_cons_zero, List.set_cons_succ]
    refine wpAnyH_take (i := 13) (v := undef) rfl (by kernel_rfl) (by kernel_rfl) (by kernel_rfl) (fun _ _ _ h => h) (Or.inr ⟨by kernel_rfl, rfl⟩) (by assumption) ?_
    try simp only [Act.put, List.getElem_toArray, List.getElem_cons_succ, List.getElem_cons_zero, List.setIfInBounds_toArray, List.set_cons_zero, List.set_cons_succ]
    refine wpAnyH_take (i := 14) (v := undef) rfl (by kernel_rfl) (by kernel_rfl) (by kernel_rfl) (fun _ _ _ h => h) (Or.inr ⟨by kernel_rfl, rfl⟩) (by assumption) ?_
    try simp only [Act.put, List.getElem_toArray, List.getElem_cons_succ, List.getElem_cons_zero, List.setIfInBounds_toArray, List.set_cons_zero, List.set_cons_succ]
    refine wpAnyH_take (i := 15) (v := undef) rfl (by kernel_rfl) (by kernel_rfl) (by kernel_rfl) (fun _ _ _ h => h) (Or.inr ⟨by kernel_rfl, rfl⟩) (by assumption) ?_
    try simp only [Act.put, List.getElem_toArray, List.getElem_cons_succ, List.getElem_cons_zero, List.setIfInBounds_toArray, List.set_cons_zero, List.set_cons_succ]
    refine wpAnyH_take (i := 16) (v := undef) rfl (by kernel_rfl) (by kernel_rfl) (by kernel_rfl) (fun _ _ _ h => h) (Or.inr ⟨by kernel_rfl, rfl⟩) (by assumption) ?_
    try simp only [Act.put, List.getElem_toArray, List.getElem_cons_succ, List.getElem_cons_zero, List.setIfInBounds_toArray, List.set_cons_zero, List.set_cons_succ]
    refine wpAnyH_take (i := 17) (v := undef) rfl (by kernel_rfl) (by kernel_rfl) (by kernel_rfl) (fun _ _ _ h => h) (Or.inr ⟨by kernel_rfl, rfl⟩) (by assumption) ?_
    try simp only [Act.put, List.getElem_toArray, List.getElem_cons_succ, List.getElem_cons_zero, List.setIfInBounds_toArray, List.set_cons_zero, List.set_cons_succ]
    refine wpAnyH_take (i := 18) (v := undef) rfl (by kernel_rfl) (by kernel_rfl) (by kernel_rfl) (fun _ _ _ h => h) (Or.inr ⟨by kernel_rfl, rfl⟩) (by assumption) ?_
    try simp only [Act.put, List.getElem_toArray, List.getElem_cons_succ, List.getElem_cons_zero, List.setIfInBounds_toArray, List.set_cons_zero, List.set_cons_succ]
    refine wpAnyH_take (i := 19) (v := undef) rfl (by kernel_rfl) (by kernel_rfl) (by kernel_rfl) (fun _ _ _ h => h) (Or.inr ⟨by kernel_rfl, rfl⟩) (by assumption) ?_
    try simp only [Act.put, List.getElem_toArray, List.getElem_cons_succ, List.getElem_cons_zero, List.setIfInBounds_toArray, List.set_cons_zero, List.set_cons_succ]
    refine wpAnyH_take (i := 20) (v := undef) rfl (by kernel_rfl) (by kernel_rfl) (by kernel_rfl) (fun _ _ _ h => h) (Or.inr ⟨by kernel_rfl, rfl⟩) (by assumption) ?_
    try simp only [Act.put, List.getElem_toArray, List.getElem_cons_succ, List.getElem_cons_zero, List.setIfInBounds_toArray, List.set_cons_zero, List.set_cons_succ]
    refine wpAnyH_take (i := 21) (v := undef) rfl (by kernel_rfl) (by kernel_rfl) (by kernel_rfl) (fun _ _ _ h => h) (Or.inr ⟨by kernel_rfl, rfl⟩) (by assumption) ?_
    try simp only [Act.put, List.getElem_toArray, List.getElem_cons_succ, List.getElem_cons_zero, List.setIfInBounds_toArray, List.set_cons_zero, List.set_cons_succ]
    refine wpAnyH_take (i := 22) (v := undef) rfl (by kernel_rfl) (by kernel_rfl) (by kernel_rfl) (fun _ _ _ h => h) (Or.inr ⟨by kernel_rfl, rfl⟩) (by assumption) ?_
    try simp only [Act.put, List.getElem_toArray, List.getElem_cons_succ, List.getElem_cons_zero, List.setIfInBounds_toArray, List.set_cons_zero, List.set_cons_succ]
    refine wpAnyH_take (i := 23) (v := undef) rfl (by kernel_rfl) (by kernel_rfl) (by kernel_rfl) (fun _ _ _ h => h) (Or.inr ⟨by kernel_rfl, rfl⟩) (by assumption) ?_
    try simp only [Act.put, List.getElem_toArray, List.getElem_cons_succ, List.getElem_cons_zero, List.setIfInBounds_toArray, List.set_cons_zero, List.set_cons_succ]
    refine wpAnyH_take (i := 24) (v := ?_) rfl (by kernel_rfl) (by kernel_rfl) (by kernel_rfl) (fun _ _ _ h => h) (Or.inl ⟨by kernel_rfl, ?_⟩) (by assumption) ?_
    rotate_left
    · intro w hSw; (try dsimp only at hSw); go_simp; (try with_reducible rfl)
    try simp only [Act.put, List.getElem_toArray, List.getElem_cons_succ, List.getElem_cons_zero, List.setIfInBounds_toArray, List.set_cons_zero, List.set_cons_succ]
    refine wpAnyH_take (i := 25) (v := ?_) rfl (by kernel_rfl) (by kernel_rfl) (by kernel_rfl) (fun _ _ _ h => h) (Or.inl ⟨by kernel_rfl, ?_⟩) (by assumption) ?_
    rotate_left
    · intro w hSw; (try dsimp only at hSw); go_simp; (try with_reducible rfl)
    try simp only [Act.put, List.getElem_toArray, List.getElem_cons_succ, List.getElem_cons_zero, List.setIfInBounds_toArray, List.set_cons_zero, List.set_cons_succ]
    refine wpAnyH_done (by kernel_rfl) ?_ _
    clear CM q0 q1 q2 q3
    have B4 := BB.trans (draws_b.trans (b4.mono (by have := BB.size; show _ ≤ w3.heap.size; omega)))
    go_wp2_with fail
    refine (unhideR CA _).mono ?_
    rintro e x1 ⟨ar, c1⟩
    clear CA
    have D1 := bthen B4 c1
    rcases ar with ⟨pa, er, ea, rfl⟩ | ⟨ta, va, ea, rfl, ka⟩
    · have er0 : (er != 0) = true := by rcases allL_err ea with rfl | rfl <;> rfl
      clear ea HBS HZS HD CX
      go_wp2_with fail
      go_ret
      exact ⟨retB (by first | rfl | simp), D1⟩
    have la := all_bound (unhideR HBS) ea
    have HOK := hideR (allL_ok (unhideR HBS) ea)
    have HLEN : Hid (∀ p ∈ ta, (textL p.1).length ≤ 3000) := all_len _ ls 0 600 ta (unhideR HBS) (Nat.le_refl _) (by have := unhideR HZS; omega) (by rw [← allL_is (by have := unhideR HZS; omega)]; exact ea)
    obtain ⟨qa, ca, rfl⟩ := tks_form ka
    have HKA := hideR ka
    have HDX : Hid (Db x1) := (unhideR HD).later D1
    clear ea HBS HZS HD ka
    go_wp2_with fail
    go_loopw [13, 14] (fun v j wr => ∃ (k : Nat) (acc : List Int), k ≤ ta.length ∧ v = .string (strOfNums acc) ∧ Hid (acc = ((ta.take k).map Prod.fst).flatMap sp) ∧ Hid (U.isBytes acc) ∧ acc.length ≤ 3001 * k ∧ j = .int .i64 (k : Int) ∧ Below x1.heap.size x1 wr) (fun _ j _ => ta.length - (intOf j).toNat)
    case atStart => exact ⟨0, [], Nat.zero_le _, rfl, (by show [] = _; simp), (fun z hz => by cases hz), by simp, rfl, Below.refl _ _⟩
    case round =>
      obtain ⟨k, acc, hk, rfl, hacc, hab, hal, rfl, hbw⟩ := hrel
      by_cases hlt : k < ta.length
      · obtain ⟨⟨t, q⟩, hta⟩ : ∃ x, ta[k]? = some x := ⟨_, List.getElem?_eq_getElem hlt⟩
        obtain ⟨ga, ra, c5, rfl, gla, fa⟩ := tks_cells (unhideR HKA) hta
        obtain ⟨y0, y1, y2, y3, hr⟩ := fa wr hbw
        have okt := unhideR HOK (t, q) (List.mem_of_getElem? hta)
        have ltx := unhideR HLEN (t, q) (List.mem_of_getElem? hta)
        simp only at okt ltx
        have C := hideR (text_ok t okt ltx ra c5 q wr hr ((unhideR HDX).later hbw))
        unfold tokAgg at C
        have sx := St.of (text_facts okt).2.2
        have st32 : St ⟨#[32]⟩ [32] := ⟨rfl, by intro z hz; simp at hz; omega⟩
        have SA := St.app (St.app (St.of (unhideR hab)) sx) st32
        have eS := hideR SA.1
        have HB : Hid (U.isBytes ((acc ++ textL t) ++ [32])) := SA.2
        have HA : Hid ((acc ++ textL t) ++ [32] = ((ta.take (k + 1)).map Prod.fst).flatMap sp) := by
          show _ = _
          rw [List.take_add_one, hta, List.map_append, List.flatMap_append, ← hacc.out, List.append_assoc]
          simp [sp]
        have hl2 : ((acc ++ textL t) ++ [32]).length ≤ 3001 * (k + 1) := by rw [List.length_append, List.length_append]; simp only [List.length_cons, List.length_nil]; omega
        have z1 : (strOfNums acc).size ≤ 1800600 := by rw [strOfNums_size]; omega
        have z2 : (strOfNums (textL t)).size ≤ 3000 := by rw [strOfNums_size]; exact ltx
        have hkI : (k : Int) < (ta.length : Int) := by omega
        clear hr okt ltx sx st32 SA fa hta hacc hab
        generalize textL t = TT at *
        generalize strOfNums t.2.1 = S1 at *
        generalize t.1 = K1 at *
        generalize t.2.2.length = M1 at *
        generalize hA2 : acc ++ TT ++ [32] = AC at *
        generalize strOfNums TT = TX at *
        generalize strOfNums acc = AX at *
        have HAC := hideR hA2
        clear hA2
        go_wp2_with fail
        refine (unhideR C).mono ?_
        rintro e x2 ⟨rfl, c2⟩
        clear C y0 y1 y2 y3
        go_wp2_with fail
        go_roundw
        case rel => exact ⟨k + 1, AC, by omega, by rw [unhideR eS], HA, HB, hl2, by go_num, hbw.trans (c2.mono hbw.size)⟩
        case measure => simp [intOf]; omega
      · obtain rfl : k = ta.length := by omega
        have eacc : acc = (ta.map Prod.fst).flatMap sp := by rw [← List.take_length (l := ta)]; exact hacc.out
        have CB := hideR (fun W => unhideR CX acc (unhideR hab) W)
        have bl := back_L (unhideR HOK) la
        rw [← eacc] at bl
        have HBL := hideR bl
        have hsa : (strOfNums acc).size = acc.length := strOfNums_size _
        have HSA := hideR hsa
        clear hacc hab eacc CX bl hsa
        generalize strOfNums acc = AX at *
        go_wp2_with fail
        refine (unhideR CB _).mono ?_
        rintro e x2 ⟨ar, c2⟩
        clear CB
        have D2 := bthen (bthen D1 hbw) c2
        rcases unhideR HBL with ⟨l1, e1⟩ | ⟨l1, tb, e1, hmap⟩
        · rcases ar with ⟨pa, er, ea, rfl⟩ | ⟨ts, vb, ea, rfl, kb⟩
          · rw [e1] at ea
            injection ea with ea
            injection ea with ea1 ea2
            subst ea1
            subst ea2
            have big1 : (3000 : Int) < (AX.size : Int) := by have := unhideR HSA; omega
            clear HBL HSA HOK HLEN HKA HDX e1
            go_wp2_with fail
            go_ret
            exact ⟨retB (by first | rfl | simp), D2⟩
          · rw [e1] at ea; cases ea
        · rcases ar with ⟨pa, er, ea, rfl⟩ | ⟨ts, vb, ea, rfl, kb⟩
          · rw [e1] at ea; cases ea
          obtain rfl : ts = tb := by rw [e1] at ea; injection ea with ea; exact ea.symm
          have hlb : ts.length = ta.length := by have := congrArg List.length hmap; simpa using this
          obtain ⟨qb, cb, rfl⟩ := tks_form kb
          have HKB := hideR kb
          have HMP := hideR hmap
          have hlb1 : (ts.length : Int) = (ta.length : Int) := by omega
          have HLB := hideR hlb
          clear HBL HSA HLEN HDX e1 ea kb hmap hlb
          go_wp2_with fail
          go_loopw [18] (fun j wz => ∃ i : Nat, i ≤ ta.length ∧ j = .int .i64 (i : Int) ∧ Below x2.heap.size x2 wz) (fun j _ => ta.length - (intOf j).toNat)
          case atStart => exact ⟨0, Nat.zero_le _, rfl, Below.refl _ _⟩
          case round =>
            obtain ⟨i, hi, rfl, hb2⟩ := hrel
            by_cases hlt : i < ta.length
            · obtain ⟨⟨t, q⟩, hta⟩ : ∃ x, ta[i]? = some x := ⟨_, List.getElem?_eq_getElem hlt⟩
              obtain ⟨q2, htb⟩ := map_at (unhideR HMP) hta
              obtain ⟨ga, ra, c5, rfl, gla, fa⟩ := tks_cells (unhideR HKA) hta
              obtain ⟨gb, rb, c6, rfl, glb, fb⟩ := tks_cells (unhideR HKB) htb
              have okt := ok_parts (unhideR HOK (t, q) (List.mem_of_getElem? hta))
              have FA := fun W (b : Below x2.heap.size x2 W) => fa W (bthen (bthen hbw c2) b)
              have C := hideR (fun W (bW : Below x2.heap.size x2 W) => same_l t t ra rb c5 c6 q q2 W okt.1 okt.2 (FA W bW).2.2.2.2 okt.1 okt.2 (fb W bW).2.2.2.2)
              have dt : decide (t = t) = true := by simp
              rw [dt] at C
              unfold tokAgg at C
              obtain ⟨y0, y1, y2, y3, -⟩ := FA _ hb2
              obtain ⟨z0, z1, z2, z3, -⟩ := fb _ hb2
              have hkI : (i : Int) < (ta.length : Int) := by omega
              generalize strOfNums t.2.1 = S1 at *
              generalize t.1 = K1 at *
              generalize t.2.2.length = M1 at *
              clear HKA HKB HMP HOK HLB okt fa fb FA dt hta htb
              go_wp2_with fail
              refine wp_region_held_drew (S := (fun w' => w'.cell? ⟨ga, i * 4, none⟩ = some (.int .i64 K1) ∧ w'.cell? ⟨ga, i * 4 + 1, none⟩ = some (.string S1) ∧ w'.cell? ⟨ga, i * 4 + 2, none⟩ = some (.slice ra M1 c5) ∧ w'.cell? ⟨ga, i * 4 + 3, none⟩ = some (.int .i64 (q : Int)) ∧ w'.cell? ⟨gb, i * 4, none⟩ = some (.int .i64 K1) ∧ w'.cell? ⟨gb, i * 4 + 1, none⟩ = some (.string S1) ∧ w'.cell? ⟨gb, i * 4 + 2, none⟩ = some (.slice rb M1 c6) ∧ w'.cell? ⟨gb, i * 4 + 3, none⟩ = some (.int .i64 (q2 : Int)))) (by kernel_rfl) (⟨y0, y1, y2, y3, z0, z1, z2, z3⟩) (fun hHeld => ?_)
              refine wpAnyH_take (i := 0) (v := ?_) rfl (by kernel_rfl) (by kernel_rfl) (by kernel_rfl) (fun _ _ _ h => h) (Or.inl ⟨by kernel_rfl, ?_⟩) (by assumption) ?_
              rotate_left
              · intro w hSw; (try dsimp only at hSw); go_simp; (try with_reducible rfl)
              try simp only [Act.put, List.getElem_toArray, List.getElem_cons_succ, List.getElem_cons_zero, List.setIfInBounds_toArray, List.set_cons_zero, List.set_cons_succ]
              refine wpAnyH_take (i := 1) (v := ?_) rfl (by kernel_rfl) (by kernel_rfl) (by kernel_rfl) (fun _ _ _ h => h) (Or.inl ⟨by kernel_rfl, ?_⟩) (by assumption) ?_
              rotate_left
              · intro w hSw; (try dsimp only at hSw); go_simp; (try with_reducible rfl)
              try simp only [Act.put, List.getElem_toArray, List.getElem_cons_succ, List.getElem_cons_zero, List.setIfInBounds_toArray, List.set_cons_zero, List.set_cons_succ]
              refine wpAnyH_take (i := 2) (v := ?_) rfl (by kernel_rfl) (by kernel_rfl) (by kernel_rfl) (fun _ _ _ h => h) (Or.inl ⟨by kernel_rfl, ?_⟩) (by assumption) ?_
              rotate_left
              · intro w hSw; (try dsimp only at hSw); go_simp; (try with_reducible rfl)
              try simp only [Act.put, List.getElem_toArray, List.getElem_cons_succ, List.getElem_cons_zero, List.setIfInBounds_toArray, List.set_cons_zero, List.set_cons_succ]
              refine wpAnyH_take (i := 3) (v := ?_) rfl (by kernel_rfl) (by kernel_rfl) (by kernel_rfl) (fun _ _ _ h => h) (Or.inl ⟨by kernel_rfl, ?_⟩) (by assumption) ?_
              rotate_left
              · intro w hSw; (try dsimp only at hSw); go_simp; (try with_reducible rfl)
              try simp only [Act.put, List.getElem_toArray, List.getElem_cons_succ, List.getElem_cons_zero, List.setIfInBounds_toArray, List.set_cons_zero, List.set_cons_succ]
              refine wpAnyH_take (i := 4) (v := ?_) rfl (by kernel_rfl) (by kernel_rfl) (by kernel_rfl) (fun _ _ _ h => h) (Or.inl ⟨by kernel_rfl, ?_⟩) (by assumption) ?_
              rotate_left
              · intro w hSw; (try dsimp only at hSw); go_simp; (try with_reducible rfl)
              try simp only [Act.put, List.getElem_toArray, List.getElem_cons_succ, List.getElem_cons_zero, List.setIfInBounds_toArray, List.set_cons_zero, List.set_cons_succ]
              refine wpAnyH_take (i := 5) (v := ?_) rfl (by kernel_rfl) (by kernel_rfl) (by kernel_rfl) (fun _ _ _ h => h) (Or.inl ⟨by kernel_rfl, ?_⟩) (by assumption) ?_
              rotate_left
              · intro w hSw; (try dsimp only at hSw); go_simp; (try with_reducible rfl)
              try simp only [Act.put, List.getElem_toArray, List.getElem_cons_succ, List.getElem_cons_zero, List.setIfInBounds_toArray, List.set_cons_zero, List.set_cons_succ]
              refine wpAnyH_take (i := 6) (v := ?_) rfl (by kernel_rfl) (by kernel_rfl) (by kernel_rfl) (fun _ _ _ h => h) (Or.inl ⟨by kernel_rfl, ?_⟩) (by assumption) ?_
              rotate_left
              · intro w hSw; (try dsimp only at hSw); go_simp; (try with_reducible rfl)
              try simp only [Act.put, List.getElem_toArray, List.getElem_cons_succ, List.getElem_cons_zero, List.setIfInBounds_toArray, List.set_cons_zero, List.set_cons_succ]
              refine wpAnyH_take (i := 7) (v := ?_) rfl (by kernel_rfl) (by kernel_rfl) (by kernel_rfl) (fun _ _ _ h => h) (Or.inl ⟨by kernel_rfl, ?_⟩) (by assumption) ?_
              rotate_left
              · intro w hSw; (try dsimp only at hSw); go_simp; (try with_reducible rfl)
              try simp only [Act.put, List.getElem_toArray, List.getElem_cons_succ, List.getElem_cons_zero, List.setIfInBounds_toArray, List.set_cons_zero, List.set_cons_succ]
              refine wpAnyH_ready (rs := [8]) (by kernel_rfl) (by simp) ?_
              refine AllReadyH.cons rfl (fun K hK => ?_) AllReadyH.nil
              go_simp
              refine (unhideR C _ (hb2.trans draws_b)).mono ?_; rintro e x3 ⟨rfl, c3⟩
              go_wp2_with fail
              refine hK.out _ _ (by obtain ⟨h0, h1, h2, h3, h4, h5, h6, h7⟩ := hHeld; exact ⟨keep_c c3 rfl h0, keep_c c3 rfl h1, keep_c c3 rfl h2, keep_c c3 rfl h3, keep_c c3 rfl h4, keep_c c3 rfl h5, keep_c c3 rfl h6, keep_c c3 rfl h7⟩) (fun hHeld => ?_)
              clear hK K
              try simp only [Act.put, List.getElem_toArray, List.getElem_cons_succ, List.getElem_cons_zero, List.setIfInBounds_toArray, List.set_cons_zero, List.set_cons_succ]
              refine wpAnyH_take (i := 9) (v := ?_) rfl (by kernel_rfl) (by kernel_rfl) (by kernel_rfl) (fun _ _ _ h => h) (Or.inl ⟨by kernel_rfl, ?_⟩) (by assumption) ?_
              rotate_left
              · intro w hSw; (try dsimp only at hSw); go_simp; (try with_reducible rfl)
              try simp only [Act.put, List.getElem_toArray, List.getElem_cons_succ, List.getElem_cons_zero, List.setIfInBounds_toArray, List.set_cons_zero, List.set_cons_succ]
              refine wpAnyH_done (by kernel_rfl) ?_ _
              clear C y0 y1 y2 y3 z0 z1 z2 z3
              go_wp2_with fail
              go_roundw
              case rel => exact ⟨i + 1, by omega, by go_num, hb2.trans (draws_b.trans (c3.mono (by have := hb2.size; exact this)))⟩
              case measure => simp [intOf]; omega
            · obtain rfl : i = ta.length := by omega
              clear HKA HKB HMP HOK HLB
              go_wp2_with fail
              go_ret
              exact ⟨rfl, bthen D2 hb2⟩
  | true =>
    rw [hm] at CM CT
    rw [if_pos rfl] at CT
    have hp : partsB (K, x, R) = true := by rw [mayL_one, Bool.and_eq_true] at hm; exact hm.1
    have tb := unhideR HWB
    rw [parts_wr hp] at tb
    obtain ⟨ok, tl⟩ := (unhideR HMI tb).1 hm
    have hal := all_text ok tl
    have HAL := hideR hal
    have hne := (text_facts ok).1
    have CY := hideR (fun W => unhideR CX _ tb W)
    have nl : ¬ (strOfNums (textL (K, x, R))).toList = [] := by
      intro c0
      exact hne ((st_list (St.of tb) [] (fun z hz => by cases hz)).1 c0)
    have nl2 : (strOfNums (textL (K, x, R))).toList.isEmpty = false := by rw [Bool.eq_false_iff]; intro c; exact nl (List.isEmpty_iff.1 c)
    clear HMI HWB hp tb ok tl hal hne
    generalize strOfNums (textL (K, x, R)) = X at *
    go_enter Tryz.func4, Tryz.ntmps4
    go_wp2_with fail
    refine (unhideR CU _).mono ?_
    rintro e w1 ⟨rfl, b1⟩
    clear CU
    obtain ⟨q0, q1, q2, q3⟩ := (cells4 (kept_new b1)).1
    go_wp2_with fail
    refine (unhideR CT _ (bthen (B1 _) b1)).mono ?_
    rintro e w2 ⟨rfl, b2⟩
    clear CT q0 q1 q2 q3
    have b12 := bthen b1 b2
    go_wp2_with fail
    refine (unhideR CY _).mono ?_
    rintro e w3 ⟨ar, b3⟩
    clear CY
    have b13 := bthen b12 b3
    obtain ⟨q0, q1, q2, q3⟩ := (cells4 (kept_new b13)).1
    have hgl := block_lt' q0
    have BB := bthen (B1 _) b13
    rcases ar with ⟨pa, er, ea, rfl⟩ | ⟨ts, v, ea, rfl, tk⟩
    · rw [unhideR HAL] at ea; cases ea
    obtain rfl : ts = [((K, x, R), 0)] := by rw [unhideR HAL] at ea; injection ea with ea; exact ea.symm
    obtain ⟨g, cp, a', c', rfl, g1, g2, g3, y0, y1, y2, y3, hr0⟩ := tks_at tk (i := 0) rfl
    simp only [Nat.mul_zero, Nat.zero_add, List.length_singleton] at g1 y0 y1 y2 y3
    have gl := block_lt' y0
    have HR0 := hideR hr0
    rw [hS1] at y1
    clear tk ea HAL hr0
    go_wp2_with fail
    refine wp_region_held_drew (S := (fun w' => w'.cell? ⟨w.heap.size, 0, none⟩ = some (.int .i64 K) ∧ w'.cell? ⟨w.heap.size, 1, none⟩ = some (.string S) ∧ w'.cell? ⟨w.heap.size, 2, none⟩ = some (.slice a R.length c) ∧ w'.cell? ⟨w.heap.size, 3, none⟩ = some (.int .i64 p) ∧ w'.cell? ⟨g, 0, none⟩ = some (.int .i64 K) ∧ w'.cell? ⟨g, 1, none⟩ = some (.string S) ∧ w'.cell? ⟨g, 2, none⟩ = some (.slice a' R.length c') ∧ w'.cell? ⟨g, 3, none⟩ = some (.int .i64 0))) (by kernel_rfl) (⟨q0, q1, q2, q3, y0, y1, y2, y3⟩) (fun hHeld => ?_)
    refine wpAnyH_take (i := 0) (v := ?_) rfl (by kernel_rfl) (by kernel_rfl) (by kernel_rfl) (fun _ _ _ h => h) (Or.inl ⟨by kernel_rfl, ?_⟩) (by assumption) ?_
    rotate_left
    · intro w hSw; (try dsimp only at hSw); go_simp; (try with_reducible rfl)
    try simp only [Act.put, List.getElem_toArray, List.getElem_cons_succ, List.getElem_cons_zero, List.setIfInBounds_toArray, List.set_cons_zero, List.set_cons_succ]
    refine wpAnyH_take (i := 2) (v := ?_) rfl (by kernel_rfl) (by kernel_rfl) (by kernel_rfl) (fun _ _ _ h => h) (Or.inl ⟨by kernel_rfl, ?_⟩) (by assumption) ?_
    rotate_left
    · intro w hSw; (try dsimp only at hSw); go_simp; (try with_reducible rfl)
    try simp only [Act.put, List.getElem_toArray, List.getElem_cons_succ, List.getElem_cons_zero, List.setIfInBounds_toArray, List.set_cons_zero, List.set_cons_succ]
    refine wpAnyH_take (i := 3) (v := ?_) rfl (by kernel_rfl) (by kernel_rfl) (by kernel_rfl) (fun _ _ _ h => h) (Or.inl ⟨by kernel_rfl, ?_⟩) (by assumption) ?_
    rotate_left
    · intro w hSw; (try dsimp only at hSw); go_simp; (try with_reducible rfl)
    try simp only [Act.put, List.getElem_toArray, List.getElem_cons_succ, List.getElem_cons_zero, List.setIfInBounds_toArray, List.set_cons_zero, List.set_cons_succ]
    refine wpAnyH_ready (rs := [1]) (by kernel_rfl) (by simp) ?_
    refine AllReadyH.cons rfl (fun K hK => ?_) AllReadyH.nil
    go_simp
    refine (unhideR CM _ (BB.trans draws_b)).mono ?_; rintro e w4 ⟨rfl, b4⟩
    go_wp2_with fail
    refine hK.out _ _ (by obtain ⟨h0, h1, h2, h3, h4, h5, h6, h7⟩ := hHeld; exact ⟨keep_c b4 rfl h0, keep_c b4 rfl h1, keep_c b4 rfl h2, keep_c b4 rfl h3, keep_c b4 rfl h4, keep_c b4 rfl h5, keep_c b4 rfl h6, keep_c b4 rfl h7⟩) (fun hHeld => ?_)
    clear hK K
    try simp only [Act.put, List.getElem_toArray, List.getElem_cons_succ, List.getElem_cons_zero, List.setIfInBounds_toArray, List.set_cons_zero, List.set_cons_succ]
    refine wpAnyH_take (i := 4) (v := ?_) rfl (by kernel_rfl) (by kernel_rfl) (by kernel_rfl) (fun _ _ _ h => h) (Or.inl ⟨by kernel_rfl, ?_⟩) (by assumption) ?_
    rotate_left
    · intro w hSw; (try dsimp only at hSw); go_simp; (try with_reducible rfl)
    try simp only [Act.put, List.getElem_toArray, List.getElem_cons_succ, List.getElem_cons_zero, List.setIfInBounds_toArray, List.set_cons_zero, List.set_cons_succ]
    refine wpAnyH_take (i := 5) (v := ?_) rfl (by kernel_rfl) (by kernel_rfl) (by kernel_rfl) (fun _ _ _ h => h) (Or.inl ⟨by kernel_rfl, ?_⟩) (by assumption) ?_
    rotate_left
    · intro w hSw; (try dsimp only at hSw); go_simp; (try with_reducible rfl)
    try simp only [Act.put, List.getElem_toArray, List.getElem_cons_succ, List.getElem_cons_zero, List.setIfInBounds_toArray, List.set_cons_zero, List.set_cons_succ]
    refine wpAnyH_take (i := 6) (v := ?_) rfl (by kernel_rfl) (by kernel_rfl) (by kernel_rfl) (fun _ _ _ h => h) (Or.inl ⟨by kernel_rfl, ?_⟩) (by assumption) ?_
    rotate_left
    · intro w hSw; (try dsimp only at hSw); go_simp; (try with_reducible rfl)
    try simp only [Act.put, List.getElem_toArray, List.getElem_cons_succ, List.getElem_cons_zero, List.setIfInBounds_toArray, List.set_cons_zero, List.set_cons_succ]
    refine wpAnyH_take (i := 7) (v := ?_) rfl (by kernel_rfl) (by kernel_rfl) (by kernel_rfl) (fun _ _ _ h => h) (Or.inl ⟨by kernel_rfl, ?_⟩) (by assumption) ?_
    rotate_left
    · intro w hSw; (try dsimp only at hSw); go_simp; (try with_reducible rfl)
    try simp only [Act.put, List.getElem_toArray, List.getElem_cons_succ, List.getElem_cons_zero, List.setIfInBounds_toArray, List.set_cons_zero, List.set_cons_succ]
    refine wpAnyH_take (i := 8) (v := ?_) rfl (by kernel_rfl) (by kernel_rfl) (by kernel_rfl) (fun _ _ _ h => h) (Or.inl ⟨by kernel_rfl, ?_⟩) (by assumption) ?_
    rotate_left
    · intro w hSw; (try dsimp only at hSw); go_simp; (try with_reducible rfl)
    try simp only [Act.put, List.getElem_toArray, List.getElem_cons_succ, List.getElem_cons_zero, List.setIfInBounds_toArray, List.set_cons_zero, List.set_cons_succ]
    refine wpAnyH_take (i := 9) (v := ?_) rfl (by kernel_rfl) (by kernel_rfl) (by kernel_rfl) (fun _ _ _ h => h) (Or.inl ⟨by kernel_rfl, ?_⟩) (by assumption) ?_
    rotate_left
    · intro w hSw; (try dsimp only at hSw); go_simp; (try with_reducible rfl)
    try simp only [Act.put, List.getElem_toArray, List.getElem_cons_succ, List.getElem_cons_zero, List.setIfInBounds_toArray, List.set_cons_zero, List.set_cons_succ]
    refine wpAnyH_take (i := 10) (v := ?_) rfl (by kernel_rfl) (by kernel_rfl) (by kernel_rfl) (fun _ _ _ h => h) (Or.inl ⟨by kernel_rfl, ?_⟩) (by assumption) ?_
    rotate_left
    · intro w hSw; (try dsimp only at hSw); go_simp; (try with_reducible rfl)
    try simp only [Act.put, List.getElem_toArray, List.getElem_cons_succ, List.getElem_cons_zero, List.setIfInBounds_toArray, List.set_cons_zero, List.set_cons_succ]
    refine wpAnyH_take (i := 11) (v := ?_) rfl (by kernel_rfl) (by kernel_rfl) (by kernel_rfl) (fun _ _ _ h => h) (Or.inl ⟨by kernel_rfl, ?_⟩) (by assumption) ?_
    rotate_left
    · intro w hSw; (try dsimp only at hSw); go_simp; (try with_reducible rfl)
    try simp only [Act.put, List.getElem_toArray, List.getElem_cons_succ, List.getElem_cons_zero, List.setIfInBounds_toArray, List.set_cons_zero, List.set_cons_succ]
    refine wpAnyH_take (i := 12) (v := ?_) rfl (by kernel_rfl) (by kernel_rfl) (by kernel_rfl) (fun _ _ _ h => h) (Or.inl ⟨by kernel_rfl, ?_⟩) (by assumption) ?_
    rotate_left
    · intro w hSw; (try dsimp only at hSw); go_simp; (try with_reducible rfl)
    try simp only [Act.put, List.getElem_toArray, List.getElem_cons_succ, List.getElem_cons_zero, List.setIfInBounds_toArray, List.set_cons_zero, List.set_cons_succ]
    refine wpAnyH_take (i := 13) (v := ?_) rfl (by kernel_rfl) (by kernel_rfl) (by kernel_rfl) (fun _ _ _ h => h) (Or.inl ⟨by kernel_rfl, ?_⟩) (by assumption) ?_
    rotate_left
    · intro w hSw; (try dsimp only at hSw); go_simp; (try with_reducible rfl)
    try simp only [Act.put, List.getElem_toArray, List.getElem_cons_succ, List.getElem_cons_zero, List.setIfInBounds_toArray, List.set_cons_zero, List.set_cons_succ]
    refine wpAnyH_take (i := 14) (v := ?_) rfl (by kernel_rfl) (by kernel_rfl) (by kernel_rfl) (fun _ _ _ h => h) (Or.inl ⟨by kernel_rfl, ?_⟩) (by assumption) ?_
    rotate_left
    · intro w hSw; (try dsimp only at hSw); go_simp; (try with_reducible rfl)
    try simp only [Act.put, List.getElem_toArray, List.getElem_cons_succ, List.getElem_cons_zero, List.setIfInBounds_toArray, List.set_cons_zero, List.set_cons_succ]
    refine wpAnyH_take (i := 15) (v := ?_) rfl (by kernel_rfl) (by kernel_rfl) (by kernel_rfl) (fun _ _ _ h => h) (Or.inl ⟨by kernel_rfl, ?_⟩) (by assumption) ?_
    rotate_left
    · intro w hSw; (try dsimp only at hSw); go_simp; (try with_reducible rfl)
    try simp only [Act.put, List.getElem_toArray, List.getElem_cons_succ, List.getElem_cons_zero, List.setIfInBounds_toArray, List.set_cons_zero, List.set_cons_succ]
    refine wpAnyH_take (i := 16) (v := ?_) rfl (by kernel_rfl) (by kernel_rfl) (by kernel_rfl) (fun _ _ _ h => h) (Or.inl ⟨by kernel_rfl, ?_⟩) (by assumption) ?_
    rotate_left
    · intro w hSw; (try dsimp only at hSw); go_simp; (try with_reducible rfl)
    try simp only [Act.put, List.getElem_toArray, List.getElem_cons_succ, List.getElem_cons_zero, List.setIfInBounds_toArray, List.set_cons_zero, List.set_cons_succ]
    refine wpAnyH_take (i := 17) (v := ?_) rfl (by kernel_rfl) (by kernel_rfl) (by kernel_rfl) (fun _ _ _ h => h) (Or.inl ⟨by kernel_rfl, ?_⟩) (by assumption) ?_
    rotate_left
    · intro w hSw; (try dsimp only at hSw); go_simp; (try with_reducible rfl)
    try simp only [Act.put, List.getElem_toArray, List.getElem_cons_succ, List.getElem_cons_zero, List.setIfInBounds_toArray, List.set_cons_zero, List.set_cons_succ]
    refine wpAnyH_take (i := 18) (v := ?_) rfl (by kernel_rfl) (by kernel_rfl) (by kernel_rfl) (fun _ _ _ h => h) (Or.inl ⟨by kernel_rfl, ?_⟩) (by assumption) ?_
    rotate_left
    · intro w hSw; (try dsimp only at hSw); go_simp; (try with_reducible rfl)
    try simp only [Act.put, List.getElem_toArray, List.getElem_cons_succ, List.getElem_cons_zero, List.setIfInBounds_toArray, List.set_cons_zero, List.set_cons_succ]
    refine wpAnyH_take (i := 19) (v := ?_) rfl (by kernel_rfl) (by kernel_rfl) (by kernel_rfl) (fun _ _ _ h => h) (Or.inl ⟨by kernel_rfl, ?_⟩) (by assumption) ?_
    rotate_left
    · intro w hSw; (try dsimp only at hSw); go_simp; (try with_reducible rfl)
    try simp only [Act.put, List.getElem_toArray, List.getElem_cons_succ, List.getElem_cons_zero, List.setIfInBounds_toArray, List.set_cons_zero, List.set_cons_succ]
    refine wpAnyH_take (i := 20) (v := ?_) rfl (by kernel_rfl) (by kernel_rfl) (by kernel_rfl) (fun _ _ _ h => h) (Or.inl ⟨by kernel_rfl, ?_⟩) (by assumption) ?_
    rotate_left
    · intro w hSw; (try dsimp only at hSw); go_simp; (try with_reducible rfl)
    try simp only [Act.put, List.getElem_toArray, List.getElem_cons_succ, List.getElem_cons_zero, List.setIfInBounds_toArray, List.set_cons_zero, List.set_cons_succ]
    refine wpAnyH_ready (rs := [21]) (by kernel_rfl) (by simp) ?_
    refine AllReadyH.cons rfl (fun K hK => ?_) AllReadyH.nil
    go_simp
    refine (unhideR CS _ (BB.trans (draws_b.trans (b4.mono (by have := BB.size; show _ ≤ w3.heap.size; omega)))) a' c' (Rs.later (unhideR HR0) (bthen draws_b b4) (Nat.le_refl _))).mono ?_; rintro e w5 ⟨rfl, b5⟩
    go_wp2_with fail
    refine hK.out _ _ (by obtain ⟨h0, h1, h2, h3, h4, h5, h6, h7⟩ := hHeld; exact ⟨keep_c b5 rfl h0, keep_c b5 rfl h1, keep_c b5 rfl h2, keep_c b5 rfl h3, keep_c b5 rfl h4, keep_c b5 rfl h5, keep_c b5 rfl h6, keep_c b5 rfl h7⟩) (fun hHeld => ?_)
    clear hK K
    try simp only [Act.put, List.getElem_toArray, List.getElem_cons_succ, List.getElem_cons_zero, List.setIfInBounds_toArray, List.set_cons_zero, List.set_cons_succ]
    refine wpAnyH_take (i := 22) (v := ?_) rfl (by kernel_rfl) (by kernel_rfl) (by kernel_rfl) (fun _ _ _ h => h) (Or.inl ⟨by kernel_rfl, ?_⟩) (by assumption) ?_
    rotate_left
    · intro w hSw; (try dsimp only at hSw); go_simp; (try with_reducible rfl)
    try simp only [Act.put, List.getElem_toArray, List.getElem_cons_succ, List.getElem_cons_zero, List.setIfInBounds_toArray, List.set_cons_zero, List.set_cons_succ]
    refine wpAnyH_take (i := 23) (v := ?_) rfl (by kernel_rfl) (by kernel_rfl) (by kernel_rfl) (fun _ _ _ h => h) (Or.inl ⟨by kernel_rfl, ?_⟩) (by assumption) ?_
    rotate_left
    · intro w hSw; (try dsimp only at hSw); go_simp; (try with_reducible rfl)
    try simp only [Act.put, List.getElem_toArray, List.getElem_cons_succ, List.getElem_cons_zero, List.setIfInBounds_toArray, List.set_cons_zero, List.set_cons_succ]
    refine wpAnyH_take (i := 24) (v := ?_) rfl (by kernel_rfl) (by kernel_rfl) (by kernel_rfl) (fun _ _ _ h => h) (Or.inl ⟨by kernel_rfl, ?_⟩) (by assumption) ?_
    rotate_left
    · intro w hSw; (try dsimp only at hSw); go_simp; (try with_reducible rfl)
    try simp only [Act.put, List.getElem_toArray, List.getElem_cons_succ, List.getElem_cons_zero, List.setIfInBounds_toArray, List.set_cons_zero, List.set_cons_succ]
    refine wpAnyH_take (i := 25) (v := ?_) rfl (by kernel_rfl) (by kernel_rfl) (by kernel_rfl) (fun _ _ _ h => h) (Or.inl ⟨by kernel_rfl, ?_⟩) (by assumption) ?_
    rotate_left
    · intro w hSw; (try dsimp only at hSw); go_simp; (try with_reducible rfl)
    try simp only [Act.put, List.getElem_toArray, List.getElem_cons_succ, List.getElem_cons_zero, List.setIfInBounds_toArray, List.set_cons_zero, List.set_cons_succ]
    refine wpAnyH_done (by kernel_rfl) ?_ _
    clear CM CS q0 q1 q2 q3 y0 y1 y2 y3 HR0
    have B4 := bthen (BB.trans (draws_b.trans (b4.mono (by have := BB.size; show _ ≤ w3.heap.size; omega)))) b5
    go_wp2_with fail
    refine (unhideR CA _).mono ?_
    rintro e x1 ⟨ar, c1⟩
    clear CA
    have D1 := bthen B4 c1
    rcases ar with ⟨pa, er, ea, rfl⟩ | ⟨ta, va, ea, rfl, ka⟩
    · have er0 : (er != 0) = true := by rcases allL_err ea with rfl | rfl <;> rfl
      clear ea HBS HZS HD CX
      go_wp2_with fail
      go_ret
      exact ⟨retB (by first | rfl | simp), D1⟩
    have la := all_bound (unhideR HBS) ea
    have HOK := hideR (allL_ok (unhideR HBS) ea)
    have HLEN : Hid (∀ p ∈ ta, (textL p.1).length ≤ 3000) := all_len _ ls 0 600 ta (unhideR HBS) (Nat.le_refl _) (by have := unhideR HZS; omega) (by rw [← allL_is (by have := unhideR HZS; omega)]; exact ea)
    obtain ⟨qa, ca, rfl⟩ := tks_form ka
    have HKA := hideR ka
    have HDX : Hid (Db x1) := (unhideR HD).later D1
    clear ea HBS HZS HD ka
    go_wp2_with fail
    go_loopw [13, 14] (fun v j wr => ∃ (k : Nat) (acc : List Int), k ≤ ta.length ∧ v = .string (strOfNums acc) ∧ Hid (acc = ((ta.take k).map Prod.fst).flatMap sp) ∧ Hid (U.isBytes acc) ∧ acc.length ≤ 3001 * k ∧ j = .int .i64 (k : Int) ∧ Below x1.heap.size x1 wr) (fun _ j _ => ta.length - (intOf j).toNat)
    case atStart => exact ⟨0, [], Nat.zero_le _, rfl, (by show [] = _; simp), (fun z hz => by cases hz), by simp, rfl, Below.refl _ _⟩
    case round =>
      obtain ⟨k, acc, hk, rfl, hacc, hab, hal, rfl, hbw⟩ := hrel
      by_cases hlt : k < ta.length
      · obtain ⟨⟨t, q⟩, hta⟩ : ∃ x, ta[k]? = some x := ⟨_, List.getElem?_eq_getElem hlt⟩
        obtain ⟨ga, ra, c5, rfl, gla, fa⟩ := tks_cells (unhideR HKA) hta
        obtain ⟨y0, y1, y2, y3, hr⟩ := fa wr hbw
        have okt := unhideR HOK (t, q) (List.mem_of_getElem? hta)
        have ltx := unhideR HLEN (t, q) (List.mem_of_getElem? hta)
        simp only at okt ltx
        have C := hideR (text_ok t okt ltx ra c5 q wr hr ((unhideR HDX).later hbw))
        unfold tokAgg at C
        have sx := St.of (text_facts okt).2.2
        have st32 : St ⟨#[32]⟩ [32] := ⟨rfl, by intro z hz; simp at hz; omega⟩
        have SA := St.app (St.app (St.of (unhideR hab)) sx) st32
        have eS := hideR SA.1
        have HB : Hid (U.isBytes ((acc ++ textL t) ++ [32])) := SA.2
        have HA : Hid ((acc ++ textL t) ++ [32] = ((ta.take (k + 1)).map Prod.fst).flatMap sp) := by
          show _ = _
          rw [List.take_add_one, hta, List.map_append, List.flatMap_append, ← hacc.out, List.append_assoc]
          simp [sp]
        have hl2 : ((acc ++ textL t) ++ [32]).length ≤ 3001 * (k + 1) := by rw [List.length_append, List.length_append]; simp only [List.length_cons, List.length_nil]; omega
        have z1 : (strOfNums acc).size ≤ 1800600 := by rw [strOfNums_size]; omega
        have z2 : (strOfNums (textL t)).size ≤ 3000 := by rw [strOfNums_size]; exact ltx
        have hkI : (k : Int) < (ta.length : Int) := by omega
        clear hr okt ltx sx st32 SA fa hta hacc hab
        generalize textL t = TT at *
        generalize strOfNums t.2.1 = S1 at *
        generalize t.1 = K1 at *
        generalize t.2.2.length = M1 at *
        generalize hA2 : acc ++ TT ++ [32] = AC at *
        generalize strOfNums TT = TX at *
        generalize strOfNums acc = AX at *
        have HAC := hideR hA2
        clear hA2
        go_wp2_with fail
        refine (unhideR C).mono ?_
        rintro e x2 ⟨rfl, c2⟩
        clear C y0 y1 y2 y3
        go_wp2_with fail
        go_roundw
        case rel => exact ⟨k + 1, AC, by omega, by rw [unhideR eS], HA, HB, hl2, by go_num, hbw.trans (c2.mono hbw.size)⟩
        case measure => simp [intOf]; omega
      · obtain rfl : k = ta.length := by omega
        have eacc : acc = (ta.map Prod.fst).flatMap sp := by rw [← List.take_length (l := ta)]; exact hacc.out
        have CB := hideR (fun W => unhideR CX acc (unhideR hab) W)
        have bl := back_L (unhideR HOK) la
        rw [← eacc] at bl
        have HBL := hideR bl
        have hsa : (strOfNums acc).size = acc.length := strOfNums_size _
        have HSA := hideR hsa
        clear hacc hab eacc CX bl hsa
        generalize strOfNums acc = AX at *
        go_wp2_with fail
        refine (unhideR CB _).mono ?_
        rintro e x2 ⟨ar, c2⟩
        clear CB
        have D2 := bthen (bthen D1 hbw) c2
        rcases unhideR HBL with ⟨l1, e1⟩ | ⟨l1, tb, e1, hmap⟩
        · rcases ar with ⟨pa, er, ea, rfl⟩ | ⟨ts, vb, ea, rfl, kb⟩
          · rw [e1] at ea
            injection ea with ea
            injection ea with ea1 ea2
            subst ea1
            subst ea2
            have big1 : (3000 : Int) < (AX.size : Int) := by have := unhideR HSA; omega
            clear HBL HSA HOK HLEN HKA HDX e1
            go_wp2_with fail
            go_ret
            exact ⟨retB (by first | rfl | simp), D2⟩
          · rw [e1] at ea; cases ea
        · rcases ar with ⟨pa, er, ea, rfl⟩ | ⟨ts, vb, ea, rfl, kb⟩
          · rw [e1] at ea; cases ea
          obtain rfl : ts = tb := by rw [e1] at ea; injection ea with ea; exact ea.symm
          have hlb : ts.length = ta.length := by have := congrArg List.length hmap; simpa using this
          obtain ⟨qb, cb, rfl⟩ := tks_form kb
          have HKB := hideR kb
          have HMP := hideR hmap
          have hlb1 : (ts.length : Int) = (ta.length : Int) := by omega
          have HLB := hideR hlb
          clear HBL HSA HLEN HDX e1 ea kb hmap hlb
          go_wp2_with fail
          go_loopw [18] (fun j wz => ∃ i : Nat, i ≤ ta.length ∧ j = .int .i64 (i : Int) ∧ Below x2.heap.size x2 wz) (fun j _ => ta.length - (intOf j).toNat)
          case atStart => exact ⟨0, Nat.zero_le _, rfl, Below.refl _ _⟩
          case round =>
            obtain ⟨i, hi, rfl, hb2⟩ := hrel
            by_cases hlt : i < ta.length
            · obtain ⟨⟨t, q⟩, hta⟩ : ∃ x, ta[i]? = some x := ⟨_, List.getElem?_eq_getElem hlt⟩
              obtain ⟨q2, htb⟩ := map_at (unhideR HMP) hta
              obtain ⟨ga, ra, c5, rfl, gla, fa⟩ := tks_cells (unhideR HKA) hta
              obtain ⟨gb, rb, c6, rfl, glb, fb⟩ := tks_cells (unhideR HKB) htb
              have okt := ok_parts (unhideR HOK (t, q) (List.mem_of_getElem? hta))
              have FA := fun W (b : Below x2.heap.size x2 W) => fa W (bthen (bthen hbw c2) b)
              have C := hideR (fun W (bW : Below x2.heap.size x2 W) => same_l t t ra rb c5 c6 q q2 W okt.1 okt.2 (FA W bW).2.2.2.2 okt.1 okt.2 (fb W bW).2.2.2.2)
              have dt : decide (t = t) = true := by simp
              rw [dt] at C
              unfold tokAgg at C
              obtain ⟨y0, y1, y2, y3, -⟩ := FA _ hb2
              obtain ⟨z0, z1, z2, z3, -⟩ := fb _ hb2
              have hkI : (i : Int) < (ta.length : Int) := by omega
              generalize strOfNums t.2.1 = S1 at *
              generalize t.1 = K1 at *
              generalize t.2.2.length = M1 at *
              clear HKA HKB HMP HOK HLB okt fa fb FA dt hta htb
              go_wp2_with fail
              refine wp_region_held_drew (S := (fun w' => w'.cell? ⟨ga, i * 4, none⟩ = some (.int .i64 K1) ∧ w'.cell? ⟨ga, i * 4 + 1, none⟩ = some (.string S1) ∧ w'.cell? ⟨ga, i * 4 + 2, none⟩ = some (.slice ra M1 c5) ∧ w'.cell? ⟨ga, i * 4 + 3, none⟩ = some (.int .i64 (q : Int)) ∧ w'.cell? ⟨gb, i * 4, none⟩ = some (.int .i64 K1) ∧ w'.cell? ⟨gb, i * 4 + 1, none⟩ = some (.string S1) ∧ w'.cell? ⟨gb, i * 4 + 2, none⟩ = some (.slice rb M1 c6) ∧ w'.cell? ⟨gb, i * 4 + 3, none⟩ = some (.int .i64 (q2 : Int)))) (by kernel_rfl) (⟨y0, y1, y2, y3, z0, z1, z2, z3⟩) (fun hHeld => ?_)
              refine wpAnyH_take (i := 0) (v := ?_) rfl (by kernel_rfl) (by kernel_rfl) (by kernel_rfl) (fun _ _ _ h => h) (Or.inl ⟨by kernel_rfl, ?_⟩) (by assumption) ?_
              rotate_left
              · intro w hSw; (try dsimp only at hSw); go_simp; (try with_reducible rfl)
              try simp only [Act.put, List.getElem_toArray, List.getElem_cons_succ, List.getElem_cons_zero, List.setIfInBounds_toArray, List.set_cons_zero, List.set_cons_succ]
              refine wpAnyH_take (i := 1) (v := ?_) rfl (by kernel_rfl) (by kernel_rfl) (by kernel_rfl) (fun _ _ _ h => h) (Or.inl ⟨by kernel_rfl, ?_⟩) (by assumption) ?_
              rotate_left
              · intro w hSw; (try dsimp only at hSw); go_simp; (try with_reducible rfl)
              try simp only [Act.put, List.getElem_toArray, List.getElem_cons_succ, List.getElem_cons_zero, List.setIfInBounds_toArray, List.set_cons_zero, List.set_cons_succ]
              refine wpAnyH_take (i := 2) (v := ?_) rfl (by kernel_rfl) (by kernel_rfl) (by kernel_rfl) (fun _ _ _ h => h) (Or.inl ⟨by kernel_rfl, ?_⟩) (by assumption) ?_
              rotate_left
              · intro w hSw; (try dsimp only at hSw); go_simp; (try with_reducible rfl)
              try simp only [Act.put, List.getElem_toArray, List.getElem_cons_succ, List.getElem_cons_zero, List.setIfInBounds_toArray, List.set_cons_zero, List.set_cons_succ]
              refine wpAnyH_take (i := 3) (v := ?_) rfl (by kernel_rfl) (by kernel_rfl) (by kernel_rfl) (fun _ _ _ h => h) (Or.inl ⟨by kernel_rfl, ?_⟩) (by assumption) ?_
              rotate_left
              · intro w hSw; (try dsimp only at hSw); go_simp; (try with_reducible rfl)
              try simp only [Act.put, List.getElem_toArray, List.getElem_cons_succ, List.getElem_cons_zero, List.setIfInBounds_toArray, List.set_cons_zero, List.set_cons_succ]
              refine wpAnyH_take (i := 4) (v := ?_) rfl (by kernel_rfl) (by kernel_rfl) (by kernel_rfl) (fun _ _ _ h => h) (Or.inl ⟨by kernel_rfl, ?_⟩) (by assumption) ?_
              rotate_left
              · intro w hSw; (try dsimp only at hSw); go_simp; (try with_reducible rfl)
              try simp only [Act.put, List.getElem_toArray, List.getElem_cons_succ, List.getElem_cons_zero, List.setIfInBounds_toArray, List.set_cons_zero, List.set_cons_succ]
              refine wpAnyH_take (i := 5) (v := ?_) rfl (by kernel_rfl) (by kernel_rfl) (by kernel_rfl) (fun _ _ _ h => h) (Or.inl ⟨by kernel_rfl, ?_⟩) (by assumption) ?_
              rotate_left
              · intro w hSw; (try dsimp only at hSw); go_simp; (try with_reducible rfl)
              try simp only [Act.put, List.getElem_toArray, List.getElem_cons_succ, List.getElem_cons_zero, List.setIfInBounds_toArray, List.set_cons_zero, List.set_cons_succ]
              refine wpAnyH_take (i := 6) (v := ?_) rfl (by kernel_rfl) (by kernel_rfl) (by kernel_rfl) (fun _ _ _ h => h) (Or.inl ⟨by kernel_rfl, ?_⟩) (by assumption) ?_
              rotate_left
              · intro w hSw; (try dsimp only at hSw); go_simp; (try with_reducible rfl)
              try simp only [Act.put, List.getElem_toArray, List.getElem_cons_succ, List.getElem_cons_zero, List.setIfInBounds_toArray, List.set_cons_zero, List.set_cons_succ]
              refine wpAnyH_take (i := 7) (v := ?_) rfl (by kernel_rfl) (by kernel_rfl) (by kernel_rfl) (fun _ _ _ h => h) (Or.inl ⟨by kernel_rfl, ?_⟩) (by assumption) ?_
              rotate_left
              · intro w hSw; (try dsimp only at hSw); go_simp; (try with_reducible rfl)
              try simp only [Act.put, List.getElem_toArray, List.getElem_cons_succ, List.getElem_cons_zero, List.setIfInBounds_toArray, List.set_cons_zero, List.set_cons_succ]
              refine wpAnyH_ready (rs := [8]) (by kernel_rfl) (by simp) ?_
              refine AllReadyH.cons rfl (fun K hK => ?_) AllReadyH.nil
              go_simp
              refine (unhideR C _ (hb2.trans draws_b)).mono ?_; rintro e x3 ⟨rfl, c3⟩
              go_wp2_with fail
              refine hK.out _ _ (by obtain ⟨h0, h1, h2, h3, h4, h5, h6, h7⟩ := hHeld; exact ⟨keep_c c3 rfl h0, keep_c c3 rfl h1, keep_c c3 rfl h2, keep_c c3 rfl h3, keep_c c3 rfl h4, keep_c c3 rfl h5, keep_c c3 rfl h6, keep_c c3 rfl h7⟩) (fun hHeld => ?_)
              clear hK K
              try simp only [Act.put, List.getElem_toArray, List.getElem_cons_succ, List.getElem_cons_zero, List.setIfInBounds_toArray, List.set_cons_zero, List.set_cons_succ]
              refine wpAnyH_take (i := 9) (v := ?_) rfl (by kernel_rfl) (by kernel_rfl) (by kernel_rfl) (fun _ _ _ h => h) (Or.inl ⟨by kernel_rfl, ?_⟩) (by assumption) ?_
              rotate_left
              · intro w hSw; (try dsimp only at hSw); go_simp; (try with_reducible rfl)
              try simp only [Act.put, List.getElem_toArray, List.getElem_cons_succ, List.getElem_cons_zero, List.setIfInBounds_toArray, List.set_cons_zero, List.set_cons_succ]
              refine wpAnyH_done (by kernel_rfl) ?_ _
              clear C y0 y1 y2 y3 z0 z1 z2 z3
              go_wp2_with fail
              go_roundw
              case rel => exact ⟨i + 1, by omega, by go_num, hb2.trans (draws_b.trans (c3.mono (by have := hb2.size; exact this)))⟩
              case measure => simp [intOf]; omega
            · obtain rfl : i = ta.length := by omega
              clear HKA HKB HMP HOK HLB
              go_wp2_with fail
              go_ret
              exact ⟨rfl, bthen D2 hb2⟩
end Go.Proofs.YtcnjelbbcjpemaaGreatDoor.T

/- Slices of bytes that came in, as the row's reading tells them. -/
namespace Go.Proofs.YtcnjelbbcjpemaaGreatDoor.T
open Go.ChangeShapes Go.WideShapes Go.RowKit
set_option linter.unusedVariables false

theorem bs_trod {H : Type} {enc : TypeId × Value → H} {W : World} {base : Nat} {held : Bool} {fuel : Nat} {a : Option Addr} {len cap : Nat} {x : DataW H × List MemPlace}
    (h : DataW.trod enc Tryz.prog W base (fun _ => true) held fuel 43 [.slice a len cap] = some x) : ∃ l, Bs W a len cap l ∧ (a = Option.none → cap = 0) := by
  rcases open_ints Tryz.underlying43 Tryz.underlying5 (by kernel_rfl) h with ⟨hcs, _⟩ | ⟨y, l, c, zs, hcs, _, hl, hm, hz, _, hcell, hwz⟩
  · simp at hcs
    obtain ⟨rfl, rfl, rfl⟩ := hcs
    exact ⟨_, Bs.ofRow (zs := []) (.inl ⟨rfl, rfl, rfl, rfl⟩), fun _ => rfl⟩
  · simp at hcs
    obtain ⟨rfl, rfl, rfl⟩ := hcs
    exact ⟨_, Bs.ofRow (zs := zs) (.inr ⟨_, rfl, hl, hm, by simpa using hz, hcell, hwz⟩), fun e => by cases e⟩
end Go.Proofs.YtcnjelbbcjpemaaGreatDoor.T

/- A world in which the listed variables lie as the rows list them: a witness. -/
namespace Go.Proofs.YtcnjelbbcjpemaaGreatDoor
open Go.ChangeShapes Go.WideShapes Go.RowKit
set_option linter.unusedVariables false

abbrev laidT : List (String × DataW Unit) := [("math/bits.deBruijn32tab", Rows.laid_math_bits_deBruijn32tab), ("math/bits.deBruijn64tab", Rows.laid_math_bits_deBruijn64tab), ("internal/strconv.uint64pow10", Rows.laid_internal_strconv_uint64pow10), ("unicode/utf8.acceptRanges", Rows.laid_unicode_utf8_acceptRanges), ("unicode/utf8.first", Rows.laid_unicode_utf8_first)]
theorem firstG : Tryz.prog.globalNamed "unicode/utf8.first" = some 0 := by kernel_rfl
theorem firstT : (Tryz.prog.globals[0]?).map (·.type) = some 150 := by kernel_rfl
set_option maxRecDepth 100000 in
theorem doorT_met (os : Os) (args : Array Value) : laidMetH Tryz.prog laidT (World.forCall ({ World.doorLaid Tryz.prog 400 os with heap := (World.doorLaid Tryz.prog 400 os).heap.setIfInBounds 0 (.cells (Pinned.utf8FirstZ.map fun (n : Nat) => Value.int .u8 (n : Int)).toArray 150) }) (fun _ _ => 0) ⟨#[], args, []⟩).memory :=
  laidMetH_of_parts3 (fuel := 8) (laidMet_of_run' 8 (by kernel_rfl) (by kernel_rfl)) (by kernel_rfl) (by kernel_rfl)
theorem gDb : Tryz.prog.globalNamed "math/bits.deBruijn64tab" = some 5 := by kernel_rfl
theorem tDb : (Tryz.prog.globals[5]?).map (·.type) = some 171 := by kernel_rfl
set_option maxRecDepth 100000 in
theorem db_of_laid {W : World} (h : laidMetH Tryz.prog laidT W) : T.Db W := by
  rw [MakeChecks.laidMetH_plain _ _ _ (by kernel_rfl)] at h
  obtain ⟨ps, hv, _⟩ := h
  obtain ⟨_, _, _, _, _, _, _, _, _, _, hv, _⟩ := hv
  obtain ⟨g, t, cs, fuel, p, q, hg, ht, hvar, hd, _, _⟩ := hv
  obtain rfl := Option.some.inj (gDb.symm.trans hg)
  obtain rfl := Option.some.inj (tDb.symm.trans ht)
  have c1 : Tryz.prog.cellsOf 5 = 1 := by kernel_rfl
  have ca : Tryz.prog.cellsOf 171 = 64 := by kernel_rfl
  obtain ⟨xs, m, rfl, hx, hlen, hn, hel⟩ := DataW.trod_array Tryz.underlying171 hd
  have e := hel 15 (by decide)
  rw [c1, Nat.mul_one] at e
  rw [ca] at hlen
  have h15 : 15 < cs.toList.length := by omega
  rw [List.drop_eq_getElem_cons h15, List.take_succ_cons, List.take_zero] at e
  have hx1 := congrArg Prod.fst hx
  simp only at hx1
  unfold Rows.laid_math_bits_deBruijn64tab at hx1
  injection hx1 with hx1
  have hx2 := congrArg (fun l => l[15]?) hx1
  simp only [List.getElem?_map] at hx2
  rw [← e] at hx2
  generalize he : DataW.trod (fun _ => ()) Tryz.prog W 0 (fun _ => true) false m 5 [cs.toList[15]] = r at hx2
  cases r with
  | none => cases hx2
  | some x =>
    obtain ⟨z, e1, e2, _⟩ := DataW.trod_int Tryz.underlying5 he
    simp at e1
    have hz : DataW.lit (H := Unit) (.int .u8 4) = x.1 := Option.some.inj hx2
    rw [e2] at hz
    injection hz with hz
    injection hz with _ hz
    subst hz
    simp only [World.var?, gDb, Option.bind_some] at hvar
    split at hvar
    · next cs' t' fr he' =>
      injection hvar with hvar
      subst hvar
      unfold T.Db
      simp only [World.cell?, he']
      rw [Array.getElem?_eq_getElem (by simpa using h15)]
      simpa using e1
    · cases hvar
end Go.Proofs.YtcnjelbbcjpemaaGreatDoor

/- A slice of ranges that came in, as the row's reading tells it. -/
namespace Go.Proofs.YtcnjelbbcjpemaaGreatDoor
open Go.RowKit Go.Deep
set_option linter.unusedVariables false

theorem fits_wf {n : Int} (h : (Lit.int .i64 n).wf = true) : fits n := by
  have := bounds_i64 h
  unfold fits; omega

theorem Rs.ofTrod {H : Type} {enc : TypeId × Value → H} {W : World} {base : Nat} {spare : Nat → Bool} {held : Bool} {fuel : Nat} {a : Option Addr} {len cap : Nat} {x : DataW H × List MemPlace}
    (h : DataW.trod enc Tryz.prog W base spare held fuel 22 [.slice a len cap] = some x) : ∃ L, Rs W a len cap L := by
  rcases open_slice_pairs Tryz.underlying22 Tryz.underlying42 (by kernel_rfl) rfl rfl (by kernel_rfl) (by kernel_rfl) h with ⟨hc, -⟩ | ⟨ad, l, c, m, n, V0, V1, D0, D1, P0, P1, hc, -, hl, hm, hmm, -, hall⟩
  · simp at hc
    obtain ⟨rfl, rfl, rfl⟩ := hc
    exact ⟨[], Rs.nil W⟩
  · simp at hc
    obtain ⟨rfl, rfl, rfl⟩ := hc
    have hlm : len ≤ m := by rw [hmm]; split <;> omega
    have one : ∀ i, i < len → ∃ p q, V0 i = .int .i64 p ∧ V1 i = .int .i64 q ∧ fits p ∧ fits q := by
      intro i hi
      obtain ⟨-, -, t0, t1⟩ := hall i (by omega)
      obtain ⟨p, e0, -, w0⟩ := DataW.trod_int Tryz.underlying3 t0
      obtain ⟨q, e1, -, w1⟩ := DataW.trod_int Tryz.underlying3 t1
      simp at e0 e1
      exact ⟨p, q, e0, e1, fits_wf w0, fits_wf w1⟩
    refine ⟨(List.range len).map fun i => (intOf (V0 i), intOf (V1 i)), by simp, hl, hm, fun r hr => ?_, fun i hi => ?_⟩
    · simp only [List.mem_map, List.mem_range] at hr
      obtain ⟨i, hi, rfl⟩ := hr
      obtain ⟨p, q, e0, e1, f0, f1⟩ := one i hi
      rw [e0, e1]; exact ⟨f0, f1⟩
    · obtain ⟨p, q, e0, e1, f0, f1⟩ := one i hi
      obtain ⟨c0, c1, -, -⟩ := hall i (by omega)
      obtain ⟨b, off, spot⟩ := ad
      have hspot : spot = none := by simpa [Addr.add] using World.cell?_spot (hall 0 (by omega)).1
      subst hspot
      rw [Addr.add_lit] at c0 c1
      have eL : ((List.range len).map fun i => (intOf (V0 i), intOf (V1 i))).getD i (0, 0) = (intOf (V0 i), intOf (V1 i)) := by simp [List.getD, hi]
      rw [eL]
      refine ⟨b, off, rfl, ?_, ?_⟩
      · rw [c0, e0]; rfl
      · rw [← Nat.add_assoc] at c1; rw [c1, e1]; rfl

end Go.Proofs.YtcnjelbbcjpemaaGreatDoor

/- A token that came in, as the row's reading tells it. -/
namespace Go.Proofs.YtcnjelbbcjpemaaGreatDoor.T
open Go.ChangeShapes Go.WideShapes Go.RowKit Go.Joins
set_option linter.unusedVariables false

theorem fits_wf {n : Int} (h : (Lit.int .i64 n).wf = true) : fits n := by
  simp [Lit.wf, IntKind.min, IntKind.max, IntKind.bits, IntKind.signed] at h
  unfold fits
  omega
set_option maxRecDepth 20000 in
theorem tok_trod {H : Type} {enc : TypeId × Value → H} {W : World} {r : Reach} {b0 base : Nat} {spare : Nat → Bool} {held : Bool} {v : Value} {d : DataW H} {p : List MemPlace}
    (hv : Value.okWide Tryz.prog W r b0 24 v) (h : DataW.Trod enc Tryz.prog W base spare held 24 v d p) :
    ∃ K S a n c R q, v = .agg #[.int .i64 K, .string S, .slice a n c, .int .i64 q] ∧ fits K ∧ Rs W a n c R := by
  obtain ⟨v0, v1, v2, v3, y0, y1, y2, y3, m, rfl, -, -, h0, h1, h2, h3⟩ := open_agg4 Tryz.underlying24 (by kernel_rfl) (by kernel_rfl) hv h
  obtain ⟨K, e0, -, w0⟩ := DataW.trod_int Tryz.underlying3 h0
  obtain ⟨S, e1, -, w1⟩ := DataW.trod_string Tryz.underlying9 h1
  obtain ⟨a, n, c, e2⟩ := slice_form Tryz.underlying22 h2
  obtain ⟨q, e3, -, w3⟩ := DataW.trod_int Tryz.underlying3 h3
  simp only [List.cons.injEq, and_true] at e0 e1 e2 e3
  subst e0; subst e1; subst e2; subst e3
  obtain ⟨R, hR⟩ := Rs.ofTrod h2
  exact ⟨K, S, a, n, c, R, q, rfl, fits_wf w0, hR⟩
end Go.Proofs.YtcnjelbbcjpemaaGreatDoor.T


namespace Go.Proofs.YtcnjelbbcjpemaaGreatDoor.tokenBack
open Go.ChangeShapes Go.WideShapes Go.ChangeAt Go.RowKit
set_option linter.unusedVariables false

theorem own : ownKnob Tryz.prog.godebug = none := by kernel_rfl
theorem laidOut : laidOutB Tryz.prog = true := by kernel_rfl

theorem walk (a0 : ByteArray) (K1 : Int) (S1 : ByteArray) (a1 : Option Addr) (len1 cap1 : Nat) (L1 : List (Int × Int)) (q1 : Int) (w : World) (w0 : a0.size ≤ maxLen) (f1 : fits K1) (w1 : Rs w a1 len1 cap1 L1) (hdb : T.Db w) :
    Calls Tryz.prog 4 #[.string a0, .agg #[.int .i64 K1, .string S1, .slice a1 len1 cap1, .int .i64 q1]] w fun e w' => e = .returned (.bool true) ∧ Below w.heap.size w w' :=
  T.tokenBack_walk a0 K1 S1 a1 len1 cap1 L1 q1 w w0 f1 w1 hdb

set_option maxRecDepth 100000 in
theorem lifted (os : Os) (started : os.Started) (H : Type) (enc : TypeId × Value → H) :
    ReturnsInHanded {} Tryz.checked os 4 .any (fun w args => (Rows.tokenBackSpec.pre enc Tryz.prog Tryz.f4 [] false w args ∧ laidMetH Tryz.prog laidT w) ∧ sizedMet enc Tryz.prog Tryz.f4 (OpenSpec.ofChange Rows.tokenBackSpec) false w args)
      (Rows.tokenBackSpec.post enc Tryz.prog Tryz.f4 false true false false) := by
  refine returnsInHanded_of_change_and (C := Tryz.checked) (X := fun w _ => laidMetH Tryz.prog laidT w) (fun _ _ _ hh h => h.of_heap hh) own started (by kernel_rfl) Tryz.func4
    (ChangeSpec.witness_shaped (enc := enc) (C := Tryz.checked) (os := os) (X := fun w _ => laidMetH Tryz.prog laidT w) false ({ World.doorLaid Tryz.prog 400 os with heap := (World.doorLaid Tryz.prog 400 os).heap.setIfInBounds 0 (.cells (Pinned.utf8FirstZ.map fun (n : Nat) => Value.int .u8 (n : Int)).toArray 150) }) #[.string ⟨#[]⟩, .agg #[.int .i64 0, .string ⟨#[]⟩, .slice none 0 0, .int .i64 0]] 8 rfl (World.shaped_of_RefB (by kernel_rfl) (by kernel_rfl)) (by kernel_rfl) (by kernel_rfl) (by kernel_rfl) (doorT_met os _)) ?_
  intro W base args ds gs before hval0 hW _ _ hL _
  have hval : ∀ (j : Nat) t v, Tryz.f4.params[j]? = some t → args[j]? = some v → Value.okWide Tryz.prog W .any base t v := hval0
  have hW' := hW
  obtain ⟨p, q, hA0, hV, rfl, hfz, hnd⟩ := hW
  have hA : DataW.TrodAll enc Tryz.prog W 0 (fun _ => true) true Tryz.f4.params.toList args.toList ds p := hA0
  rw [Tryz.params4] at hA hval
  obtain ⟨v0, vs0, d0, ds0, p0, q0, hargs, rfl, rfl, h0, r0⟩ := trodAll_cons hA
  obtain ⟨v1, vs1, d1, ds1, p1, q1, rfl, rfl, rfl, h1, r1⟩ := trodAll_cons r0
  obtain ⟨rfl, rfl, rfl⟩ := trodAll_nil r1
  obtain rfl : args = #[v0, v1] := by cases args; simp_all
  obtain ⟨rfl, rfl⟩ := trodVars_none hV
  obtain ⟨a0, rfl, rfl, rfl, w0⟩ := Go.ChangeMaps.open_string Tryz.underlying9 (hval 0 9 v0 rfl rfl) h0
  have k1 := h1
  have lt1 : ∀ x ∈ p1, x.block < W.heap.size := by obtain ⟨m, hm⟩ := k1; exact DataW.trod_lt m _ _ _ hm
  obtain ⟨K1, S1, a1, len1, cap1, L1, q1, rfl, f1, w1⟩ := T.tok_trod (hval 1 24 v1 rfl rfl) h1
  clear hA0 hval0
  refine (walk a0 K1 S1 a1 len1 cap1 L1 q1 W w0 f1 w1 (db_of_laid hL)).mono fun e W' ⟨he, bel⟩ => ?_
  subst he
  exact ⟨_, rfl, _, _, _, [], _, [], hW', trodAll_mk1 (shut_bool Tryz.underlying4 _), (trodAll_cons_mk (Go.ChangeMaps.shut_string Tryz.underlying9 w0) (trodAll_cons_mk (Below.trod laidOut (by kernel_rfl) (of_decide_eq_true (by kernel_rfl)) k1 bel lt1) trodAll_mk0)), rfl, bel.frame _, fun h => by cases h⟩

theorem over : Rows.TokenBackSaid :=
  OpenClaim.holds_of_wide 4 Tryz.f4 rfl rfl rfl rfl rfl rfl rfl ⟨rfl, rfl, rfl, rfl, rfl⟩ rfl rfl rfl rfl rfl (by kernel_rfl) Tryz.func4 (by kernel_rfl)
    (of_decide_eq_true (by kernel_rfl)) (by unfold Func.isWrapper; first | (rw [if_pos (by decide +kernel)]; kernel_rfl) | (rw [if_neg (by decide +kernel)]; exact ⟨rfl, rfl⟩))
    (fun os started H enc _ => lifted os started H enc)

theorem proved : Rows.TokenBackCardSaid :=
  Claim7.holds_tied_plain_at .later [] [.data, .data, .data, .data, .pinned] true (true, "0fe175c34e2fe487b82d7703e3ced40cce0c06719f3f20a3d0e59b14c600997c") false
    over (fun _ h => by cases h) (by kernel_rfl) (fun _ h => by cases h) tokenBack_row_tie rfl ⟨rfl, rfl⟩ (by kernel_rfl) rfl
    (fun f fn hf hfn => by
      obtain rfl : f = 4 := Option.some.inj ((show Tryz.prog.funcNamed "exegete/exegetelaw05.TokenBack" = some 4 by kernel_rfl).symm.trans hf) |>.symm
      obtain rfl : fn = Tryz.f4 := (Option.some.inj (Tryz.func4.symm.trans hfn)).symm
      exact ⟨by kernel_rfl, fun j t ht => by
        rw [Tryz.params4] at ht
        have hm : t ∈ [9, 24] := by simpa using Array.mem_of_getElem? ht
        have hall : ([9, 24].all fun u => !Tryz.prog.wantsStandIn u) = true := by kernel_rfl
        exact (show Tryz.prog.wantsStandIn t = false by simpa using List.all_eq_true.1 hall t hm)⟩)
    (by kernel_rfl)
end Go.Proofs.YtcnjelbbcjpemaaGreatDoor.tokenBack

namespace Go.Proofs.YtcnjelbbcjpemaaGreatDoor
theorem tokenBack_holds : Rows.TokenBackCardSaid := tokenBack.proved
end Go.Proofs.YtcnjelbbcjpemaaGreatDoor
